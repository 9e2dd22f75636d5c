import PyProof.Rows.All
import Wide.All
import OpenK.AllK
import Wide.FinOn
import Lean
import PyProof.EqAt
import PyProof.EqKinds
import PyProof.TupleCall
import KE.BitLaws
import PySem.Challenge.RW_lampforge_k02_sayings_of_any_thing
set_option Elab.async false
set_option linter.all false
set_option maxRecDepth 100000
/-! THE HAND LAYER, for ints, bools, texts, own classes, LISTS and tuples (index, slices, in, append, pop ..), calls, loops. Paste it whole ahead of your own text; what your proof does not reach may be deleted. -/
namespace L2
open PySem PySem.Spec PyProof.Rows

/-- a key: an int or a str -/
abbrev Key := Sum Int Str
def keyIs : Key → Value → Bool
  | .inl k, v => Value.isInt k v
  | .inr x, v => Value.isStrOf x v
def keyH (w : World) : Key → Int
  | .inl k => hashInt k
  | .inr x => hashStr w x
theorem keyIs_shape : ∀ {k : Key} {v : Value}, keyIs k v = true → (∃ i t, k = Sum.inl i ∧ v = Value.int i t) ∨ (∃ x t, k = Sum.inr x ∧ v = Value.str x t)
  | .inl i, v, h => by
    obtain ⟨t, e⟩ := Value.isInt_shape (k := i) (v := v) h
    exact .inl ⟨i, t, rfl, e⟩
  | .inr x, v, h => by
    obtain ⟨t, e⟩ := Value.isStrOf_shape (x := x) (v := v) h
    exact .inr ⟨x, t, rfl, e⟩
theorem key_ll (a b : Int) : decide ((Sum.inl a : Key) = Sum.inl b) = (a == b) := by
  by_cases e : a = b
  · subst e; simp
  · have h : ¬ (Sum.inl a : Key) = Sum.inl b := fun q => e (Sum.inl.inj q)
    rw [decide_eq_false h]
    exact (beq_eq_false_iff_ne.mpr e).symm
theorem key_rr (a b : Str) : decide ((Sum.inr a : Key) = Sum.inr b) = decide (a = b) := by
  by_cases e : a = b
  · subst e; simp
  · have h : ¬ (Sum.inr a : Key) = Sum.inr b := fun q => e (Sum.inr.inj q)
    rw [decide_eq_false h, decide_eq_false e]
theorem key_lr (a : Int) (b : Str) : decide ((Sum.inl a : Key) = Sum.inr b) = false := decide_eq_false (fun q => nomatch q)
theorem key_rl (a : Str) (b : Int) : decide ((Sum.inr a : Key) = Sum.inl b) = false := decide_eq_false (fun q => nomatch q)

def mixKind (prog : Program) (w : World) : PySem.KeyKind prog w Key where
  is := keyIs
  hash := keyH w
  inj := fun v a b ha hb => by
    rcases keyIs_shape ha with ⟨i, t, rfl, rfl⟩ | ⟨x, t, rfl, rfl⟩
    · rcases keyIs_shape hb with ⟨j, u, rfl, e⟩ | ⟨y, u, rfl, e⟩
      · injection e with e1 _; rw [e1]
      · exact nomatch e
    · rcases keyIs_shape hb with ⟨j, u, rfl, e⟩ | ⟨y, u, rfl, e⟩
      · exact nomatch e
      · injection e with e1 _; rw [e1]
  byValue := fun k v h => by
    rcases keyIs_shape h with ⟨i, t, rfl, rfl⟩ | ⟨x, t, rfl, rfl⟩ <;> rfl
  pyHash := fun hv h => by
    rcases keyIs_shape hv with ⟨i, t, rfl, rfl⟩ | ⟨x, t, rfl, rfl⟩
    · exact wpAny_pyHash_int h
    · exact wpAny_pyHash_str h
  eqBool := fun hu hv h => by
    rcases keyIs_shape hu with ⟨i, t, rfl, rfl⟩ | ⟨x, t, rfl, rfl⟩
    · rcases keyIs_shape hv with ⟨j, u, rfl, rfl⟩ | ⟨y, u, rfl, rfl⟩
      · rw [key_ll] at h; exact wpAny_eqBool_int h
      · rw [key_lr] at h; exact SeqAt.EqAt.int_str i t y u _ _ _ _ h
    · rcases keyIs_shape hv with ⟨j, u, rfl, rfl⟩ | ⟨y, u, rfl, rfl⟩
      · rw [key_rl] at h; exact SeqAt.EqAt.str_int x t j u _ _ _ _ h
      · rw [key_rr] at h; exact wpAny_eqBool_str h
  «strs» := fun k x t v h => by
    rcases keyIs_shape h with ⟨i, u, rfl, e⟩ | ⟨y, u, rfl, e⟩
    · exact nomatch e
    · injection e with e1 _
      subst e1
      cases v <;> rfl

end L2

namespace L2
open PySem PySem.Spec PyProof.Rows

/-- a value, without the heap -/
inductive V where
  | non | bl (b : Bool) | int (i : Int) | str (x : Str) | byt (b : Array UInt8) | flt (b : UInt64) | ref (a : Addr) | ty (n : String)
  deriving DecidableEq

def RelV : V → Value → Prop
  | .non, u => u = Value.none
  | .bl b, u => u = Value.bool b
  | .int i, u => ∃ t, u = Value.int i t
  | .str x, u => ∃ t, u = Value.str x t
  | .byt b, u => ∃ t, u = Value.bytes b t
  | .flt b, u => ∃ t, u = Value.float b t
  | .ref a, u => u = Value.ref a
  | .ty n, u => u = Value.type n

abbrev Vals : List V → List Value → Prop := Paired RelV
theorem Vals.length {xs : List V} {us : List Value} (r : Vals xs us) : xs.length = us.length := Paired.length r
theorem Vals.get : ∀ {xs : List V} {us : List Value} {i : Nat} {x : V}, Vals xs us → xs[i]? = some x → ∃ u, us[i]? = some u ∧ RelV x u
  | _, _, _, _, .nil, e => by simp at e
  | _, _, 0, _, .cons r _, e => by simp at e; subst e; exact ⟨_, rfl, r⟩
  | _, _, i + 1, x, .cons _ t, e => by
    obtain ⟨u, h1, h2⟩ := Vals.get (i := i) (x := x) t (by simpa using e)
    exact ⟨u, by simpa using h1, h2⟩
theorem Vals.set {x : V} {u : Value} (r : RelV x u) : ∀ {xs : List V} {us : List Value} (i : Nat), Vals xs us → Vals (xs.set i x) (us.set i u)
  | _, _, _, .nil => .nil
  | _, _, 0, .cons _ t => .cons r t
  | _, _, i + 1, .cons q t => .cons q (Vals.set r i t)
theorem Vals.append : ∀ {xs ys : List V} {us ws : List Value}, Vals xs us → Vals ys ws → Vals (xs ++ ys) (us ++ ws)
  | _, _, _, _, .nil, s => s
  | _, _, _, _, .cons r t, s => .cons r (Vals.append t s)
theorem Vals.take : ∀ {xs : List V} {us : List Value} (n : Nat), Vals xs us → Vals (xs.take n) (us.take n)
  | _, _, 0, _ => .nil
  | _, _, _ + 1, .nil => .nil
  | _, _, n + 1, .cons r t => .cons r (Vals.take n t)
theorem Vals.drop : ∀ {xs : List V} {us : List Value} (n : Nat), Vals xs us → Vals (xs.drop n) (us.drop n)
  | _, _, 0, r => r
  | _, _, _ + 1, .nil => .nil
  | _, _, n + 1, .cons _ t => Vals.drop n t
def RelO : Option V → Option Value → Prop
  | some v, some u => RelV v u
  | none, none => True
  | _, _ => False
def KV {κ : Type} : List (κ × V) → List (κ × Value) → Prop := Paired fun (p : κ × V) (q : κ × Value) => p.1 = q.1 ∧ RelV p.2 q.2

/-- a key of a dict (00_mix): an int or a text -/
def kV : Key → V
  | .inl i => .int i
  | .inr x => .str x

/-- what stands at a tracked address -/
inductive HO where
  /-- a list -/
  | lst (xs : List V)
  /-- a tuple (never changes) -/
  | tup (xs : List V)
  /-- a dict whose keys are ints and texts; one whose keys are tuples of ints and texts (the empty one is both) -/
  | dK (kvs : List (Key × V)) | dT (kvs : List (List Key × V))
  /-- a set of ints: its members, its size -/
  | set (S : Int → Bool) (n : Nat)
  /-- an instance of the class at C, its dict at dx, its attributes -/
  | ins (C dx : Addr) (fs : List (Str × V))
  /-- the dict of the instance at x -/
  | own (x : Addr)
  /-- the dict of an exception -/
  | xd (fs : List (Str × V))
  /-- a bound method, f of x -/
  | met (f x : Addr)
  /-- a range object lo, lo + 1, .. below hi -/
  | rng (lo hi : Int)
  /-- a thing that is known to the object (the script; a dict while a loop walks it): read, never written while it is so -/
  | frz (o : Obj) (u : HO)
  /-- a code object's table -/
  | tbl (ps : Array Value)
  /-- any other thing, by what is true of its one object (a def of one's own: SetO a S n := HO.ext fun h => ..) -/
  | ext (φ : Heap → Prop)

abbrev Hp := Addr → Option HO
def upd (H : Hp) (a : Addr) (o : HO) : Hp := fun b => if b = a then some o else H b
theorem upd_same {H : Hp} {a : Addr} {o : HO} : upd H a o a = some o := by unfold upd; rw [if_pos rfl]
theorem upd_ne {H : Hp} {a b : Addr} {o : HO} (h : b ≠ a) : upd H a o b = H b := by unfold upd; rw [if_neg h]
theorem ne_of_none {H : Hp} {a b : Addr} {o : HO} (h : H a = some o) (h' : H b = none) : a ≠ b := by
  intro e; subst e; rw [h] at h'; cases h'

section
variable (P : Program) (w : World)
def ObjOk (H : Hp) (h : Heap) (a : Addr) : HO → Prop
  | .lst xs => xs.length ≤ sizeLine ∧ ∃ (its : List Value) (n : Nat), Vals xs its ∧ h.get? a = some { cls := .type "list", data := .seq its.toArray n }
  | .tup xs => xs.length ≤ sizeLine ∧ ∃ its : List Value, Vals xs its ∧ IsTup h a its.toArray
  | .dK kvs => kvs.length ≤ sizeLine ∧ (a == sysModules) = false ∧ ∃ vs, KV kvs vs ∧ h.DictOf (mixKind P w) a vs
  | .dT kvs => kvs.length ≤ sizeLine ∧ (a == sysModules) = false ∧ ∃ xs : List (List Key × Addr × Value),
      Paired (fun (p : List Key × V) (q : List Key × Addr × Value) => p.1 = q.1 ∧ H q.2.1 = some (.tup (p.1.map kV)) ∧ RelV p.2 q.2.2) kvs xs ∧
      ∃ o es ep, h.get? a = some o ∧ o.ExactDict ∧ o.data = .dict es ep ∧ es.toList = xs.map (entryOfKey (tupleKind (mixKind P w))) ∧ (xs.map (·.1)).Nodup
  | .set S n => h.SetOf (intKind P w) a S n
  | .ins C dx fs => H dx = some (.own a) ∧ fs.length ≤ 1000 ∧ dx ≠ a ∧ h.get? a = some (PySem.W.instObj C dx) ∧
      ∃ mA, h.Ns1 dx mA ∧ (∀ f, RelO (fs.lookup f) (mA f)) ∧ PySem.Within mA (fs.map (·.1))
  | .own _ => ∃ o, h.get? a = some o
  | .xd fs => ∃ mA, h.Ns1 a mA ∧ ∀ f, RelO (fs.lookup f) (mA f)
  | .rng lo hi => ∃ t u v, h.get? a = some { cls := .type "range", data := .fields #[.int lo t, .int hi u, .int 1 v] }
  | .frz o u => h.get? a = some o ∧ ObjOk H h a u
  | .tbl ps => h.get? a = some { cls := .none, data := .fields ps }
  | .met f x => h.get? a = some (PySem.W.methodObj (.ref f) (.ref x))
  | .ext φ => φ h ∧ (∃ o, h.get? a = some o) ∧ ∀ h1 h2 : Heap, φ h1 → (∀ o, h1.get? a = some o → h2.get? a = some o) → φ h2
/-- the abstract heap is held -/
def HOk (H : Hp) (h : Heap) : Prop := ∀ a o, H a = some o → ObjOk P w H h a o
end

section
variable {P : Program} {w : World} {H H' : Hp} {h h' : Heap} {a : Addr} {o : HO}
theorem ObjOk.lt (x : ObjOk P w H h a o) : a < h.objs.size := by
  cases o with
  | lst xs => obtain ⟨_, _, _, _, e⟩ := x; exact Heap.lt_size e
  | tup xs => obtain ⟨_, _, _, p⟩ := x; exact p.lt
  | dK kvs => obtain ⟨_, _, _, _, o, _, _, e, _⟩ := x; exact Heap.lt_size e
  | dT kvs => obtain ⟨_, _, _, _, o, _, _, e, _⟩ := x; exact Heap.lt_size e
  | set S n => obtain ⟨o, _, _, _, e, _⟩ := x; exact Heap.lt_size e
  | ins C dx fs => obtain ⟨_, _, _, e, _⟩ := x; exact Heap.lt_size e
  | own y => obtain ⟨_, e⟩ := x; exact Heap.lt_size e
  | xd fs => obtain ⟨_, ⟨_, _, _, e, _⟩, _⟩ := x; exact Heap.lt_size e
  | rng lo hi => obtain ⟨_, _, _, e⟩ := x; exact Heap.lt_size e
  | frz ob u => obtain ⟨e, _⟩ := x; exact Heap.lt_size e
  | tbl ps => exact Heap.lt_size (show h.get? a = some _ from x)
  | met f y => exact Heap.lt_size (show h.get? a = some _ from x)
  | ext φ => obtain ⟨_, ⟨_, e⟩, _⟩ := x; exact Heap.lt_size e
theorem Paired.mapP {α β : Type} {F G : α → β → Prop} : ∀ {l₁ : List α} {l₂ : List β}, Paired F l₁ l₂ → (∀ a b, F a b → G a b) → Paired G l₁ l₂
  | _, _, .nil, _ => .nil
  | _, _, .cons r t, f => .cons (f _ _ r) (Paired.mapP t f)
/-- what an object's description leans on: its own object, its own dict, the tuples -/
theorem ObjOk.stay (x : ObjOk P w H h a o) (k : ∀ b u, (b = a ∨ H b = some (.own a)) → h.get? b = some u → h'.get? b = some u)
    (ho : ∀ b, H b = some (.own a) → H' b = some (.own a)) (ht : ∀ b xs, H b = some (.tup xs) → H' b = some (.tup xs)) : ObjOk P w H' h' a o := by
  induction o with
  | lst xs => obtain ⟨z, its, n, r, e⟩ := x; exact ⟨z, its, n, r, k _ _ (.inl rfl) e⟩
  | tup xs => obtain ⟨z, its, r, ob, e, c⟩ := x; exact ⟨z, its, r, ob, k _ _ (.inl rfl) e, c⟩
  | dK kvs => obtain ⟨z, y, vs, r, ob, es, ep, e, c⟩ := x; exact ⟨z, y, vs, r, ob, es, ep, k _ _ (.inl rfl) e, c⟩
  | dT kvs =>
    obtain ⟨z, y, xs, r, ob, es, ep, e, c⟩ := x
    exact ⟨z, y, xs, Paired.mapP r fun p q z => ⟨z.1, ht _ _ z.2.1, z.2.2⟩, ob, es, ep, k _ _ (.inl rfl) e, c⟩
  | set S n => obtain ⟨ob, es, ep, t, e, c⟩ := x; exact ⟨ob, es, ep, t, k _ _ (.inl rfl) e, c⟩
  | ins C dx fs =>
    obtain ⟨d, z, ne, e, mA, ⟨od, es, ep, e2, c⟩, r⟩ := x
    exact ⟨ho _ d, z, ne, k _ _ (.inl rfl) e, mA, ⟨od, es, ep, k _ _ (.inr d) e2, c⟩, r⟩
  | own y => obtain ⟨ob, e⟩ := x; exact ⟨ob, k _ _ (.inl rfl) e⟩
  | xd fs => obtain ⟨mA, ⟨od, es, ep, e, c⟩, r⟩ := x; exact ⟨mA, ⟨od, es, ep, k _ _ (.inl rfl) e, c⟩, r⟩
  | rng lo hi => obtain ⟨t, u, v, e⟩ := x; exact ⟨t, u, v, k _ _ (.inl rfl) e⟩
  | frz ob u ih => obtain ⟨e, q⟩ := x; exact ⟨k _ _ (.inl rfl) e, ih q⟩
  | tbl ps =>
    have e : h.get? a = some { cls := .none, data := .fields ps } := x
    show h'.get? a = some { cls := .none, data := .fields ps }
    exact k a _ (.inl rfl) e
  | met f y =>
    have e : h.get? a = some (PySem.W.methodObj (.ref f) (.ref y)) := x
    show h'.get? a = some (PySem.W.methodObj (.ref f) (.ref y))
    exact k a _ (.inl rfl) e
  | ext φ => obtain ⟨p, ⟨o, e⟩, st⟩ := x; exact ⟨st _ _ p fun o q => k _ _ (.inl rfl) q, ⟨o, k _ _ (.inl rfl) e⟩, st⟩
theorem HOk.lt (x : HOk P w H h) (e : H a = some o) : a < h.objs.size := (x a o e).lt
theorem HOk.fresh (x : HOk P w H h) (e : h.objs.size ≤ a) : H a = none := by
  cases q : H a with
  | none => rfl
  | some u => exact absurd (Nat.lt_of_lt_of_le (x.lt q) e) (Nat.lt_irrefl _)
/-- every object of the heap is kept -/
theorem HOk.kept (x : HOk P w H h) (k : ∀ b u, h.get? b = some u → h'.get? b = some u) : HOk P w H h' := fun a o e =>
  (x a o e).stay (fun b u _ q => k b u q) (fun _ q => q) fun _ _ q => q
/-- a new object is laid and tracked -/
theorem HOk.laid (x : HOk P w H h) (k : ∀ b u, h.get? b = some u → h'.get? b = some u) (hp : h.objs.size ≤ a) (new : ObjOk P w (upd H a o) h' a o) : HOk P w (upd H a o) h' := fun b u e => by
  have hn := x.fresh hp
  by_cases hb : b = a
  · subst hb; rw [upd_same] at e; cases e; exact new
  · rw [upd_ne hb] at e
    exact (x b u e).stay (fun c v _ q => k c v q) (fun c q => by rw [upd_ne (ne_of_none q hn)]; exact q) fun c xs q => by rw [upd_ne (ne_of_none q hn)]; exact q
end

/-- what may be read as u: it is u, or a known u -/
def Rd (H : Hp) (a : Addr) (u : HO) : Prop := H a = some u ∨ ∃ o, H a = some (.frz o u)
theorem Rd.ok {P : Program} {w : World} {H : Hp} {h : Heap} {a : Addr} {u : HO} (r : Rd H a u) (x : HOk P w H h) : ObjOk P w H h a u := by
  rcases r with r | ⟨o, r⟩
  · exact x a u r
  · obtain ⟨_, q⟩ := x a _ r
    exact q
/-- what may be written -/
def Mut : Option HO → Prop
  | some (.lst _) => True
  | some (.dK _) => True
  | some (.dT _) => True
  | some (.set _ _) => True
  | some (.ins _ _ _) => True
  | some (.ext _) => True
  | _ => False
section
variable {P : Program} {w : World} {H : Hp} {h h' : Heap} {x e : Addr} {o' : HO}
/-- the object at e is changed: x itself, or the dict of the instance x -/
theorem HOk.write (ok : HOk P w H h) (mu : Mut (H x)) (he : e = x ∨ H e = some (.own x)) (k : ∀ b u, b ≠ e → h.get? b = some u → h'.get? b = some u) (heo : ∃ u, h'.get? e = some u)
    (new : ObjOk P w (upd H x o') h' x o') : HOk P w (upd H x o') h' := fun b u q => by
  have nown : ∀ c y, H c = some (.own y) → c ≠ x := fun c y r z => by subst z; rw [r] at mu; exact mu
  have ntup : ∀ c xs, H c = some (.tup xs) → c ≠ x := fun c xs r z => by subst z; rw [r] at mu; exact mu
  by_cases hb : b = x
  · subst hb; rw [upd_same] at q; cases q; exact new
  · rw [upd_ne hb] at q
    by_cases hbe : b = e
    · have q' : H b = some (.own x) := by
        rcases he with z | z
        · exact absurd (hbe.trans z) hb
        · rw [hbe]; exact z
      rw [q] at q'; cases q'
      obtain ⟨v, hv⟩ := heo
      exact ⟨v, by rw [hbe]; exact hv⟩
    · refine (ok b u q).stay (fun c v hc r => k c v ?_ r) (fun c r => by rw [upd_ne (nown c b r)]; exact r) fun c xs r => by rw [upd_ne (ntup c xs r)]; exact r
      rcases hc with rfl | hc
      · exact hbe
      · rintro rfl
        rcases he with z | z
        · exact nown c b hc z
        · rw [hc] at z; cases z; exact hb rfl
end

/-! ### kept unless tracked; of the frames at fs (the callers') the slots may change (an exception that passes writes there); of the records at ex (iterators) nothing is said -/
structure Un (fs ex : List Addr) (H H' : Hp) (h h' : Heap) : Prop where
  keep : ∀ b o, h.get? b = some o → H b = none → b ∉ fs → b ∉ ex → h'.get? b = some o
  slot : ∀ b o, h.get? b = some o → H b = none → b ∈ fs → b ∉ ex → ∃ sl, h'.get? b = some { o with slots := sl }
  free : ∀ b o, h.get? b = some o → H b = none → b ∉ ex → H' b = none
  there : ∀ b o, h.get? b = some o → b ∉ ex → ∃ o', h'.get? b = some o'
  tups : ∀ b xs, H b = some (.tup xs) → H' b = some (.tup xs)
  frzs : ∀ b o u, H b = some (.frz o u) → H' b = some (.frz o u)
  tbls : ∀ b ps, H b = some (.tbl ps) → ∃ more, H' b = some (.tbl (ps ++ more))
section
variable {fs fs' ex ex' : List Addr} {H H1 H2 : Hp} {h h1 h2 h' : Heap} {a x e : Addr} {o : HO}
theorem Un.any (u : Un fs ex H H1 h h1) {b : Addr} {ob : Obj} (q : h.get? b = some ob) (n : H b = none) (hx : b ∉ ex) : ∃ sl, h1.get? b = some { ob with slots := sl } := by
  by_cases hb : b ∈ fs
  · exact u.slot b ob q n hb hx
  · exact ⟨ob.slots, u.keep b ob q n hb hx⟩
theorem Un.kept (k : ∀ b u, h.get? b = some u → h'.get? b = some u) : Un fs ex H H h h' :=
  ⟨fun b ob q _ _ _ => k b ob q, fun b ob q _ _ _ => ⟨ob.slots, k b ob q⟩, fun _ _ _ n _ => n, fun b ob q _ => ⟨ob, k b ob q⟩, fun _ _ q => q, fun _ _ _ q => q, fun _ ps q => ⟨#[], by rw [q]; simp⟩⟩
theorem Un.refl : Un fs ex H H h h := Un.kept fun _ _ q => q
theorem Un.laid (k : ∀ b u, h.get? b = some u → h'.get? b = some u) (hp : h.objs.size ≤ a) (hn : H a = none) : Un fs ex H (upd H a o) h h' where
  keep := fun b u q _ _ _ => k b u q
  slot := fun b u q _ _ _ => ⟨u.slots, k b u q⟩
  free := fun b u q n _ => by rw [upd_ne (Nat.ne_of_lt (Nat.lt_of_lt_of_le (Heap.lt_size q) hp))]; exact n
  there := fun b u q _ => ⟨u, k b u q⟩
  tups := fun b xs q => by rw [upd_ne (ne_of_none q hn)]; exact q
  frzs := fun b u xs q => by rw [upd_ne (ne_of_none q hn)]; exact q
  tbls := fun b ps q => ⟨#[], by rw [upd_ne (ne_of_none q hn), q]; simp⟩
theorem Un.write (mu : Mut (H x)) (he : e = x ∨ H e = some (.own x)) (k : ∀ b u, b ≠ e → h.get? b = some u → h'.get? b = some u) (heo : ∃ u, h'.get? e = some u) : Un fs ex H (upd H x o) h h' := by
  have hx : ∀ b, H b = none → b ≠ x := fun b n z => by subst z; rw [n] at mu; exact mu
  have hb : ∀ b, H b = none → b ≠ e := fun b n z => by
    subst z
    rcases he with r | r
    · exact hx b n r
    · rw [n] at r; cases r
  have hm : ∀ b u, H b = some u → ¬ Mut (some u) → b ≠ x := fun b u q nm z => by subst z; rw [q] at mu; exact nm mu
  refine ⟨fun b u q n _ _ => k b u (hb b n) q, fun b u q n _ _ => ⟨u.slots, k b u (hb b n) q⟩, fun b u q n _ => by rw [upd_ne (hx b n)]; exact n, fun b u q _ => ?_,
    fun b xs q => by rw [upd_ne (hm b _ q fun z => z)]; exact q, fun b u xs q => by rw [upd_ne (hm b _ q fun z => z)]; exact q, fun b ps q => ⟨#[], by rw [upd_ne (hm b _ q fun z => z), q]; simp⟩⟩
  by_cases hbe : b = e
  · subst hbe; exact heo
  · exact ⟨u, k b u hbe q⟩
end

/-! ### the heap without what is tracked -/
def trk (h : Heap) (H : Hp) : List Addr := (List.range h.objs.size).filter fun a => (H a).isSome
def hidT (h : Heap) (H : Hp) : Heap := PySem.W.hideAll h (trk h H)
theorem hidT_size (h : Heap) (H : Hp) : (hidT h H).objs.size = h.objs.size := PySem.W.hideAll_size _ _
theorem hidT_get {h : Heap} {H : Hp} {b : Addr} {o : Obj} (e : h.get? b = some o) (n : H b = none) : (hidT h H).get? b = some o :=
  PySem.W.hideAll_get _ e fun hm => by
    have q : (H b).isSome = true := (List.mem_filter.mp hm).2
    rw [n] at q; simp at q
theorem of_hidT {h : Heap} {H : Hp} {b : Addr} {o : Obj} (e : (hidT h H).get? b = some o) : h.get? b = some o ∧ H b = none := by
  have e' : h.get? b = some o := PySem.W.of_hideAll (trk h H) e
  refine ⟨e', ?_⟩
  cases q : H b with
  | none => rfl
  | some x =>
    have hm : b ∈ trk h H := List.mem_filter.mpr ⟨List.mem_range.mpr (Heap.lt_size e'), by simp [q]⟩
    have z : (hidT h H).get? b = none := PySem.W.hideAll_none (trk h H) hm
    rw [z] at e; cases e

/-! ### OpenK's ledger, filled with every new object but one -/
def allNews (g h : Heap) (L : Addr) : List (Addr × Obj) := (List.range h.objs.size).filterMap fun a => if a = L ∨ (g.get? a).isSome = true then none else (h.get? a).map fun o => (a, o)
def rest (g h : Heap) (L d : Addr) : List (Addr × Obj) := (allNews g h L).filter fun p => decide (p.1 ≠ d)
end L2

namespace L2
open PySem PySem.Spec PyProof.Rows

/-- the module's facts, over the base: the heap at the law's entry without what is tracked there -/
structure Mod (K : PySem.W.Frag) (mg : Str → Option Value) (base : Heap) : Prop where
  kin : K.In base
  glob : base.Ns mainGlobals mg
  blt : ∃ mb, base.Ns builtinsNs mb ∧ ∀ x : Str, x ≠ "__name__" → mb x = bootBuiltins x
  nolimit : base.NoLimit

/-- the context: a def's body (or a comprehension's block) running. base: fixed through the whole law; s₀, H₀: the entry; outer: the frames whose slots others may change (a def's callers); stack: all frames that run;
   ex: iterators that were made ahead of the entry and are walked here (a comprehension's); fn: the names whose cells were made at the entry (a def: all; a comprehension's block: its own); calm: not within an except suite; pn: pins that every state bears; xe: what is wanted of an exception that leaves the code -/
structure Cx where
  prog : Program
  w : World
  K : PySem.W.Frag
  mg : Str → Option Value
  base : Heap
  A : Around
  N : List Str
  s₀ : Shared
  H₀ : Hp
  env : Env
  outer : List Env
  stack : List Env
  ex : List Addr
  fn : Str → Bool
  calm : Bool
  pn : List (Addr × Obj)
  xe : Value → Shared → Prop
/-- the callers' frames -/
def frs (l : List Env) : List Addr := l.filterMap (·.frame)
abbrev Cx.fs (X : Cx) : List Addr := frs X.outer

def Vis (sc : Scope) (x : Str) : Prop := sc.names.lookup x = some .local ∨ sc.names.lookup x = some .cell ∨ sc.names.lookup x = some .free
def Loc (sc : Scope) (x : Str) : Prop := sc.names.lookup x = some .local ∨ sc.names.lookup x = some .cell
def Look (env : Env) (h : Heap) (m : Str → Option Value) (x : Str) (u : Value) : Prop :=
  (env.kindOf x = some .local ∧ m x = some u) ∨ ((env.kindOf x = some .cell ∨ env.kindOf x = some .free) ∧ ∃ c, env.cells.lookup x = some c ∧ h.IsCell c (some u))

structure Cx.Ok (X : Cx) : Prop where
  mod : Mod X.K X.mg X.base
  kind : X.env.scope.kind = .function
  glob : X.env.globals = mainGlobals
  blt : X.env.builtins = builtinsNs
  above : X.s₀.heap.objs.size ≤ X.env.locals
  inj : ∀ x y c, X.env.cells.lookup x = some c → X.env.cells.lookup y = some c → x = y
  has : ∀ x, (X.env.kindOf x = some .cell ∨ X.env.kindOf x = some .free) → ∃ c, X.env.cells.lookup x = some c
  cab : ∀ x c, X.fn x = true → X.env.cells.lookup x = some c → X.s₀.heap.objs.size ≤ c
  hd : X.calm = true → X.A.handled = none
  frames : X.A.frames = some X.stack
  stk : X.stack = X.outer ∨ (X.stack = X.env :: X.outer ∧ X.env.frame = some X.env.locals)
  exf : ∀ b ∈ X.ex, b ≠ X.env.locals ∧ ∀ x c, X.env.cells.lookup x = some c → c ≠ b
  bs : ∀ b o, X.base.get? b = some o → X.s₀.heap.get? b = some o ∧ X.H₀ b = none
  bsz : X.base.objs.size ≤ X.s₀.heap.objs.size
  noex : ∀ b o, X.base.get? b = some o → b ∉ X.ex
  exfs : ∀ b ∈ X.ex, b ∉ X.fs
  funs : X.s₀.heap.FunFrames X.base X.outer
  frf : ∀ b ∈ X.fs, X.H₀ b = none

structure Inv (X : Cx) (pins : List (Addr × Obj)) (σ : List (Option V)) (H : Hp) (s : Shared) : Prop where
  ok : X.Ok
  os : s.os = X.s₀.os
  bare : AllBare s.gens
  base : Un X.fs X.ex X.H₀ H X.s₀.heap s.heap
  loc : ∃ m, s.heap.Ns X.env.locals m ∧ ∀ (i : Nat) (x : Str) (v : V), X.N[i]? = some x → σ[i]? = some (some v) → Vis X.env.scope x → ∃ u, RelV v u ∧ Look X.env s.heap m x u
  cell : ∀ x c, X.env.cells.lookup x = some c → ∃ v, s.heap.IsCell c v
  free : H X.env.locals = none
  freeC : ∀ x c, X.env.cells.lookup x = some c → H c = none
  pin : ∀ p ∈ X.pn ++ pins, s.heap.get? p.1 = some p.2 ∧ H p.1 = none ∧ p.1 ≠ X.env.locals ∧ p.1 ∉ X.fs ∧ ∀ v, p.2.data ≠ .cell v
  hok : HOk X.prog X.w H s.heap
  len : σ.length = X.N.length

section
variable {X : Cx} {pins : List (Addr × Obj)} {σ : List (Option V)} {H H' : Hp} {s : Shared} {h' : Heap}

theorem Cx.Ok.nofr (ok : X.Ok) {b : Addr} {o : Obj} (e : X.base.get? b = some o) : b ∉ X.fs := fun hb => by
  have := (ok.funs.mem hb).1
  rw [e] at this; cases this
theorem Inv.bs (I : Inv X pins σ H s) : ∀ b o, X.base.get? b = some o → s.heap.get? b = some o ∧ H b = none := fun b o e =>
  ⟨I.base.keep b o (I.ok.bs b o e).1 (I.ok.bs b o e).2 (I.ok.nofr e) (I.ok.noex b o e), I.base.free b o (I.ok.bs b o e).1 (I.ok.bs b o e).2 (I.ok.noex b o e)⟩
theorem Inv.bk (I : Inv X pins σ H s) : ∀ b o, X.base.get? b = some o → s.heap.get? b = some o := fun b o e => (I.bs b o e).1
theorem Inv.mod (I : Inv X pins σ H s) : Mod X.K X.mg X.base := I.ok.mod
theorem Inv.kIn (I : Inv X pins σ H s) : X.K.In s.heap := I.ok.mod.kin.keeps I.bk
theorem Inv.lt (I : Inv X pins σ H s) : X.env.locals < s.heap.objs.size := let ⟨_, hn, _⟩ := I.loc; hn.lt
theorem Inv.sz (I : Inv X pins σ H s) : X.s₀.heap.objs.size ≤ s.heap.objs.size := Nat.le_trans I.ok.above (Nat.le_of_lt I.lt)
theorem Inv.nofs (I : Inv X pins σ H s) {a : Addr} (h : s.heap.objs.size ≤ a) : a ∉ X.fs := fun hb => by
  obtain ⟨_, o, ho, _⟩ := I.ok.funs.mem hb
  exact absurd (Nat.lt_of_lt_of_le (Heap.lt_size ho) (Nat.le_trans I.sz h)) (Nat.lt_irrefl _)
theorem Inv.cne (I : Inv X pins σ H s) : ∀ x c, X.env.cells.lookup x = some c → c ≠ X.env.locals := fun x c e z => by
  obtain ⟨v, o, ho, hd⟩ := I.cell x c e
  obtain ⟨m, ⟨o', es, ep, ho', hd', _⟩, _⟩ := I.loc
  rw [z, ho'] at ho; cases ho; rw [hd'] at hd; cases hd
theorem Inv.funs (I : Inv X pins σ H s) : s.heap.FunFrames X.base X.outer := by
  have all : ∀ (l : List Env), (∀ b ∈ frs l, b ∈ X.fs) → X.s₀.heap.FunFrames X.base l → s.heap.FunFrames X.base l := by
    intro l
    induction l with
    | nil => intro _ _; trivial
    | cons env r ih =>
      intro hs hl
      obtain ⟨hk, ⟨L, o, hf, hn, ho, hd⟩, hr⟩ := hl
      have hL : L ∈ X.fs := hs L (by unfold frs; rw [List.filterMap_cons, hf]; exact List.mem_cons_self)
      obtain ⟨sl, e⟩ := I.base.slot L o ho (I.ok.frf L hL) hL fun z => I.ok.exfs L z hL
      exact ⟨hk, ⟨L, _, hf, hn, e, hd⟩, ih (fun b hb => hs b (by unfold frs; rw [List.filterMap_cons, hf]; exact List.mem_cons_of_mem _ hb)) hr⟩
  exact all X.outer (fun _ hb => hb) I.ok.funs

/-- the frames that run, for a call -/
theorem Inv.stack (I : Inv X pins σ H s) : s.heap.FunFrames X.base X.stack := by
  rcases I.ok.stk with e | ⟨e, hf⟩
  · rw [e]; exact I.funs
  · rw [e]
    obtain ⟨m, hn, _⟩ := I.loc
    refine .cons (by rw [I.ok.kind]; decide) hf hn ?_ I.funs
    exact Heap.get?_none_of_le (Nat.le_trans I.ok.bsz I.ok.above)
theorem Inv.stkSub (I : Inv X pins σ H s) : ∀ b ∈ frs X.stack, b ∈ X.env.locals :: X.fs := fun b hb => by
  rcases I.ok.stk with e | ⟨e, hf⟩
  · rw [e] at hb; exact List.mem_cons_of_mem _ hb
  · rw [e] at hb
    unfold frs at hb
    rw [List.filterMap_cons, hf] at hb
    exact hb
theorem Inv.stkFree (I : Inv X pins σ H s) : ∀ b ∈ frs X.stack, H b = none := fun b hb => by
  rcases List.mem_cons.mp (I.stkSub b hb) with e | hb
  · rw [e]; exact I.free
  · obtain ⟨_, o, ho, _⟩ := I.ok.funs.mem hb
    exact I.base.free b o ho (I.ok.frf b hb) fun z => I.ok.exfs b z hb

/-- THE STEP: the untracked objects but the frame and the records at ch are kept (the callers' frames up to slots), the frame's map is kept, the new abstract heap is held -/
theorem Inv.step {g' : Array GenState} {t' : Nat} {d' : Drawn} {ch : List Addr} (I : Inv X pins σ H s)
    (hch : ∀ b ∈ ch, (b ∈ X.ex ∨ X.s₀.heap.objs.size ≤ b) ∧ b ≠ X.env.locals ∧ (∀ x c, X.env.cells.lookup x = some c → c ≠ b) ∧ ∀ p ∈ X.pn ++ pins, p.1 ≠ b)
    (keep : ∀ b o, b ≠ X.env.locals → b ∉ X.fs → b ∉ ch → s.heap.get? b = some o → H b = none → h'.get? b = some o)
    (slot : ∀ b o, b ≠ X.env.locals → b ∈ X.fs → b ∉ ch → s.heap.get? b = some o → H b = none → ∃ sl, h'.get? b = some { o with slots := sl }) (free : ∀ b o, b ∉ ch → s.heap.get? b = some o → H b = none → H' b = none)
    (there : ∀ b o, b ∉ ch → s.heap.get? b = some o → ∃ o', h'.get? b = some o')
    (tups : ∀ b xs, H b = some (.tup xs) → H' b = some (.tup xs)) (frzs : ∀ b o u, H b = some (.frz o u) → H' b = some (.frz o u)) (tbls : ∀ b ps, H b = some (.tbl ps) → ∃ more, H' b = some (.tbl (ps ++ more)))
    (ns : ∀ m, s.heap.Ns X.env.locals m → h'.Ns X.env.locals m) (hok : HOk X.prog X.w H' h') (hg : AllBare g') :
    Inv X pins σ H' { s with heap := h', gens := g', drawn := d', toks := t' } := by
  have neL : ∀ b o, X.s₀.heap.get? b = some o → b ≠ X.env.locals := fun b o e => Nat.ne_of_lt (Nat.lt_of_lt_of_le (Heap.lt_size e) I.ok.above)
  have neC : ∀ b o, X.s₀.heap.get? b = some o → b ∉ X.ex → b ∉ ch := fun b o e hx hb => by
    rcases (hch b hb).1 with z | z
    · exact hx z
    · exact absurd (Nat.lt_of_lt_of_le (Heap.lt_size e) z) (Nat.lt_irrefl _)
  have cellK : ∀ x c, X.env.cells.lookup x = some c → ∀ v, s.heap.IsCell c v → h'.IsCell c v := fun x c e v ⟨o, ho, hd⟩ => by
    have nch : c ∉ ch := fun z => (hch c z).2.2.1 x c e rfl
    by_cases hc : c ∈ X.fs
    · obtain ⟨sl, q⟩ := slot c o (I.cne x c e) hc nch ho (I.freeC x c e)
      exact ⟨_, q, hd⟩
    · exact ⟨o, keep c o (I.cne x c e) hc nch ho (I.freeC x c e), hd⟩
  refine ⟨I.ok, I.os, hg, ⟨fun b o e n hb hx => ?_, fun b o e n hb hx => ?_, fun b o e n hx => ?_, fun b o e hx => ?_, fun b xs e => tups b xs (I.base.tups b xs e), fun b o xs e => frzs b o xs (I.base.frzs b o xs e), fun b ps e => ?_⟩, ?_, fun x c e => ?_, ?_, fun x c e => ?_, fun p hp => ?_, hok, I.len⟩
  · exact keep b o (neL b o e) hb (neC b o e hx) (I.base.keep b o e n hb hx) (I.base.free b o e n hx)
  · obtain ⟨sl, e1⟩ := I.base.slot b o e n hb hx
    obtain ⟨sl', e2⟩ := slot b _ (neL b o e) hb (neC b o e hx) e1 (I.base.free b o e n hx)
    exact ⟨sl', e2⟩
  · obtain ⟨o', e1⟩ := I.base.there b o e hx
    exact free b o' (neC b o e hx) e1 (I.base.free b o e n hx)
  · obtain ⟨o', e1⟩ := I.base.there b o e hx
    exact there b o' (neC b o e hx) e1
  · obtain ⟨m1, e1⟩ := I.base.tbls b ps e
    obtain ⟨m2, e2⟩ := tbls b _ e1
    exact ⟨m1 ++ m2, by rw [e2, Array.append_assoc]⟩
  · obtain ⟨m, hn, hl⟩ := I.loc
    refine ⟨m, ns m hn, fun i x v e1 e2 e3 => ?_⟩
    obtain ⟨u, r, l⟩ := hl i x v e1 e2 e3
    refine ⟨u, r, ?_⟩
    rcases l with l | ⟨k, c, e, z⟩
    · exact .inl l
    · exact .inr ⟨k, c, e, cellK x c e _ z⟩
  · obtain ⟨v, z⟩ := I.cell x c e
    exact ⟨v, cellK x c e v z⟩
  · obtain ⟨m, ⟨o, _, _, ho, _⟩, _⟩ := I.loc
    exact free _ o (fun z => (hch _ z).2.1 rfl) ho I.free
  · obtain ⟨v, o, ho, hd⟩ := I.cell x c e
    exact free c o (fun z => (hch c z).2.2.1 x c e rfl) ho (I.freeC x c e)
  · obtain ⟨e, n, ne, nf, d⟩ := I.pin p hp
    have nch : p.1 ∉ ch := fun z => (hch p.1 z).2.2.2 p hp rfl
    exact ⟨keep p.1 p.2 ne nf nch e n, free p.1 p.2 nch e n, ne, nf, d⟩
/-- .. where the frame's own object is kept too -/
theorem Inv.un {t' : Nat} (I : Inv X pins σ H s) (u : Un X.fs [] H H' s.heap h') (hok : HOk X.prog X.w H' h') : Inv X pins σ H' { s with heap := h', toks := t' } := by
  obtain ⟨m, ⟨o, es, ep, ho, r⟩, _⟩ := id I.loc
  obtain ⟨sl, hL⟩ := u.any ho I.free (by simp)
  exact I.step (g' := s.gens) (d' := s.drawn) (ch := []) (fun _ z => nomatch z) (fun b o _ hb _ e n => u.keep b o e n hb (by simp)) (fun b o _ hb _ e n => u.slot b o e n hb (by simp)) (fun b o _ e n => u.free b o e n (by simp)) (fun b o _ e => u.there b o e (by simp)) u.tups u.frzs u.tbls (fun m' hm => by
    obtain ⟨o', es', ep', ho', r'⟩ := hm
    rw [ho] at ho'; cases ho'
    exact ⟨_, es', ep', hL, r'⟩) hok I.bare
/-- behind a call (or a comprehension's block): the slots of this frame may have changed too, the records at ch may have turned -/
theorem Inv.call {g' : Array GenState} {t' : Nat} {d' : Drawn} {ch : List Addr} (I : Inv X pins σ H s) (u : Un (frs X.stack) ch H H' s.heap h') (hok : HOk X.prog X.w H' h') (hg : AllBare g')
    (hch : ∀ b ∈ ch, (b ∈ X.ex ∨ X.s₀.heap.objs.size ≤ b) ∧ b ≠ X.env.locals ∧ (∀ x c, X.env.cells.lookup x = some c → c ≠ b) ∧ ∀ p ∈ X.pn ++ pins, p.1 ≠ b) :
    Inv X pins σ H' { s with heap := h', gens := g', drawn := d', toks := t' } := by
  obtain ⟨m, ⟨o, es, ep, ho, r⟩, _⟩ := id I.loc
  obtain ⟨sl, hL⟩ := u.any ho I.free fun z => (hch _ z).2.1 rfl
  exact I.step (ch := ch) hch (fun b o hL hb hc e n => u.keep b o e n (fun z => (List.mem_cons.mp (I.stkSub b z)).elim hL hb) hc) (fun b o _ _ hc e n => u.any e n hc) (fun b o hc e n => u.free b o e n hc) (fun b o hc e => u.there b o e hc) u.tups u.frzs u.tbls (fun m' hm => by
    obtain ⟨o', es', ep', ho', r'⟩ := hm
    rw [ho] at ho'; cases ho'
    exact ⟨_, es', ep', hL, r'⟩) hok hg
/-- an untracked record of ours (an iterator) has turned -/
theorem Inv.turned {t' : Nat} {it : Addr} (I : Inv X pins σ H s) (k : ∀ b o, b ≠ it → s.heap.get? b = some o → h'.get? b = some o) (hn : H it = none) (hL : it ≠ X.env.locals)
    (h1 : it ∈ X.ex ∨ X.s₀.heap.objs.size ≤ it) (h2 : ∀ x c, X.env.cells.lookup x = some c → c ≠ it) (h3 : ∀ p ∈ X.pn ++ pins, p.1 ≠ it) : Inv X pins σ H { s with heap := h', toks := t' } := by
  have nit : ∀ b u, H b = some u → b ≠ it := fun b u e z => by rw [z, hn] at e; cases e
  refine I.step (g' := s.gens) (d' := s.drawn) (ch := [it]) (fun b hb => ?_) (fun b o _ _ hc e _ => k b o (fun z => hc (by simp [z])) e) (fun b o _ _ hc e _ => ⟨o.slots, k b o (fun z => hc (by simp [z])) e⟩) (fun _ _ _ _ n => n)
    (fun b o hc e => ⟨o, k b o (fun z => hc (by simp [z])) e⟩) (fun _ _ e => e) (fun _ _ _ e => e) (fun b ps e => ⟨#[], by rw [e]; simp⟩) (fun m hm => ?_) (fun b u e => ?_) I.bare
  · have e : b = it := by simpa using hb
    subst e
    exact ⟨h1, hL, h2, h3⟩
  · obtain ⟨o, es, ep, ho, r⟩ := hm
    exact ⟨o, es, ep, k _ o (Ne.symm hL) ho, r⟩
  · refine (I.hok b u e).stay (fun c v hc q => k c v ?_ q) (fun _ q => q) fun _ _ q => q
    rcases hc with z | z
    · rw [z]; exact nit b u e
    · exact nit c _ z
theorem Inv.tok (I : Inv X pins σ H s) (t : Nat) : Inv X pins σ H { s with toks := t } := I.un (h' := s.heap) (t' := t) Un.refl I.hok
/-- all objects kept -/
theorem Inv.kept {t' : Nat} (I : Inv X pins σ H s) (k : ∀ b u, s.heap.get? b = some u → h'.get? b = some u) : Inv X pins σ H { s with heap := h', toks := t' } := I.un (Un.kept k) (I.hok.kept k)
/-- a new object laid and tracked -/
theorem Inv.laid {a : Addr} {o : HO} {t' : Nat} (I : Inv X pins σ H s) (k : ∀ b u, s.heap.get? b = some u → h'.get? b = some u) (hp : s.heap.objs.size ≤ a) (new : ObjOk X.prog X.w (upd H a o) h' a o) :
    Inv X pins σ (upd H a o) { s with heap := h', toks := t' } := I.un (Un.laid k hp (I.hok.fresh hp)) (I.hok.laid k hp new)
/-- an object written -/
theorem Inv.write {x e : Addr} {o : HO} {t' : Nat} (I : Inv X pins σ H s) (mu : Mut (H x)) (he : e = x ∨ H e = some (.own x)) (k : ∀ b u, b ≠ e → s.heap.get? b = some u → h'.get? b = some u) (heo : ∃ u, h'.get? e = some u)
    (new : ObjOk X.prog X.w (upd H x o) h' x o) : Inv X pins σ (upd H x o) { s with heap := h', toks := t' } := I.un (Un.write mu he k heo) (I.hok.write mu he k heo new)
theorem Inv.pins_of {pins' : List (Addr × Obj)} (I : Inv X pins σ H s) (h : ∀ p ∈ pins', s.heap.get? p.1 = some p.2 ∧ H p.1 = none ∧ p.1 ≠ X.env.locals ∧ p.1 ∉ X.fs ∧ ∀ v, p.2.data ≠ .cell v) : Inv X pins' σ H s :=
  ⟨I.ok, I.os, I.bare, I.base, I.loc, I.cell, I.free, I.freeC, fun p hp => (List.mem_append.mp hp).elim (fun z => I.pin p (List.mem_append_left _ z)) (h p), I.hok, I.len⟩

theorem nodup_ix {N : List Str} (hN : N.Nodup) {i j : Nat} {x : Str} (a : N[i]? = some x) (b : N[j]? = some x) : i = j := by
  obtain ⟨h1, e1⟩ := List.getElem?_eq_some_iff.mp a
  obtain ⟨h2, e2⟩ := List.getElem?_eq_some_iff.mp b
  exact (List.getElem_inj hN).mp (e1.trans e2.symm)

/-- a name is stored; what changed -/
theorem store_ok2 {M : Model} {A : Around} {E : Value → Shared → Prop} {i : Nat} {x : Str} {v : V} {u : Value} {Q : Unit → Shared → Prop} (I : Inv X pins σ H s) (hN : X.N.Nodup) (hi : X.N[i]? = some x) (hx : Loc X.env.scope x) (r : RelV v u)
    (h : ∀ s', Inv X pins (σ.set i (some v)) H s' → (∃ a, Heap.SameBut a s.heap s'.heap ∧ (a = X.env.locals ∨ X.env.cells.lookup x = some a)) → Q () s') (hf : X.fn x = true ∨ X.env.scope.names.lookup x = some .local := by first | exact .inl rfl | exact .inr rfl | assumption) : wpAny M A (storeName X.env x u) Q E s := by
  obtain ⟨m, hn, hl⟩ := id I.loc
  have hcls : (X.env.scope.kind == .class || (X.env.scope.kind == .module && X.env.locals != X.env.globals)) = false := by rw [I.ok.kind]; rfl
  have hiσ : i < σ.length := by rw [I.len]; exact (List.getElem?_eq_some_iff.mp hi).1
  have cne := I.cne
  have tracked : ∀ {a : Addr} {h' : Heap}, (∃ o, s.heap.get? a = some o ∧ H a = none) → Heap.SameBut a s.heap h' → HOk X.prog X.w H h' := fun {a h'} ha hs b ob e => by
    obtain ⟨_, _, hfree⟩ := ha
    refine (I.hok b ob e).stay (fun c w' hc q => (hs.2 c ?_).trans q) (fun _ q => q) fun _ _ q => q
    rintro rfl
    rcases hc with rfl | hc
    · rw [hfree] at e; cases e
    · rw [hfree] at hc; cases hc
  rcases hx with hk | hk
  · refine wpAny_storeName_local hk hn (fun h' hn' hs => ?_) hcls
    obtain ⟨oL, _, _, hoL, _⟩ := id hn
    refine h _ ⟨I.ok, I.os, I.bare, ⟨fun b o e n hb hx => ?_, fun b o e n hb hx => ?_, I.base.free, fun b o e hx => ?_, I.base.tups, I.base.frzs, I.base.tbls⟩, ⟨_, hn', fun j y v' e1 e2 e3 => ?_⟩, fun y c e => ?_, I.free, I.freeC, fun p hp => ?_, tracked ⟨oL, hoL, I.free⟩ hs, by simpa using I.len⟩ ⟨_, hs, .inl rfl⟩
    · exact (hs.2 b (Nat.ne_of_lt (Nat.lt_of_lt_of_le (Heap.lt_size e) I.ok.above))).trans (I.base.keep b o e n hb hx)
    · obtain ⟨sl, e1⟩ := I.base.slot b o e n hb hx
      exact ⟨sl, (hs.2 b (Nat.ne_of_lt (Nat.lt_of_lt_of_le (Heap.lt_size e) I.ok.above))).trans e1⟩
    · obtain ⟨o', e1⟩ := I.base.there b o e hx
      exact ⟨o', (hs.2 b (Nat.ne_of_lt (Nat.lt_of_lt_of_le (Heap.lt_size e) I.ok.above))).trans e1⟩
    · by_cases hj : j = i
      · subst hj
        rw [hi] at e1; cases e1
        rw [List.getElem?_set_self hiσ] at e2
        cases e2
        exact ⟨u, r, .inl ⟨hk, by simp⟩⟩
      · rw [List.getElem?_set_ne (Ne.symm hj)] at e2
        obtain ⟨u', r', q⟩ := hl j y v' e1 e2 e3
        refine ⟨u', r', ?_⟩
        rcases q with ⟨k, e⟩ | ⟨k, c, e, z⟩
        · refine .inl ⟨k, ?_⟩
          have : y ≠ x := fun e => hj (nodup_ix hN e1 (e ▸ hi))
          simp [this, e]
        · exact .inr ⟨k, c, e, z.sameBut hs (cne y c e)⟩
    · obtain ⟨w', z⟩ := I.cell y c e
      exact ⟨w', z.sameBut hs (cne y c e)⟩
    · obtain ⟨e, n, ne, nf, d⟩ := I.pin p hp
      exact ⟨(hs.2 p.1 ne).trans e, n, ne, nf, d⟩
  · have hfn : X.fn x = true := by
      rcases hf with z | z
      · exact z
      · rw [z] at hk; cases hk
    obtain ⟨c, hc⟩ := I.ok.has x (.inl hk)
    obtain ⟨w', z⟩ := I.cell x c hc
    refine wpAny_storeName_cell I.ok.kind hk hc z (fun h' hc' hs => ?_)
    obtain ⟨oc, hoc, hocd⟩ := id z
    refine h { s with heap := h' } ⟨I.ok, I.os, I.bare, ⟨fun b o e n hb hx => ?_, fun b o e n hb hx => ?_, I.base.free, fun b o e hx => ?_, I.base.tups, I.base.frzs, I.base.tbls⟩, ⟨m, hn.sameBut hs (Ne.symm (cne x c hc)), fun j y v' e1 e2 e3 => ?_⟩, fun y c' e => ?_, I.free, I.freeC, fun p hp => ?_, tracked ⟨oc, hoc, I.freeC x c hc⟩ hs, by simpa using I.len⟩ ⟨c, hs, .inr hc⟩
    · exact (hs.2 b (Nat.ne_of_lt (Nat.lt_of_lt_of_le (Heap.lt_size e) (I.ok.cab x c hfn hc)))).trans (I.base.keep b o e n hb hx)
    · obtain ⟨sl, e1⟩ := I.base.slot b o e n hb hx
      exact ⟨sl, (hs.2 b (Nat.ne_of_lt (Nat.lt_of_lt_of_le (Heap.lt_size e) (I.ok.cab x c hfn hc)))).trans e1⟩
    · obtain ⟨o', e1⟩ := I.base.there b o e hx
      exact ⟨o', (hs.2 b (Nat.ne_of_lt (Nat.lt_of_lt_of_le (Heap.lt_size e) (I.ok.cab x c hfn hc)))).trans e1⟩
    · by_cases hj : j = i
      · subst hj
        rw [hi] at e1; cases e1
        rw [List.getElem?_set_self hiσ] at e2
        cases e2
        exact ⟨u, r, .inr ⟨.inl hk, c, hc, hc'⟩⟩
      · rw [List.getElem?_set_ne (Ne.symm hj)] at e2
        obtain ⟨u', r', q⟩ := hl j y v' e1 e2 e3
        refine ⟨u', r', ?_⟩
        rcases q with q | ⟨k, c', e, z'⟩
        · exact .inl q
        · refine .inr ⟨k, c', e, z'.sameBut hs ?_⟩
          rintro rfl
          exact hj (nodup_ix hN e1 (I.ok.inj _ _ _ e hc ▸ hi))
    · by_cases hcc : c' = c
      · subst hcc; exact ⟨_, hc'⟩
      · obtain ⟨w2, z2⟩ := I.cell y c' e
        exact ⟨w2, z2.sameBut hs hcc⟩
    · obtain ⟨e, n, ne, nf, d⟩ := I.pin p hp
      refine ⟨(hs.2 p.1 ?_).trans e, n, ne, nf, d⟩
      intro q
      rw [q, hoc] at e
      have q' : oc = p.2 := Option.some.inj e
      exact d w' (by rw [← q']; exact hocd)
theorem store_ok {M : Model} {A : Around} {E : Value → Shared → Prop} {i : Nat} {x : Str} {v : V} {u : Value} {Q : Unit → Shared → Prop} (I : Inv X pins σ H s) (hN : X.N.Nodup) (hi : X.N[i]? = some x) (hx : Loc X.env.scope x) (r : RelV v u)
    (h : ∀ s', Inv X pins (σ.set i (some v)) H s' → Q () s') (hf : X.fn x = true ∨ X.env.scope.names.lookup x = some .local := by first | exact .inl rfl | exact .inr rfl | assumption) : wpAny M A (storeName X.env x u) Q E s :=
  store_ok2 I hN hi hx r (fun s' I' _ => h s' I') hf
/-- behind a call or a block, the state as it is -/
theorem Inv.call' {s' : Shared} {ch : List Addr} (I : Inv X pins σ H s) (ho : s'.os = s.os) (u : Un (frs X.stack) ch H H' s.heap s'.heap) (hok : HOk X.prog X.w H' s'.heap) (hg : AllBare s'.gens)
    (hch : ∀ b ∈ ch, (b ∈ X.ex ∨ X.s₀.heap.objs.size ≤ b) ∧ b ≠ X.env.locals ∧ (∀ x c, X.env.cells.lookup x = some c → c ≠ b) ∧ ∀ p ∈ X.pn ++ pins, p.1 ≠ b) : Inv X pins σ H' s' := by
  obtain ⟨h', g', d', t', o'⟩ := s'
  have e : o' = s.os := ho
  subst e
  exact I.call (g' := g') (t' := t') (d' := d') u hok hg hch
end

/-! ### the judgements -/
/-- an exception: its class, its own dict's address (where it has one), the abstract heap behind it -/
abbrev XK := Value → Option Addr → Hp → Prop
abbrev St := List (Option V)
abbrev VK := V → Hp → Prop
/-- an expression's reading; a test's; an argument list's -/
abbrev TE := St → Hp → VK → Prop
abbrev TT := St → Hp → (Bool → Hp → Prop) → Prop
abbrev TA := St → Hp → (List V → Hp → Prop) → Prop
/-- what is wanted behind a statement -/
structure Ends where
  nx : St → Hp → Prop
  rt : VK
  bk : St → Hp → Prop := fun _ _ => False
  ct : St → Hp → Prop := fun _ _ => False
abbrev TS := Ends → St → Hp → Prop

def EP (X : Cx) (pins : List (Addr × Obj)) (σ : St) (Q : VK) (u : Value) (s' : Shared) : Prop := ∃ v H', Inv X pins σ H' s' ∧ RelV v u ∧ Q v H'
def TP (X : Cx) (pins : List (Addr × Obj)) (σ : St) (Q : Bool → Hp → Prop) (b : Bool) (s' : Shared) : Prop := ∃ H', Inv X pins σ H' s' ∧ Q b H'
def AP (X : Cx) (pins : List (Addr × Obj)) (σ : St) (Q : List V → Hp → Prop) (us : List Value) (s' : Shared) : Prop := ∃ vs H', Inv X pins σ H' s' ∧ Vals vs us ∧ Q vs H'
def SP (X : Cx) (pins : List (Addr × Obj)) (D : Ends) (f : Flow) (s' : Shared) : Prop :=
  match f with
  | .next => ∃ σ' H', Inv X pins σ' H' s' ∧ D.nx σ' H'
  | .brk => ∃ σ' H', Inv X pins σ' H' s' ∧ D.bk σ' H'
  | .cont => ∃ σ' H', Inv X pins σ' H' s' ∧ D.ct σ' H'
  | .ret u => ∃ v σ' H', Inv X pins σ' H' s' ∧ RelV v u ∧ D.rt v H'

def PE (X : Cx) (e : Expr) (t : TE) : Prop :=
  ∀ (pins : List (Addr × Obj)) (s : Shared) (σ : St) (H : Hp) (Q : VK), Inv X pins σ H s → t σ H Q → wpAny (model X.prog X.w) X.A (eval e X.env) (EP X pins σ Q) X.xe s
def PT (X : Cx) (e : Expr) (t : TT) : Prop :=
  ∀ (pins : List (Addr × Obj)) (s : Shared) (σ : St) (H : Hp) (Q : Bool → Hp → Prop), Inv X pins σ H s → t σ H Q → wpAny (model X.prog X.w) X.A (isTrue e X.env (eval e X.env)) (TP X pins σ Q) X.xe s
/-- a test whatever its 'whole' is (and, or) -/
def PW (X : Cx) (e : Expr) (t : TT) : Prop :=
  ∀ (whole : Sem Value) (pins : List (Addr × Obj)) (s : Shared) (σ : St) (H : Hp) (Q : Bool → Hp → Prop), Inv X pins σ H s → t σ H Q → wpAny (model X.prog X.w) X.A (isTrue e X.env whole) (TP X pins σ Q) X.xe s
theorem PW.pt {X : Cx} {e : Expr} {t : TT} (h : PW X e t) : PT X e t := h _
/-- an argument list (no star), from the left -/
def PA (X : Cx) (es : List Expr) (t : TA) : Prop :=
  ∀ (pos : Pos) (pins : List (Addr × Obj)) (s : Shared) (σ : St) (H : Hp) (Q : List V → Hp → Prop), Inv X pins σ H s → t σ H Q → wpAny (model X.prog X.w) X.A (spliced (backTo pos (starEach es X.env))) (AP X pins σ Q) X.xe s
def PS (X : Cx) (st : Stmt) (t : TS) : Prop :=
  ∀ (pins : List (Addr × Obj)) (s : Shared) (σ : St) (H : Hp) (D : Ends), Inv X pins σ H s → t D σ H → wpAny (model X.prog X.w) X.A (exec st X.env) (SP X pins D) X.xe s
def PSs (X : Cx) (st : List Stmt) (t : TS) : Prop :=
  ∀ (pins : List (Addr × Obj)) (s : Shared) (σ : St) (H : Hp) (D : Ends), Inv X pins σ H s → t D σ H → wpAny (model X.prog X.w) X.A (execs st X.env) (SP X pins D) X.xe s
/-- weaken the end -/
theorem thn {α : Type} {t : Sem α} {Q Q' : α → Shared → Prop} {M : Model} {A : Around} {E : Value → Shared → Prop} {s : Shared} (h : wpAny M A t Q E s) (hQ : ∀ a s, Q a s → Q' a s) : wpAny M A t Q' E s := wpAny_mono h hQ fun _ _ x => x
end L2

namespace L2
open PySem PySem.Spec PyProof.Rows
section
variable {X : Cx}

/-- two expressions in a row -/
theorem bin {a b : Expr} {ta tb : TE} (ha : PE X a ta) (hb : PE X b tb) {pins : List (Addr × Obj)} {s : Shared} {σ : St} {H : Hp} {R : V → V → Hp → Prop} (I : Inv X pins σ H s) (h : ta σ H fun x H1 => tb σ H1 fun y H2 => R x y H2)
    {α : Type} {Q : α → Shared → Prop} {f : Value → Value → Sem α}
    (hf : ∀ v u s2 x y H2, Inv X pins σ H2 s2 → RelV x v → RelV y u → R x y H2 → wpAny (model X.prog X.w) X.A (f v u) Q X.xe s2) :
    wpAny (model X.prog X.w) X.A (eval a X.env) (fun v s₁ => wpAny (model X.prog X.w) X.A (eval b X.env) (fun u s₂ => wpAny (model X.prog X.w) X.A (f v u) Q X.xe s₂) X.xe s₁) X.xe s := by
  refine thn (ha pins s σ H _ I h) fun v s1 ⟨x, H1, I1, r1, q1⟩ => ?_
  refine thn (hb pins s1 σ H1 _ I1 q1) fun u s2 ⟨y, H2, I2, r2, q2⟩ => ?_
  exact hf v u s2 x y H2 I2 r1 r2 q2

/-! ### names and constants -/
def tVar (i : Nat) : TE := fun σ H Q => ∃ v, σ[i]? = some (some v) ∧ Q v H
def tC (v : V) : TE := fun _ H Q => Q v H
theorem pe_var {i : Nat} {x : Str} {pos : Pos} (hN : X.N[i]? = some x) (hv : Vis X.env.scope x) (hd : (x == ("__debug__" : Str)) = false := by decide) (hcd : (x == ("__classdict__" : Str)) = false := by decide) : PE X (.Name x pos) (tVar i) := by
  intro pins s σ H Q I h
  obtain ⟨v, e, h⟩ := h
  obtain ⟨m, hn, hl⟩ := I.loc
  obtain ⟨u, r, l⟩ := hl i x v hN e hv
  have fin : EP X pins σ Q u s := ⟨v, H, I, r, h⟩
  rcases l with ⟨hk, hm⟩ | ⟨hk, c, hc, hcell⟩
  · exact wpAny_Name (wpAny_loadName_local I.ok.kind hk hn hm fin) hd
  · rcases hk with hk | hk
    · exact wpAny_Name (wpAny_loadName_cell I.ok.kind hk hc hcell fin) hd
    · exact wpAny_Name (wpAny_loadName_free I.ok.kind hk hc hcell fin hcd) hd
theorem pe_int {i j pos} : PE X (.Constant (.int i) j pos) (tC (.int i)) := fun _ _ _ H _ I h => wpAny_Constant_int ⟨.int i, H, I.tok _, ⟨_, rfl⟩, h⟩
theorem pe_bl {b j pos} : PE X (.Constant (.bool b) j pos) (tC (.bl b)) := fun _ _ _ H _ I h => Constant_bool ⟨.bl b, H, I, rfl, h⟩
theorem pe_non {j pos} : PE X (.Constant .none j pos) (tC .non) := fun _ _ _ H _ I h => Constant_none ⟨.non, H, I, rfl, h⟩
theorem pe_str {x j pos} : PE X (.Constant (.str x) j pos) (tC (.str x)) := fun _ _ _ H _ I h => Calls.Constant_str ⟨.str x, H, I.tok _, ⟨_, rfl⟩, h⟩

/-- a global name of the def -/
def Gl (X : Cx) (x : Str) : Prop := X.env.kindOf x = some .globalImplicit
theorem ld_glob {E : Value → Shared → Prop} {pins : List (Addr × Obj)} {s : Shared} {σ : St} {H : Hp} {x : Str} {u : Value} {pos : Pos} {Q : Value → Shared → Prop} (I : Inv X pins σ H s) (hg : Gl X x) (hm : X.mg x = some u) (h : Q u s)
    (hd : (x == ("__debug__" : Str)) = false := by decide) : wpAny (model X.prog X.w) X.A (eval (.Name x pos) X.env) Q E s :=
  Calls.Name_function_global I.ok.kind hg (Calls.loadGlobal_global (by rw [I.ok.glob]; exact I.mod.glob.keeps I.bk) hm h) hd
theorem ld_blt {E : Value → Shared → Prop} {pins : List (Addr × Obj)} {s : Shared} {σ : St} {H : Hp} {x : Str} {u : Value} {pos : Pos} {Q : Value → Shared → Prop} (I : Inv X pins σ H s) (hg : Gl X x) (hm : X.mg x = none) (hv : bootBuiltins x = some u) (h : Q u s)
    (hn : x ≠ "__name__" := by decide) (hd : (x == ("__debug__" : Str)) = false := by decide) : wpAny (model X.prog X.w) X.A (eval (.Name x pos) X.env) Q E s := by
  obtain ⟨mb, h1, h2⟩ := I.mod.blt
  exact Calls.Name_function_global I.ok.kind hg (Calls.loadGlobal_builtin (by rw [I.ok.glob]; exact I.mod.glob.keeps I.bk) hm (by rw [I.ok.blt]; exact h1.keeps I.bk) ((h2 x hn).trans hv) h) hd
/-- a module's constant, a class, a function, as a value -/
theorem pe_glob {x : Str} {v : V} {u : Value} {pos : Pos} (hg : Gl X x) (hm : X.mg x = some u) (r : RelV v u) (hd : (x == ("__debug__" : Str)) = false := by decide) : PE X (.Name x pos) (tC v) :=
  fun _ _ _ H _ I h => ld_glob I hg hm ⟨v, H, I, r, h⟩ hd
theorem pe_bltn {x : Str} {v : V} {u : Value} {pos : Pos} (hg : Gl X x) (hm : X.mg x = none) (hv : bootBuiltins x = some u) (r : RelV v u) (hn : x ≠ "__name__" := by decide) (hd : (x == ("__debug__" : Str)) = false := by decide) : PE X (.Name x pos) (tC v) :=
  fun _ _ _ H _ I h => ld_blt I hg hm hv ⟨v, H, I, r, h⟩ hn hd

/-! ### arithmetic -/
variable {a b : Expr} {ta tb : TE} {pos : Pos}
/-! ### comparisons -/
/-! ### and, or, not -/
variable {tA tB' : TT} {rest : List Expr}
def tOr (t u : TT) : TT := fun σ H Q => t σ H fun c H1 => if c = true then Q true H1 else u σ H1 Q
def tNot (t : TT) : TT := fun σ H Q => t σ H fun c H1 => Q (!c) H1
theorem pw_or1 (ha : PT X a tA) : PW X (.BoolOp .Or [a] pos) tA := by
  intro wh pins s σ H Q I h
  refine isTrue_or (thn (ha pins s σ H Q I h) fun c s1 e => ?_)
  cases c with
  | false => exact isTrue_or_nil e
  | true => exact e
theorem pw_or (ha : PT X a tA) (hb : PW X (.BoolOp .Or (b :: rest) pos) tB') : PW X (.BoolOp .Or (a :: b :: rest) pos) (tOr tA tB') := by
  intro wh pins s σ H Q I h
  refine isTrue_or (thn (ha pins s σ H _ I h) fun c s1 ⟨H1, I1, q1⟩ => ?_)
  cases c with
  | true => exact ⟨H1, I1, q1⟩
  | false => exact hb wh pins s1 σ H1 Q I1 q1
theorem pt_not (ha : PT X a tA) : PT X (.UnaryOp .Not a pos) (tNot tA) := by
  intro pins s σ H Q I h
  exact isTrue_not (ha pins s σ H (fun c H1 => Q (!c) H1) I h)
/-- .. as values (bools) -/
def tAndV (ta tb : TE) : TE := fun σ H Q => ta σ H fun x H1 => ∃ c, x = .bl c ∧ if c = true then tb σ H1 Q else Q (.bl false) H1
def tNotV (ta : TE) : TE := fun σ H Q => ta σ H fun x H1 => ∃ c, x = .bl c ∧ Q (.bl (!c)) H1
theorem pe_one {op} {t : TE} (h : PE X a t) : PE X (.BoolOp op [a] pos) t := fun pins s σ H Q I hw => BoolOp_one (h pins s σ H Q I hw)
theorem pe_and (ha : PE X a ta) (hb : PE X (.BoolOp .And (b :: rest) pos) tb) : PE X (.BoolOp .And (a :: b :: rest) pos) (tAndV ta tb) := by
  intro pins s σ H Q I h
  refine BoolOp_and (thn (ha pins s σ H _ I h) fun v s1 ⟨x, H1, I1, r1, q1⟩ => ?_)
  obtain ⟨c, rfl, q1⟩ := q1
  cases r1
  refine wpAny_truthy_bool ?_
  cases c with
  | true => exact hb pins s1 σ H1 Q I1 q1
  | false => exact ⟨.bl false, H1, I1, rfl, q1⟩
theorem pe_not (ha : PE X a ta) : PE X (.UnaryOp .Not a pos) (tNotV ta) := by
  intro pins s σ H Q I h
  refine UnaryOp_ (thn (ha pins s σ H _ I h) fun v s1 ⟨x, H1, I1, r1, q1⟩ => ?_)
  obtain ⟨c, rfl, q1⟩ := q1
  cases r1
  exact not_of (wpAny_truthy_bool ⟨.bl (!c), H1, I1, rfl, q1⟩)
end
end L2

namespace L2
open PySem PySem.Spec PyProof.Rows

/-! ### a list, a tuple that is read: tracked, frozen, or an object of the module -/
def SqL (K : PySem.W.Frag) (H : Hp) (a : Addr) (xs : List V) : Prop :=
  Rd H a (.lst xs) ∨
    ∃ (o : Obj) (its : Array Value) (n : Nat), K.lookup a = some o ∧ o.cls = .type "list" ∧ o.dict = none ∧ o.data = .seq its n ∧ its.size ≤ sizeLine ∧ Vals xs its.toList
def SqT (K : PySem.W.Frag) (H : Hp) (a : Addr) (xs : List V) : Prop :=
  Rd H a (.tup xs) ∨
    ∃ (o : Obj) (its : Array Value) (n : Nat), K.lookup a = some o ∧ o.cls = .type "tuple" ∧ o.data = .seq its n ∧ its.size ≤ sizeLine ∧ Vals xs its.toList
def absV : Value → Option V
  | .none => some .non
  | .bool b => some (.bl b)
  | .int i _ => some (.int i)
  | .str x _ => some (.str x)
  | .bytes b _ => some (.byt b)
  | .float b _ => some (.flt b)
  | .ref a => some (.ref a)
  | .type n => some (.ty n)
  | _ => none
theorem RelV.abs {x : V} {u : Value} (r : RelV x u) : absV u = some x := by
  cases x with
  | non => cases r; rfl
  | bl _ => cases r; rfl
  | int _ => obtain ⟨t, rfl⟩ := r; rfl
  | str _ => obtain ⟨t, rfl⟩ := r; rfl
  | byt _ => obtain ⟨t, rfl⟩ := r; rfl
  | flt _ => obtain ⟨t, rfl⟩ := r; rfl
  | ref _ => cases r; rfl
  | ty _ => cases r; rfl
theorem RelV.inj {x y : V} {u : Value} (r : RelV x u) (q : RelV y u) : x = y := Option.some.inj (r.abs.symm.trans q.abs)
theorem Vals.inj : ∀ {xs ys : List V} {us : List Value}, Vals xs us → Vals ys us → xs = ys
  | _, _, _, .nil, .nil => rfl
  | _, _, _, .cons r t, .cons r' t' => by rw [r.inj r', Vals.inj t t']
section
variable {X : Cx} {pins : List (Addr × Obj)} {σ : St} {H : Hp} {s : Shared} {a : Addr} {xs ys : List V}
theorem SqL.of {K : PySem.W.Frag} (h : H a = some (.lst xs)) : SqL K H a xs := .inl (.inl h)
theorem SqT.of {K : PySem.W.Frag} (h : H a = some (.tup xs)) : SqT K H a xs := .inl (.inl h)
theorem Inv.list (I : Inv X pins σ H s) (h : SqL X.K H a xs) : ∃ its : List Value, Vals xs its ∧ PlainL s.heap a its.toArray ∧ xs.length ≤ sizeLine := by
  rcases h with h | ⟨o, its, n, hk, hc, hd, hs, hz, r⟩
  · obtain ⟨z, its, n, r, e⟩ := h.ok I.hok
    exact ⟨its, r, ⟨_, n, e, rfl, rfl, rfl⟩, z⟩
  · refine ⟨its.toList, r, ⟨o, n, I.kIn a o hk, hc, hd, by simpa using hs⟩, ?_⟩
    have e := r.length
    simp only [Array.length_toList] at e
    omega
theorem Inv.tuple (I : Inv X pins σ H s) (h : SqT X.K H a xs) : ∃ its : List Value, Vals xs its ∧ IsTup s.heap a its.toArray ∧ xs.length ≤ sizeLine := by
  rcases h with h | ⟨o, its, n, hk, hc, hs, hz, r⟩
  · obtain ⟨z, its, r, p⟩ := h.ok I.hok
    exact ⟨its, r, p, z⟩
  · refine ⟨its.toList, r, ⟨o, I.kIn a o hk, hc, n, by simpa using hs⟩, ?_⟩
    have e := r.length
    simp only [Array.length_toList] at e
    omega
theorem Inv.list_inj (I : Inv X pins σ H s) (h : SqL X.K H a xs) (h' : SqL X.K H a ys) : xs = ys := by
  obtain ⟨its, r, ⟨o, n, e, _, _, d⟩, _⟩ := I.list h
  obtain ⟨its', r', ⟨o', n', e', _, _, d'⟩, _⟩ := I.list h'
  rw [e] at e'; cases e'
  rw [d] at d'
  injection d' with d1 _
  have : its = its' := by simpa using congrArg Array.toList d1
  subst this
  exact r.inj r'
theorem Inv.tuple_inj (I : Inv X pins σ H s) (h : SqT X.K H a xs) (h' : SqT X.K H a ys) : xs = ys := by
  obtain ⟨its, r, ⟨o, e, _, n, d⟩, _⟩ := I.tuple h
  obtain ⟨its', r', ⟨o', e', _, n', d'⟩, _⟩ := I.tuple h'
  rw [e] at e'; cases e'
  rw [d] at d'
  injection d' with d1 _
  have : its = its' := by simpa using congrArg Array.toList d1
  subst this
  exact r.inj r'
end

/-! ### another wish about exceptions -/
abbrev Cx.wish (X : Cx) (E : Value → Shared → Prop) : Cx := { X with xe := E }
/-- no exception leaves -/
abbrev Cx.nox (X : Cx) : Cx := X.wish fun _ _ => False
theorem Cx.Ok.wish {X : Cx} (ok : X.Ok) (E : Value → Shared → Prop) : (X.wish E).Ok :=
  ⟨ok.mod, ok.kind, ok.glob, ok.blt, ok.above, ok.inj, ok.has, ok.cab, ok.hd, ok.frames, ok.stk, ok.exf, ok.bs, ok.bsz, ok.noex, ok.exfs, ok.funs, ok.frf⟩
theorem Cx.Ok.unwish {X : Cx} {E : Value → Shared → Prop} (ok : (X.wish E).Ok) : X.Ok :=
  ⟨ok.mod, ok.kind, ok.glob, ok.blt, ok.above, ok.inj, ok.has, ok.cab, ok.hd, ok.frames, ok.stk, ok.exf, ok.bs, ok.bsz, ok.noex, ok.exfs, ok.funs, ok.frf⟩
section
variable {X : Cx} {pins : List (Addr × Obj)} {σ : St} {H : Hp} {s : Shared} {E : Value → Shared → Prop}
theorem Inv.wish (I : Inv X pins σ H s) (E : Value → Shared → Prop) : Inv (X.wish E) pins σ H s := ⟨I.ok.wish E, I.os, I.bare, I.base, I.loc, I.cell, I.free, I.freeC, I.pin, I.hok, I.len⟩
theorem Inv.unwish (I : Inv (X.wish E) pins σ H s) : Inv X pins σ H s := ⟨I.ok.unwish, I.os, I.bare, I.base, I.loc, I.cell, I.free, I.freeC, I.pin, I.hok, I.len⟩
theorem SP.unwish {D : Ends} {f : Flow} {s' : Shared} (h : SP (X.wish E) pins D f s') : SP X pins D f s' := by
  cases f with
  | next => obtain ⟨σ', H', I, q⟩ := h; exact ⟨σ', H', I.unwish, q⟩
  | brk => obtain ⟨σ', H', I, q⟩ := h; exact ⟨σ', H', I.unwish, q⟩
  | cont => obtain ⟨σ', H', I, q⟩ := h; exact ⟨σ', H', I.unwish, q⟩
  | ret u => obtain ⟨v, σ', H', I, r, q⟩ := h; exact ⟨v, σ', H', I.unwish, r, q⟩
theorem PSs.nox {st : List Stmt} {t : TS} (h : PSs X.nox st t) : PSs X st t := fun pins s σ H D I hw =>
  wpAny_mono (h pins s σ H D (I.wish _) hw) (fun _ _ q => q.unwish) fun _ _ z => False.elim z
end

/-! ### blocks and small statements -/
section
variable {X : Cx} {st : Stmt} {rest : List Stmt} {t u : TS} {e : Expr} {te : TE} {pos : Pos}
def tNext : TS := fun D σ H => D.nx σ H
def tSeq (t u : TS) : TS := fun D σ H => t { D with nx := u D } σ H
theorem pss_nil : PSs X [] tNext := fun _ _ σ H _ I h => wpAny_execs_nil ⟨σ, H, I, h⟩
theorem pss_cons (h1 : PS X st t) (h2 : PSs X rest u) : PSs X (st :: rest) (tSeq t u) := by
  intro pins s σ H D I h
  refine wpAny_execs_cons (thn (h1 pins s σ H { D with nx := u D } I h) fun f s1 q => ?_)
  cases f with
  | next =>
    obtain ⟨σ', H', I', q⟩ := q
    exact h2 pins s1 σ' H' D I' q
  | ret v => exact q
  | brk => exact q
  | cont => exact q
theorem pss_one (h1 : PS X st t) : PSs X [st] t := by
  intro pins s σ H D I h
  refine wpAny_execs_cons (thn (h1 pins s σ H D I h) fun f s1 q => ?_)
  cases f with
  | next => exact wpAny_execs_nil q
  | ret v => exact q
  | brk => exact q
  | cont => exact q
/-- in a def's body nothing is shown -/
theorem Inv.quiet {pins : List (Addr × Obj)} {σ : St} {H : Hp} {s : Shared} (I : Inv X pins σ H s) : interactive X.env = false := by simp [interactive, I.ok.kind]
/-- an expression whose value is dropped -/
def tDrop (te : TE) : TS := fun D σ H => te σ H fun _ H1 => D.nx σ H1
theorem ps_expr (he : PE X e te) (hs : swapsWith e none pos.line X.env = pure false := by rfl) : PS X (.Expr e pos) (tDrop te) := by
  intro pins s σ H D I h
  exact wpAny_Expr_any (thn (he pins s σ H _ I h) fun v s1 ⟨x, H1, I1, r1, q1⟩ => ⟨σ, H1, I1, q1⟩) I.quiet hs
def tRet (te : TE) : TS := fun D σ H => te σ H D.rt
theorem ps_ret (he : PE X e te) : PS X (.Return (some e) pos) (tRet te) := by
  intro pins s σ H D I h
  exact wpAny_Return_some (thn (he pins s σ H _ I h) fun v s1 ⟨x, H1, I1, r1, q1⟩ => ⟨x, σ, H1, I1, r1, q1⟩)
def tIfS (c : TT) (t u : TS) : TS := fun D σ H => c σ H fun b H1 => if b = true then t D σ H1 else u D σ H1
theorem ps_if {c : Expr} {a b : List Stmt} {tc : TT} (hc : PT X c tc) (ha : PSs X a t) (hb : PSs X b u) : PS X (.If c a b pos) (tIfS tc t u) := by
  intro pins s σ H D I h
  refine wpAny_If (thn (hc pins s σ H _ I h) fun d s1 ⟨H1, I1, q1⟩ => ?_)
  cases d with
  | true => exact ha pins s1 σ H1 D I1 q1
  | false => exact hb pins s1 σ H1 D I1 q1
end

/-! ### targets -/
abbrev TG := V → St → Hp → (St → Hp → Prop) → Prop
def PG (X : Cx) (target : Expr) (t : TG) : Prop :=
  ∀ (pins : List (Addr × Obj)) (s : Shared) (σ : St) (H : Hp) (v : V) (u : Value) (Q : St → Hp → Prop), Inv X pins σ H s → RelV v u → t v σ H Q →
    wpAny (model X.prog X.w) X.A (assign target X.env u) (fun _ s' => ∃ σ' H', Inv X pins σ' H' s' ∧ Q σ' H') X.xe s
/-- o[i] = v, by values -/
abbrev TSet := V → V → V → Hp → (Hp → Prop) → Prop
def PSet (X : Cx) (t : TSet) : Prop :=
  ∀ (pins : List (Addr × Obj)) (s : Shared) (σ : St) (H : Hp) (o i v : V) (ov iv u : Value) (Q : Hp → Prop), Inv X pins σ H s → RelV o ov → RelV i iv → RelV v u → t o i v H Q →
    wpAny (model X.prog X.w) X.A (setItem ov iv u) (fun _ s' => ∃ H', Inv X pins σ H' s' ∧ Q H') X.xe s
section
variable {X : Cx} {pos : Pos}
def gName (i : Nat) : TG := fun v σ H Q => Q (σ.set i (some v)) H
theorem pg_name {i : Nat} {x : Str} (hN : X.N.Nodup) (hi : X.N[i]? = some x) (hx : Loc X.env.scope x) (hf : X.fn x = true ∨ X.env.scope.names.lookup x = some .local := by first | exact .inl rfl | exact .inr rfl | assumption) : PG X (.Name x pos) (gName i) := by
  intro pins s σ H v u Q I r h
  exact wpAny_assign_Name (store_ok I hN hi hx r (fun s' I' => ⟨_, H, I', h⟩) hf)
/-- o[i] = .. -/
def gSub (to ti : TE) (t : TSet) : TG := fun v σ H Q => to σ H fun o H1 => ti σ H1 fun i H2 => t o i v H2 fun H3 => Q σ H3
theorem pg_sub {o i : Expr} {to ti : TE} {t : TSet} (ho : PE X o to) (hi : PE X i ti) (hs : PSet X t)
    (ha : ∀ v, assign (.Subscript o i pos) X.env v = (do
      let ov ← holding [v] (eval o X.env)
      let iv ← holding [v, ov] (eval i X.env)
      standAt pos
      holding [v, ov, iv] (setItem ov iv v)
      release [v, ov, iv] []) := by intro _; rfl) : PG X (.Subscript o i pos) (gSub to ti t) := by
  intro pins s σ H v u Q I r h
  rw [ha]
  refine wpAny_bind (wpAny_holding (thn (ho pins s σ H _ I h) fun ov s1 ⟨x, H1, I1, r1, q1⟩ => ?_))
  refine wpAny_bind (wpAny_holding (thn (hi pins s1 σ H1 _ I1 q1) fun iv s2 ⟨y, H2, I2, r2, q2⟩ => ?_))
  refine wpAny_bind (wpAny_standAt (wpAny_bind (wpAny_holding (thn (hs pins s2 σ H2 x y v ov iv u _ I2 r1 r2 r q2) fun _ s3 ⟨H3, I3, q3⟩ => ?_))))
  exact wpAny_release ⟨σ, H3, I3, q3⟩
/-- target = value -/
def tAsg (te : TE) (g : TG) : TS := fun D σ H => te σ H fun x H1 => g x σ H1 D.nx
theorem ps_asg {tg e : Expr} {te : TE} {g : TG} (he : PE X e te) (hg : PG X tg g) (hs : swapsWithSole [tg] e pos.line X.env = pure false := by rfl) (hw : swappedStores [tg] e X.env = pure none := by rfl)
    (h1 : (assignEach [tg] X.env).map (·.2) = [assign tg X.env] := by rfl) : PS X (.Assign [tg] e pos) (tAsg te g) := by
  intro pins s σ H D I h
  refine wpAny_Assign_stores (thn (he pins s σ H _ I h) fun v s1 ⟨x, H1, I1, r1, q1⟩ => ?_) hs hw
  rw [h1]
  exact thn (hg pins s1 σ H1 x v _ I1 r1 q1) fun _ s2 q => q
/-- name = value -/
theorem ps_set {i : Nat} {x : Str} {e : Expr} {te : TE} {pos' : Pos} (hN : X.N.Nodup) (hi : X.N[i]? = some x) (hx : Loc X.env.scope x) (he : PE X e te) (hs : swapsWith e (some (.Name x pos')) pos.line X.env = pure false := by rfl) (hf : X.fn x = true ∨ X.env.scope.names.lookup x = some .local := by first | exact .inl rfl | exact .inr rfl | assumption) :
    PS X (.Assign [.Name x pos'] e pos) (tAsg te (gName i)) := by
  intro pins s σ H D I h
  refine wpAny_Assign_Name (thn (he pins s σ H _ I h) fun v s1 ⟨y, H1, I1, r1, q1⟩ => ?_) hs
  exact store_ok I1 hN hi hx r1 (fun s2 I2 => ⟨_, H1, I2, q1⟩) hf
end

/-! ### while -/
section
variable {X : Cx} {pos : Pos}
/-- the invariant W with its measure -/
def tWhile (c : TT) (tb : TS) : TS := fun D σ H => ∃ W : Nat → St → Hp → Prop, (∃ m, W m σ H) ∧ ∀ m σ H, W m σ H →
  c σ H fun b H1 => if b = true then ∃ N : St → Hp → Prop, (∀ σ' H', N σ' H' → ∃ m', m' < m ∧ W m' σ' H') ∧ tb { D with nx := N, ct := N, bk := D.nx } σ H1 else D.nx σ H1
theorem ps_while {c : Expr} {body : List Stmt} {tc : TT} {tb : TS} (hp : PassesOwn (model X.prog X.w) X.A X.env X.xe) (hc : PT X c tc) (hb : PSs X body tb) : PS X (.While c body [] pos) (tWhile tc tb) := by
  intro pins s σ H D I h
  obtain ⟨W, ⟨m0, w0⟩, turn⟩ := h
  refine wpAny_While (codeAny_whileLoop (fun n s' => ∃ σ' H', Inv X pins σ' H' s' ∧ W n σ' H') ?_ m0 ⟨σ, H, I, w0⟩)
  rintro n s1 ⟨σ1, H1, I1, w1⟩
  refine wpAny_passesOwn hp (thn (hc pins s1 σ1 H1 _ I1 (turn n σ1 H1 w1)) fun b s2 ⟨H2, I2, q2⟩ => ?_)
  cases b with
  | true =>
    obtain ⟨N, hN, q2⟩ := q2
    rw [if_pos rfl]
    refine wpAny_passesOwn hp (thn (hb pins s2 σ1 H2 _ I2 q2) fun f s3 q3 => ?_)
    cases f with
    | next =>
      obtain ⟨σ3, H3, I3, n3⟩ := q3
      obtain ⟨m', hm, w3⟩ := hN σ3 H3 n3
      exact ⟨m', hm, σ3, H3, I3, w3⟩
    | cont =>
      obtain ⟨σ3, H3, I3, n3⟩ := q3
      obtain ⟨m', hm, w3⟩ := hN σ3 H3 n3
      exact ⟨m', hm, σ3, H3, I3, w3⟩
    | brk => exact q3
    | ret v => exact q3
  | false =>
    rw [if_neg Bool.false_ne_true]
    exact wpAny_execs_nil ⟨σ1, H2, I2, q2⟩
end

/-! ### what a loop or a comprehension walks -/
/-- at turn i: it yields x (the heap may grow), or it stops -/
structure It where
  go : Nat → Hp → Prop
  yld : Nat → Hp → V → Hp → Prop
  stop : Nat → Hp → Prop
/-- the iterator's own objects may turn: they are not the frame's, not pinned, younger than the entry (or a comprehension's own) -/
def FpOk (X : Cx) (pins : List (Addr × Obj)) (H : Hp) (b : Addr) : Prop :=
  H b = none ∧ b ≠ X.env.locals ∧ b ∉ X.fs ∧ (b ∈ X.ex ∨ X.s₀.heap.objs.size ≤ b) ∧ (∀ x c, X.env.cells.lookup x = some c → c ≠ b) ∧ ∀ p ∈ X.pn ++ pins, p.1 ≠ b
theorem Inv.fpOk {X : Cx} {pins : List (Addr × Obj)} {σ : St} {H H' : Hp} {s : Shared} {b : Addr} (I : Inv X pins σ H s) (hb : s.heap.objs.size ≤ b) (hn : H' b = none) : FpOk X pins H' b := by
  refine ⟨hn, Nat.ne_of_gt (Nat.lt_of_lt_of_le I.lt hb), I.nofs hb, .inr (Nat.le_trans I.sz hb), fun x c e z => ?_, fun p hp z => ?_⟩
  · obtain ⟨v, q⟩ := I.cell x c e
    exact absurd (Nat.lt_of_lt_of_le q.lt (by rw [z]; exact hb)) (Nat.lt_irrefl _)
  · exact absurd (Nat.lt_of_lt_of_le (Heap.lt_size (I.pin p hp).1) (by rw [z]; exact hb)) (Nat.lt_irrefl _)
structure Turn (P : Program) (w : World) (K : PySem.W.Frag) (tg : Expr) (J : It) (fp : List Addr) (it : Addr) (tn : Nat → Heap → Prop) : Prop where
  mem : it ∈ fp
  obj : ∀ i h, tn i h → ∀ b ∈ fp, ∃ o, h.get? b = some o ∧ ∀ v, o.data ≠ .cell v
  keep : ∀ i h h', tn i h → (∀ b ∈ fp, ∀ o, h.get? b = some o → h'.get? b = some o) → tn i h'
  item : ∀ (X : Cx), X.prog = P → X.w = w → X.K = K → X.calm = true → ∀ (i : Nat) (pins : List (Addr × Obj)) (s : Shared) (σ : St) (H : Hp) (E : Value → Shared → Prop), Inv X pins σ H s → (∀ b ∈ fp, FpOk X pins H b) → tn i s.heap → J.go i H →
    wpAny (model P w) X.A (pyNext (.ref it)) (fun r s1 => ∃ u, r = some u ∧
      wpAny (model P w) X.A (letOwnedTupleGo tg (.ref it) u) (fun _ s2 => ∃ x H', Inv X pins σ H' s2 ∧ RelV x u ∧ J.yld i H x H' ∧ tn (i + 1) s2.heap ∧ ∀ b ∈ fp, H' b = none) E s1) E s
  done : ∀ (X : Cx), X.prog = P → X.w = w → X.K = K → X.calm = true → ∀ (i : Nat) (pins : List (Addr × Obj)) (s : Shared) (σ : St) (H : Hp) (E : Value → Shared → Prop), Inv X pins σ H s → (∀ b ∈ fp, FpOk X pins H b) → tn i s.heap → J.stop i H →
    wpAny (model P w) X.A (pyNext (.ref it)) (fun r s1 => r = none ∧ Inv X pins σ H s1) E s
  self : ∀ (A : Around) (i : Nat) (s : Shared) (Q : Value → Shared → Prop) (E : Value → Shared → Prop), tn i s.heap → Q (.ref it) s → wpAny (model P w) A (pyIter (.ref it)) Q E s
abbrev TI := St → Hp → (It → Hp → Prop) → Prop
/-- an iterator has come -/
def PIE (X : Cx) (pins : List (Addr × Obj)) (σ : St) (tg : Expr) (R : It → Hp → Prop) (itv : Value) (s2 : Shared) : Prop :=
  ∃ (it : Addr) (fp : List Addr) (tn : Nat → Heap → Prop) (J : It) (H' : Hp), itv = .ref it ∧ Inv X pins σ H' s2 ∧ Turn X.prog X.w X.K tg J fp it tn ∧ tn 0 s2.heap ∧ (∀ b ∈ fp, FpOk X pins H' b) ∧ R J H'
def PI (X : Cx) (tg iter : Expr) (wi : TI) : Prop :=
  ∀ (pins : List (Addr × Obj)) (s : Shared) (σ : St) (H : Hp) (R : It → Hp → Prop), Inv X pins σ H s → wi σ H R →
    wpAny (model X.prog X.w) X.A (eval iter X.env) (fun v s1 => wpAny (model X.prog X.w) X.A (pyIter v) (PIE X pins σ tg R) X.xe s1) X.xe s

/-- the step ahead of the store is nothing for an iterator that keeps no tuple -/
theorem go_of {M : Model} {A : Around} {E : Value → Shared → Prop} {s : Shared} {tg : Expr} {it : Addr} {u : Value} {o : Obj} {n : String} {vs : Array Value} {Q : Unit → Shared → Prop} (ho : s.heap.get? it = some o) (hc : o.cls = .type n) (hd : o.data = .fields vs)
    (hn : ["enumerate", "zip", "dict_itemiterator", "dict_reverseitemiterator", "odict_iterator", "itertools.zip_longest", "itertools.pairwise"].contains n = false) (hQ : Q () s) : wpAny M A (letOwnedTupleGo tg (.ref it) u) Q E s := by
  unfold letOwnedTupleGo
  cases tg <;> first
    | exact wpAny_pure hQ
    | (cases u <;> first
        | exact wpAny_pure hQ
        | (refine wpAny_bind (wpAny_load ho ?_)
           rw [hc, hd]
           show wpAny M A (if (["enumerate", "zip", "dict_itemiterator", "dict_reverseitemiterator", "odict_iterator", "itertools.zip_longest", "itertools.pairwise"].contains n && vs[0]? == some (rawInt _)) = true then _ else _) Q E s
           rw [if_neg (by intro h; rw [hn, Bool.false_and] at h; cases h)]
           exact wpAny_pure hQ))

/-- the list at a, as it stands at each turn (a loop may append to it) -/
def Itl (K : PySem.W.Frag) (a : Addr) : It :=
  ⟨fun i H => ∃ xs x, SqL K H a xs ∧ xs[i]? = some x, fun i H x H' => H' = H ∧ ∀ xs, SqL K H a xs → xs[i]? = some x, fun i H => ∃ xs, SqL K H a xs ∧ xs.length ≤ i⟩
def Itt (K : PySem.W.Frag) (a : Addr) : It :=
  ⟨fun i H => ∃ xs x, SqT K H a xs ∧ xs[i]? = some x, fun i H x H' => H' = H ∧ ∀ xs, SqT K H a xs → xs[i]? = some x, fun i H => ∃ xs, SqT K H a xs ∧ xs.length ≤ i⟩
/-- lo, lo + 1, .. (n of them) -/
def Itr (lo : Int) (n : Nat) : It := ⟨fun i _ => i < n, fun i H x H' => H' = H ∧ x = .int (lo + i), fun i _ => n ≤ i⟩
theorem turn_list {P : Program} {w : World} {K : PySem.W.Frag} {tg : Expr} (a it : Addr) : Turn P w K tg (Itl K a) [it] it (fun i h => h.IsListIter it a i) where
  mem := by simp
  obj := fun i h st b hb => by
    have e : b = it := by simpa using hb
    subst e
    obtain ⟨o, e, c, d⟩ := st
    exact ⟨o, e, fun v z => by rw [d] at z; cases z⟩
  keep := fun i h h' st k => st.at fun o e => k it (by simp) o e
  item := by
    intro X hP hw hK hc i pins s σ H E I hf st hg
    subst hP hw hK
    obtain ⟨xs, x, hq, hx⟩ := hg
    obtain ⟨its, rv, p, hz⟩ := I.list hq
    obtain ⟨u, hu, ru⟩ := rv.get hx
    obtain ⟨f0, f1, f2, f3, f4, f5⟩ := hf it (by simp)
    refine wpAny_pyNext_list_item st p.isList (x := u) (by simpa using hu) fun h' st' sb => ?_
    have I1 : Inv X pins σ H { s with heap := h' } := I.turned (t' := s.toks) (fun b o hb e => (sb.2 b hb).trans e) f0 f1 f3 f4 f5
    obtain ⟨o, e, c, d⟩ := id st'
    exact ⟨u, rfl, go_of (s := { s with heap := h' }) e c d (by decide) ⟨x, H, I1, ru, ⟨rfl, fun ys hy => by rw [I.list_inj hy hq]; exact hx⟩, st', fun b hb => (hf b hb).1⟩⟩
  done := by
    intro X hP hw hK hc i pins s σ H E I hf st hg
    subst hP hw hK
    obtain ⟨xs, hq, hx⟩ := hg
    obtain ⟨its, rv, p, hz⟩ := I.list hq
    obtain ⟨f0, f1, f2, f3, f4, f5⟩ := hf it (by simp)
    have hl := rv.length
    exact wpAny_pyNext_list_end (I.ok.hd hc) st p.isList (by simp; omega) fun h' eb => ⟨rfl, I.turned (t' := s.toks) (fun b o hb e => eb b o hb e) f0 f1 f3 f4 f5⟩
  self := fun _ _ _ _ _ st h => wpAny_pyIter_listiter st h
theorem turn_tuple {P : Program} {w : World} {K : PySem.W.Frag} {tg : Expr} (a it : Addr) : Turn P w K tg (Itt K a) [it] it (fun i h => h.IsTupleIter it a i) where
  mem := by simp
  obj := fun i h st b hb => by
    have e : b = it := by simpa using hb
    subst e
    obtain ⟨o, e, c, d⟩ := st
    exact ⟨o, e, fun v z => by rw [d] at z; cases z⟩
  keep := fun i h h' st k => st.at fun o e => k it (by simp) o e
  item := by
    intro X hP hw hK hc i pins s σ H E I hf st hg
    subst hP hw hK
    obtain ⟨xs, x, hq, hx⟩ := hg
    obtain ⟨its, rv, p, hz⟩ := I.tuple hq
    obtain ⟨u, hu, ru⟩ := rv.get hx
    obtain ⟨f0, f1, f2, f3, f4, f5⟩ := hf it (by simp)
    refine wpAny_pyNext_tuple_item st (show s.heap.IsTuple a its.toArray from p) (x := u) (by simpa using hu) fun h' st' sb => ?_
    have I1 : Inv X pins σ H { s with heap := h' } := I.turned (t' := s.toks) (fun b o hb e => (sb.2 b hb).trans e) f0 f1 f3 f4 f5
    obtain ⟨o, e, c, d⟩ := id st'
    exact ⟨u, rfl, go_of (s := { s with heap := h' }) e c d (by decide) ⟨x, H, I1, ru, ⟨rfl, fun ys hy => by rw [I.tuple_inj hy hq]; exact hx⟩, st', fun b hb => (hf b hb).1⟩⟩
  done := by
    intro X hP hw hK hc i pins s σ H E I hf st hg
    subst hP hw hK
    obtain ⟨xs, hq, hx⟩ := hg
    obtain ⟨its, rv, p, hz⟩ := I.tuple hq
    obtain ⟨f0, f1, f2, f3, f4, f5⟩ := hf it (by simp)
    have hl := rv.length
    exact wpAny_pyNext_tuple_end (I.ok.hd hc) st (show s.heap.IsTuple a its.toArray from p) (by simp; omega) fun h' eb => ⟨rfl, I.turned (t' := s.toks) (fun b o hb e => eb b o hb e) f0 f1 f3 f4 f5⟩
  self := fun _ _ _ _ _ st h => wpAny_pyIter_tupleiter st h
theorem turn_range {P : Program} {w : World} {K : PySem.W.Frag} {tg : Expr} (it : Addr) (lo : Int) (n : Nat) : Turn P w K tg (Itr lo n) [it] it (fun i h => IsRangeIter h it (lo + (i : Nat) * 1) ((n : Int) - (i : Nat)) 1) where
  mem := by simp
  obj := fun i h st b hb => by
    have e : b = it := by simpa using hb
    subst e
    exact ⟨_, st, fun v z => by
      have z' : Data.fields _ = Data.cell v := z
      cases z'⟩
  keep := fun i h h' st k => k it (by simp) _ st
  item := by
    intro X hP hw hK hc i pins s σ H E I hf st hg
    subst hP hw hK
    obtain ⟨f0, f1, f2, f3, f4, f5⟩ := hf it (by simp)
    have W := Walks.range (prog := X.prog) (w := X.w) (I.ok.hd hc) it lo 1 n
    refine W.item i s _ _ hg st fun v h' tk hv st' kk => ?_
    obtain ⟨t, rfl⟩ := hv
    have I1 : Inv X pins σ H { s with heap := h', toks := tk } := I.turned (fun b o hb e => kk b o (by simpa using hb) e) f0 f1 f3 f4 f5
    refine ⟨_, rfl, go_of (s := { s with heap := h', toks := tk }) (n := "range_iterator") st' rfl rfl (by decide) ⟨.int (lo + i), H, I1, ⟨t, ?_⟩, ⟨rfl, rfl⟩, st', fun b hb => (hf b hb).1⟩⟩
    rw [Int.mul_one]
  done := by
    intro X hP hw hK hc i pins s σ H E I hf st hg
    subst hP hw hK
    obtain ⟨f0, f1, f2, f3, f4, f5⟩ := hf it (by simp)
    exact wpAny_pyNext_range_end (I.ok.hd hc) st (by have : n ≤ i := hg; omega) fun h' eb => ⟨rfl, I.turned (t' := s.toks) (fun b o hb e => eb b o hb e) f0 f1 f3 f4 f5⟩
  self := fun _ _ _ _ _ st h => wpAny_pyIter_rangeiter st h
end L2

namespace L2
open PySem PySem.Spec PyProof.Rows
section
variable {X : Cx} {tg : Expr}
def iList (K : PySem.W.Frag) (tl : TE) : TI := fun σ H R => tl σ H fun x H1 => ∃ a, x = .ref a ∧ (∃ xs, SqL K H1 a xs) ∧ R (Itl K a) H1
def iTup (K : PySem.W.Frag) (tl : TE) : TI := fun σ H R => tl σ H fun x H1 => ∃ a, x = .ref a ∧ (∃ xs, SqT K H1 a xs) ∧ R (Itt K a) H1
theorem pi_list {l : Expr} {tl : TE} (hl : PE X l tl) : PI X tg l (iList X.K tl) := by
  intro pins s σ H R I h
  refine thn (hl pins s σ H _ I h) fun v s1 ⟨x, H1, I1, r1, q1⟩ => ?_
  obtain ⟨a, e, ⟨xs, hq⟩, q⟩ := q1
  subst e
  cases r1
  obtain ⟨its, rv, p, hz⟩ := I1.list hq
  refine wpAny_pyIter_list p.isList ?_
  refine ⟨s1.heap.objs.size, [s1.heap.objs.size], _, _, H1, rfl, I1.kept (t' := s1.toks) fun b o e => Heap.get?_push_of_some _ e, turn_list a _, ⟨_, Heap.get?_push_size _ rfl, rfl, rfl⟩, fun b hb => ?_, q⟩
  have e : b = s1.heap.objs.size := by simpa using hb
  subst e
  exact I1.fpOk (Nat.le_refl _) (I1.hok.fresh (Nat.le_refl _))
theorem pi_tup {l : Expr} {tl : TE} (hl : PE X l tl) : PI X tg l (iTup X.K tl) := by
  intro pins s σ H R I h
  refine thn (hl pins s σ H _ I h) fun v s1 ⟨x, H1, I1, r1, q1⟩ => ?_
  obtain ⟨a, e, ⟨xs, hq⟩, q⟩ := q1
  subst e
  cases r1
  obtain ⟨its, rv, p, hz⟩ := I1.tuple hq
  refine wpAny_pyIter_tuple (show s1.heap.IsTuple a its.toArray from p) ?_
  refine ⟨s1.heap.objs.size, [s1.heap.objs.size], _, _, H1, rfl, I1.kept (t' := s1.toks) fun b o e => Heap.get?_push_of_some _ e, turn_tuple a _, ⟨_, Heap.get?_push_size _ rfl, rfl, rfl⟩, fun b hb => ?_, q⟩
  have e : b = s1.heap.objs.size := by simpa using hb
  subst e
  exact I1.fpOk (Nat.le_refl _) (I1.hok.fresh (Nat.le_refl _))
/-- a range object just made, walked -/
theorem range_it {pins : List (Addr × Obj)} {σ : St} {H : Hp} {s : Shared} {R : It → Hp → Prop} {E : Value → Shared → Prop} {lo hi : Int} {t u v : Tok} {tk : Nat} (I : Inv X pins σ H s) (h1 : -(2 ^ 62) ≤ lo) (h2 : lo < 2 ^ 62) (h3 : -(2 ^ 62) ≤ hi) (h4 : hi < 2 ^ 62)
    (q : R (Itr lo (hi - lo).toNat) H) : wpAny (model X.prog X.w) X.A (pyIter (.ref s.heap.objs.size)) (PIE X pins σ tg R) E { s with heap := s.heap.push { cls := .type "range", data := .fields #[.int lo t, .int hi u, .int 1 v] }, toks := tk } := by
  refine wpAny_pyIter_range (IsRange.new ..) (small_one h1 h2 h3 h4) ?_
  have I1 : Inv X pins σ H { s with heap := s.heap.push { cls := .type "range", data := .fields #[.int lo t, .int hi u, .int 1 v] }, toks := tk } := I.kept fun b o e => Heap.get?_push_of_some _ e
  refine ⟨(s.heap.push { cls := .type "range", data := .fields #[.int lo t, .int hi u, .int 1 v] }).objs.size, [(s.heap.push { cls := .type "range", data := .fields #[.int lo t, .int hi u, .int 1 v] }).objs.size], _, _, H, rfl,
    I1.kept (t' := tk) fun b o e => Heap.get?_push_of_some _ e, turn_range _ lo (hi - lo).toNat, ?_, fun b hb => ?_, q⟩
  · have e1 : lo + ((0 : Nat) : Int) * 1 = lo := by simp
    have e2 : (((hi - lo).toNat : Nat) : Int) - ((0 : Nat) : Int) = Builtin.Range.rangeSize lo hi 1 := by rw [rangeSize_one]; split <;> omega
    show IsRangeIter _ _ (lo + ((0 : Nat) : Int) * 1) ((((hi - lo).toNat : Nat) : Int) - ((0 : Nat) : Int)) 1
    rw [e1, e2]
    exact Heap.get?_push_size _ rfl
  · have e : b = (s.heap.push { cls := .type "range", data := .fields #[.int lo t, .int hi u, .int 1 v] }).objs.size := by simpa using hb
    subst e
    exact I1.fpOk (Nat.le_refl _) (I1.hok.fresh (Nat.le_refl _))
def iRng1 (ta : TA) : TI := fun σ H R => ta σ H fun vs H1 => ∃ j : Int, vs = [.int j] ∧ -(2 ^ 62) ≤ j ∧ j < 2 ^ 62 ∧ R (Itr 0 j.toNat) H1
def iRng2 (ta : TA) : TI := fun σ H R => ta σ H fun vs H1 => ∃ i j : Int, vs = [.int i, .int j] ∧ (-(2 ^ 62) ≤ i ∧ i < 2 ^ 62 ∧ -(2 ^ 62) ≤ j ∧ j < 2 ^ 62) ∧ R (Itr i (j - i).toNat) H1
theorem pi_range1 {a : Expr} {ta : TA} {p pos : Pos} (hg : Gl X "range") (hm : X.mg "range" = none) (ha : PA X [a] ta) (hs : starEach [a] X.env = [(false, eval a X.env)] := by rfl) : PI X tg (.Call (.Name "range" p) [a] [] pos) (iRng1 ta) := by
  intro pins s σ H R I h
  refine Call_ (ld_blt I hg hm boot_range (PyProof.Rows.callWith_type1 (thn (ha pos pins s σ H _ I h) fun us s1 ⟨vs, H1, I1, r1, q1⟩ => ?_) hs rfl))
  obtain ⟨j, e, q1, q2, q⟩ := q1
  subst e
  cases r1 with
  | cons r rr =>
    cases rr
    obtain ⟨t, rfl⟩ := r
    exact call_range_1 (range_it I1 (by omega) (by omega) q1 q2 (by simpa using q))
theorem pi_range2 {a b : Expr} {ta : TA} {p pos : Pos} (hg : Gl X "range") (hm : X.mg "range" = none) (ha : PA X [a, b] ta) (hs : starEach [a, b] X.env = [(false, eval a X.env), (false, eval b X.env)] := by rfl) (hs2 : starEach [b] X.env = [(false, eval b X.env)] := by rfl) :
    PI X tg (.Call (.Name "range" p) [a, b] [] pos) (iRng2 ta) := by
  intro pins s σ H R I h
  refine Call_ (ld_blt I hg hm boot_range (PyProof.Rows.callWith_type1 (thn (ha pos pins s σ H _ I h) fun us s1 ⟨vs, H1, I1, r1, q1⟩ => ?_) (by rw [hs, hs2]) (by rw [hs2]; rfl)))
  obtain ⟨i, j, e, ⟨q1, q2, q3, q4⟩, q⟩ := q1
  subst e
  cases r1 with
  | cons r rr =>
    cases rr with
    | cons r' rr =>
      cases rr
      obtain ⟨t, rfl⟩ := r
      obtain ⟨t', rfl⟩ := r'
      exact call_range_2 (range_it I1 q1 q2 q3 q4 q)

/-! ### for -/
/-- W: the invariant by the turn and a measure; N: what the body is to reach -/
def tFor (wi : TI) (g : TG) (tb : TS) : TS := fun D σ H => wi σ H fun J H1 => ∃ W : Nat → Nat → St → Hp → Prop, (∃ m, W 0 m σ H1) ∧ ∀ i m σ H, W i m σ H →
  (J.stop i H ∧ D.nx σ H) ∨ (J.go i H ∧ ∃ N : St → Hp → Prop, (∀ σ' H', N σ' H' → ∃ m', m' < m ∧ W (i + 1) m' σ' H') ∧ ∀ x H', J.yld i H x H' → g x σ H' fun σ2 H2 => tb { D with nx := N, ct := N, bk := D.nx } σ2 H2)
/-- the records at fp as they stand -/
def pinsAt (fp : List Addr) (h : Heap) : List (Addr × Obj) := fp.filterMap fun b => (h.get? b).map fun o => (b, o)
theorem mem_pinsAt {fp : List Addr} {h : Heap} {b : Addr} {o : Obj} (hb : b ∈ fp) (e : h.get? b = some o) : (b, o) ∈ pinsAt fp h := List.mem_filterMap.mpr ⟨b, hb, by rw [e]; rfl⟩
theorem of_pinsAt {fp : List Addr} {h : Heap} {p : Addr × Obj} (hp : p ∈ pinsAt fp h) : p.1 ∈ fp ∧ h.get? p.1 = some p.2 := by
  obtain ⟨b, hb, e⟩ := List.mem_filterMap.mp hp
  cases q : h.get? b with
  | none => rw [q] at e; cases e
  | some o =>
    rw [q] at e
    have e' : (b, o) = p := Option.some.inj e
    subst e'
    exact ⟨hb, q⟩
theorem Inv.pinned {pins : List (Addr × Obj)} {σ : St} {H : Hp} {s : Shared} {fp : List Addr} (I : Inv X pins σ H s) (hf : ∀ b ∈ fp, FpOk X pins H b) (ho : ∀ b ∈ fp, ∃ o, s.heap.get? b = some o ∧ ∀ v, o.data ≠ .cell v) : Inv X (pins ++ pinsAt fp s.heap) σ H s :=
  I.pins_of fun p hp => (List.mem_append.mp hp).elim (fun z => I.pin p (List.mem_append_right _ z)) fun z => by
    obtain ⟨hb, e⟩ := of_pinsAt z
    obtain ⟨f0, f1, f2, _⟩ := hf p.1 hb
    obtain ⟨o, e', d⟩ := ho p.1 hb
    rw [e] at e'; cases e'
    exact ⟨e, f0, f1, f2, d⟩
theorem Inv.unpinned {pins pl : List (Addr × Obj)} {σ : St} {H : Hp} {s : Shared} (I : Inv X (pins ++ pl) σ H s) : Inv X pins σ H s := I.pins_of fun p hp => I.pin p (List.mem_append_right _ (List.mem_append_left _ hp))
theorem ps_for {iter : Expr} {body : List Stmt} {wi : TI} {g : TG} {tb : TS} {pos : Pos} (hp : PassesOwn (model X.prog X.w) X.A X.env X.xe) (hc : X.calm = true) (hi : PI X tg iter wi) (hg : PG X tg g) (hb : PSs X body tb)
    (hs : ∀ x, foldedSetIterable iter X.env x = pure x := by intro _; rfl) : PS X (.For tg iter body [] pos) (tFor wi g tb) := by
  intro pins s σ H D I h
  refine wpAny_For (thn (hi pins s σ H _ I h) fun v s1 h1 => thn h1 fun itv s2 h2 => ?_) hs
  obtain ⟨it, fp, tn, J, H2, e, I2, T, st2, f2, W, ⟨m0, w0⟩, turn⟩ := h2
  subst e
  have stat : ∀ {H' : Hp}, (∀ b ∈ fp, H' b = none) → ∀ b ∈ fp, FpOk X pins H' b := fun hn b hb => ⟨hn b hb, (f2 b hb).2⟩
  refine codeAny_forLoop_any (fun n s' => ∃ i σ' H', Inv X pins σ' H' s' ∧ tn i s'.heap ∧ (∀ b ∈ fp, H' b = none) ∧ W i n σ' H') ?_ m0 ⟨0, σ, H2, I2, st2, fun b hb => (f2 b hb).1, w0⟩
  rintro n s3 ⟨i, σ3, H3, I3, st3, fr3, w3⟩
  rcases turn i n σ3 H3 w3 with ⟨stop, qn⟩ | ⟨go, N, hN, step⟩
  · refine wpAny_passesOwn hp (thn (T.done X rfl rfl rfl hc i pins s3 σ3 H3 X.xe I3 (stat fr3) st3 stop) fun r s4 ⟨hr, I4⟩ => ?_)
    subst hr
    exact wpAny_execs_nil ⟨σ3, H3, I4, qn⟩
  · refine wpAny_passesOwn hp (thn (T.item X rfl rfl rfl hc i pins s3 σ3 H3 X.xe I3 (stat fr3) st3 go) fun r s4 ⟨u, hr, h4⟩ => ?_)
    subst hr
    refine wpAny_passesOwn hp (thn h4 fun _ s5 ⟨x, H5, I5, r5, y5, st5, fr5⟩ => ?_)
    have I5' := I5.pinned (stat fr5) (T.obj _ _ st5)
    refine wpAny_passesOwn hp (thn (hg _ s5 σ3 H5 x u _ I5' r5 (step x H5 y5)) fun _ s6 ⟨σ6, H6, I6, q6⟩ => ?_)
    refine wpAny_passesOwn hp (thn (hb _ s6 σ6 H6 _ I6 q6) fun f s7 q7 => ?_)
    have again : ∀ {σ7 : St} {H7 : Hp}, Inv X (pins ++ pinsAt fp s5.heap) σ7 H7 s7 → N σ7 H7 → ∃ m, m < n ∧ ∃ i σ' H', Inv X pins σ' H' s7 ∧ tn i s7.heap ∧ (∀ b ∈ fp, H' b = none) ∧ W i m σ' H' := fun {σ7 H7} I7 n7 => by
      obtain ⟨m', hm, w7⟩ := hN σ7 H7 n7
      refine ⟨m', hm, i + 1, σ7, H7, I7.unpinned, T.keep _ _ _ st5 fun b hb o e => (I7.pin (b, o) (List.mem_append_right _ (List.mem_append_right _ (mem_pinsAt hb e)))).1, fun b hb => ?_, w7⟩
      obtain ⟨o, e, d⟩ := T.obj _ _ st5 b hb
      exact (I7.pin (b, o) (List.mem_append_right _ (List.mem_append_right _ (mem_pinsAt hb e)))).2.1
    cases f with
    | next => obtain ⟨σ7, H7, I7, n7⟩ := q7; exact again I7 n7
    | cont => obtain ⟨σ7, H7, I7, n7⟩ := q7; exact again I7 n7
    | brk => obtain ⟨σ7, H7, I7, q7⟩ := q7; exact ⟨σ7, H7, I7.unpinned, q7⟩
    | ret v => obtain ⟨x7, σ7, H7, I7, r7, q7⟩ := q7; exact ⟨x7, σ7, H7, I7.unpinned, r7, q7⟩
end

/-! ### the forms one uses -/
/-- over a list that the body leaves as it is -/
theorem for_list {K : PySem.W.Frag} {a : Addr} {xs : List V} {g : TG} {tb : TS} {D : Ends} {σ : St} {H : Hp} (Pv : Nat → St → Hp → Prop) (h0 : Pv 0 σ H) (hl : ∀ i σ H, i ≤ xs.length → Pv i σ H → SqL K H a xs)
    (hs : ∀ i x σ H, xs[i]? = some x → Pv i σ H → g x σ H fun σ2 H2 => tb { D with nx := Pv (i + 1), ct := Pv (i + 1), bk := D.nx } σ2 H2) (hd : ∀ σ H, Pv xs.length σ H → D.nx σ H) :
    ∃ W : Nat → Nat → St → Hp → Prop, (∃ m, W 0 m σ H) ∧ ∀ i m σ H, W i m σ H →
      ((Itl K a).stop i H ∧ D.nx σ H) ∨ ((Itl K a).go i H ∧ ∃ N : St → Hp → Prop, (∀ σ' H', N σ' H' → ∃ m', m' < m ∧ W (i + 1) m' σ' H') ∧ ∀ x H', (Itl K a).yld i H x H' → g x σ H' fun σ2 H2 => tb { D with nx := N, ct := N, bk := D.nx } σ2 H2) := by
  refine ⟨fun i m σ H => m = xs.length - i ∧ i ≤ xs.length ∧ Pv i σ H, ⟨xs.length, by simp, Nat.zero_le _, h0⟩, ?_⟩
  rintro i m σ H ⟨rfl, hi, p⟩
  have q := hl i σ H hi p
  by_cases hlt : i < xs.length
  · refine .inr ⟨⟨xs, xs[i], q, by simp [hlt]⟩, Pv (i + 1), fun σ' H' p' => ⟨xs.length - (i + 1), by omega, rfl, hlt, p'⟩, fun x H' y => ?_⟩
    obtain ⟨e, y⟩ := y
    subst e
    exact hs i x σ _ (y xs q) p
  · have e : i = xs.length := by omega
    subst e
    exact .inl ⟨⟨xs, q, Nat.le_refl _⟩, hd σ H p⟩
theorem for_tup {K : PySem.W.Frag} {a : Addr} {xs : List V} {g : TG} {tb : TS} {D : Ends} {σ : St} {H : Hp} (Pv : Nat → St → Hp → Prop) (h0 : Pv 0 σ H) (hl : ∀ i σ H, i ≤ xs.length → Pv i σ H → SqT K H a xs)
    (hs : ∀ i x σ H, xs[i]? = some x → Pv i σ H → g x σ H fun σ2 H2 => tb { D with nx := Pv (i + 1), ct := Pv (i + 1), bk := D.nx } σ2 H2) (hd : ∀ σ H, Pv xs.length σ H → D.nx σ H) :
    ∃ W : Nat → Nat → St → Hp → Prop, (∃ m, W 0 m σ H) ∧ ∀ i m σ H, W i m σ H →
      ((Itt K a).stop i H ∧ D.nx σ H) ∨ ((Itt K a).go i H ∧ ∃ N : St → Hp → Prop, (∀ σ' H', N σ' H' → ∃ m', m' < m ∧ W (i + 1) m' σ' H') ∧ ∀ x H', (Itt K a).yld i H x H' → g x σ H' fun σ2 H2 => tb { D with nx := N, ct := N, bk := D.nx } σ2 H2) := by
  refine ⟨fun i m σ H => m = xs.length - i ∧ i ≤ xs.length ∧ Pv i σ H, ⟨xs.length, by simp, Nat.zero_le _, h0⟩, ?_⟩
  rintro i m σ H ⟨rfl, hi, p⟩
  have q := hl i σ H hi p
  by_cases hlt : i < xs.length
  · refine .inr ⟨⟨xs, xs[i], q, by simp [hlt]⟩, Pv (i + 1), fun σ' H' p' => ⟨xs.length - (i + 1), by omega, rfl, hlt, p'⟩, fun x H' y => ?_⟩
    obtain ⟨e, y⟩ := y
    subst e
    exact hs i x σ _ (y xs q) p
  · have e : i = xs.length := by omega
    subst e
    exact .inl ⟨⟨xs, q, Nat.le_refl _⟩, hd σ H p⟩
theorem for_range {lo : Int} {n : Nat} {g : TG} {tb : TS} {D : Ends} {σ : St} {H : Hp} (Pv : Nat → St → Hp → Prop) (h0 : Pv 0 σ H)
    (hs : ∀ i σ H, i < n → Pv i σ H → g (.int (lo + i)) σ H fun σ2 H2 => tb { D with nx := Pv (i + 1), ct := Pv (i + 1), bk := D.nx } σ2 H2) (hd : ∀ σ H, Pv n σ H → D.nx σ H) :
    ∃ W : Nat → Nat → St → Hp → Prop, (∃ m, W 0 m σ H) ∧ ∀ i m σ H, W i m σ H →
      ((Itr lo n).stop i H ∧ D.nx σ H) ∨ ((Itr lo n).go i H ∧ ∃ N : St → Hp → Prop, (∀ σ' H', N σ' H' → ∃ m', m' < m ∧ W (i + 1) m' σ' H') ∧ ∀ x H', (Itr lo n).yld i H x H' → g x σ H' fun σ2 H2 => tb { D with nx := N, ct := N, bk := D.nx } σ2 H2) := by
  refine ⟨fun i m σ H => m = n - i ∧ i ≤ n ∧ Pv i σ H, ⟨n, by simp, Nat.zero_le _, h0⟩, ?_⟩
  rintro i m σ H ⟨rfl, hi, p⟩
  by_cases hlt : i < n
  · refine .inr ⟨hlt, Pv (i + 1), fun σ' H' p' => ⟨n - (i + 1), by omega, rfl, hlt, p'⟩, fun x H' y => ?_⟩
    obtain ⟨e, y⟩ := y
    subst e y
    exact hs i σ _ hlt p
  · have e : i = n := by omega
    subst e
    exact .inl ⟨Nat.le_refl _, hd σ H p⟩
end L2

namespace L2
open PySem PySem.Spec PyProof.Rows

abbrev R2 := V → V → Hp → VK → Prop
/-- a two-place operation on values: f is binaryOp op, inplaceOp op or compareOp op -/
def OpR (X : Cx) (f : Value → Value → Sem Value) (r : R2) : Prop :=
  ∀ (pins : List (Addr × Obj)) (s : Shared) (σ : St) (H : Hp) (x y : V) (v u : Value) (Q : VK), Inv X pins σ H s → RelV x v → RelV y u → r x y H Q →
    wpAny (model X.prog X.w) X.A (f v u) (EP X pins σ Q) X.xe s
/-- a one-place operation -/
def UnR (X : Cx) (f : Value → Sem Value) (r : V → Hp → VK → Prop) : Prop :=
  ∀ (pins : List (Addr × Obj)) (s : Shared) (σ : St) (H : Hp) (x : V) (v : Value) (Q : VK), Inv X pins σ H s → RelV x v → r x H Q →
    wpAny (model X.prog X.w) X.A (f v) (EP X pins σ Q) X.xe s
/-- a call of a value that is known (a builtin, a type) with values -/
def CallR (X : Cx) (f : Value) (r : List V → Hp → VK → Prop) : Prop :=
  ∀ (pins : List (Addr × Obj)) (s : Shared) (σ : St) (H : Hp) (xs : List V) (us : List Value) (Q : VK), Inv X pins σ H s → Vals xs us → r xs H Q →
    wpAny (model X.prog X.w) X.A (call f us) (EP X pins σ Q) X.xe s
/-- a value's truth -/
def TruR (X : Cx) (r : V → Hp → (Bool → Hp → Prop) → Prop) : Prop :=
  ∀ (pins : List (Addr × Obj)) (s : Shared) (σ : St) (H : Hp) (x : V) (v : Value) (Q : Bool → Hp → Prop), Inv X pins σ H s → RelV x v → r x H Q →
    wpAny (model X.prog X.w) X.A (truthy v) (TP X pins σ Q) X.xe s

def tOp (r : R2) (ta tb : TE) : TE := fun σ H Q => ta σ H fun x H1 => tb σ H1 fun y H2 => r x y H2 Q
def tUn (r : V → Hp → VK → Prop) (ta : TE) : TE := fun σ H Q => ta σ H fun x H1 => r x H1 Q
/-- ints in, under C, and a value out -/
def rI (C : Int → Int → Prop) (g : Int → Int → V) : R2 := fun x y H Q => ∃ i j, x = .int i ∧ y = .int j ∧ C i j ∧ Q (g i j) H
def rI0 (g : Int → Int → V) : R2 := fun x y H Q => ∃ i j, x = .int i ∧ y = .int j ∧ Q (g i j) H
def rU (g : Int → V) : V → Hp → VK → Prop := fun x H Q => ∃ i, x = .int i ∧ Q (g i) H

section
variable {X : Cx} {a b c : Expr} {ta tb tc : TE} {pos : Pos}

theorem binT (ha : PE X a ta) (hb : PE X b tb) {pins : List (Addr × Obj)} {s : Shared} {σ : St} {H : Hp} {R : V → V → Hp → Prop} (I : Inv X pins σ H s)
    (h : ta σ H fun x H1 => tb σ H1 fun y H2 => R x y H2) {Q : Value → Shared → Prop} {f : Value → Value → Sem Value}
    (hf : ∀ v u s2 x y H2, Inv X pins σ H2 s2 → RelV x v → RelV y u → R x y H2 → wpAny (model X.prog X.w) X.A (f v u) Q X.xe s2) :
    wpAny (model X.prog X.w) X.A (eval a X.env) (fun v s₁ => wpAny (model X.prog X.w) X.A (eval b X.env) (fun u s₂ => wpAny (model X.prog X.w) X.A (f v u) Q X.xe s₂) X.xe s₁) X.xe s := by
  refine thn (ha pins s σ H _ I h) fun v s1 ⟨x, H1, I1, r1, q1⟩ => ?_
  refine thn (hb pins s1 σ H1 _ I1 q1) fun u s2 ⟨y, H2, I2, r2, q2⟩ => ?_
  exact hf v u s2 x y H2 I2 r1 r2 q2

theorem pe_op {op : Operator} {r : R2} (ho : OpR X (binaryOp op) r) (ha : PE X a ta) (hb : PE X b tb) : PE X (.BinOp a op b pos) (tOp r ta tb) := by
  intro pins s σ H Q I h
  exact wpAny_BinOp (binT ha hb I h fun v u s2 x y H2 I2 rx ry q => ho pins s2 σ H2 x y v u Q I2 rx ry q)
theorem pe_un {op : UnaryOp} {r : V → Hp → VK → Prop} (ho : UnR X (unaryOp op) r) (ha : PE X a ta) : PE X (.UnaryOp op a pos) (tUn r ta) := by
  intro pins s σ H Q I h
  exact UnaryOp_ (thn (ha pins s σ H _ I h) fun v s1 ⟨x, H1, I1, r1, q1⟩ => ho pins s1 σ H1 x v Q I1 r1 q1)
/-! ### ints -/
theorem opI {f : Value → Value → Sem Value} {C : Int → Int → Prop} {g : Int → Int → Int}
    (rule : ∀ (i j : Int) (t u : Tok) (s : Shared) (Q : Value → Shared → Prop) (E : Value → Shared → Prop), C i j → Q (.int (g i j) s.toks) { s with toks := s.toks + 1 } → wpAny (model X.prog X.w) X.A (f (.int i t) (.int j u)) Q E s) :
    OpR X f (rI C fun i j => .int (g i j)) := by
  intro pins s σ H x y v u Q I rx ry h
  obtain ⟨i, j, rfl, rfl, hc, q⟩ := h
  obtain ⟨t, rfl⟩ := rx
  obtain ⟨t', rfl⟩ := ry
  exact rule i j t t' s _ _ hc ⟨.int (g i j), H, I.tok _, ⟨_, rfl⟩, q⟩
theorem opI0 {f : Value → Value → Sem Value} {g : Int → Int → Int}
    (rule : ∀ (i j : Int) (t u : Tok) (s : Shared) (Q : Value → Shared → Prop) (E : Value → Shared → Prop), Q (.int (g i j) s.toks) { s with toks := s.toks + 1 } → wpAny (model X.prog X.w) X.A (f (.int i t) (.int j u)) Q E s) :
    OpR X f (rI0 fun i j => .int (g i j)) := by
  intro pins s σ H x y v u Q I rx ry h
  obtain ⟨i, j, rfl, rfl, q⟩ := h
  obtain ⟨t, rfl⟩ := rx
  obtain ⟨t', rfl⟩ := ry
  exact rule i j t t' s _ _ ⟨.int (g i j), H, I.tok _, ⟨_, rfl⟩, q⟩
theorem opB0 {f : Value → Value → Sem Value} {g : Int → Int → Bool}
    (rule : ∀ (i j : Int) (t u : Tok) (s : Shared) (Q : Value → Shared → Prop) (E : Value → Shared → Prop), Q (.bool (g i j)) s → wpAny (model X.prog X.w) X.A (f (.int i t) (.int j u)) Q E s) :
    OpR X f (rI0 fun i j => .bl (g i j)) := by
  intro pins s σ H x y v u Q I rx ry h
  obtain ⟨i, j, rfl, rfl, q⟩ := h
  obtain ⟨t, rfl⟩ := rx
  obtain ⟨t', rfl⟩ := ry
  exact rule i j t t' s _ _ ⟨.bl (g i j), H, I, rfl, q⟩

def CPow (i j : Int) : Prop := 0 ≤ j ∧ j ≤ 1000000 ∧ i.natAbs < 2 ^ 64
def CMul (i j : Int) : Prop := (-(2 ^ 64) < i ∧ i < 2 ^ 64) ∨ (-(2 ^ 64) < j ∧ j < 2 ^ 64)
theorem CMul.ok {i j : Int} (h : CMul i j) : IntMulOk i j := by
  rcases h with ⟨h1, h2⟩ | ⟨h1, h2⟩
  · exact .of_left (intBits_le_64 h1 h2)
  · exact .of_right (intBits_le_64 h1 h2)
theorem op_add : OpR X (binaryOp .Add) (rI0 fun i j => .int (i + j)) := opI0 fun _ _ _ _ _ _ _ q => add_int q
theorem op_sub : OpR X (binaryOp .Sub) (rI0 fun i j => .int (i - j)) := opI0 fun _ _ _ _ _ _ _ q => sub_int q
theorem op_mul : OpR X (binaryOp .Mult) (rI CMul fun i j => .int (i * j)) := opI fun _ _ _ _ _ _ _ hc q => mul_int q hc.ok
/-- % by a positive divisor of any size -/
theorem op_mod : OpR X (binaryOp .Mod) (rI (fun _ j => 0 < j) fun i j => .int (i % j)) := opI fun i j _ _ _ _ _ hc q => by
  have h1 : (0 : Int) < j := hc
  exact mod_int' (by omega) (by rw [Int.fmod_eq_emod_of_nonneg i (by omega)]; exact q)
theorem op_pow : OpR X (binaryOp .Pow) (rI CPow fun i j => .int (i ^ j.toNat)) := opI fun _ _ _ _ _ _ _ hc q => pow_int_small hc.1 hc.2.1 hc.2.2 q
theorem op_shl : OpR X (binaryOp .LShift) (rI CPow fun i j => .int (i * 2 ^ j.toNat)) := opI fun _ _ _ _ _ _ _ hc q => lshift_int_small hc.1 hc.2.1 hc.2.2 q
theorem unI {f : Value → Sem Value} {g : Int → Int}
    (rule : ∀ (i : Int) (t : Tok) (s : Shared) (Q : Value → Shared → Prop) (E : Value → Shared → Prop), Q (.int (g i) s.toks) { s with toks := s.toks + 1 } → wpAny (model X.prog X.w) X.A (f (.int i t)) Q E s) :
    UnR X f (rU fun i => .int (g i)) := by
  intro pins s σ H x v Q I rx h
  obtain ⟨i, rfl, q⟩ := h
  obtain ⟨t, rfl⟩ := rx
  exact rule i t s _ _ ⟨.int (g i), H, I.tok _, ⟨_, rfl⟩, q⟩
theorem un_neg : UnR X (unaryOp .USub) (rU fun i => .int (-i)) := unI fun _ _ _ _ _ q => neg_int q
/-! ### bools among ints: n += (a < b) -/
end

/-! ### comparisons -/
/-- the scalars that == tells apart as data does -/
def scal : V → V → Bool
  | .non, .non => true | .non, .int _ => true | .int _, .non => true | .non, .bl _ => true | .bl _, .non => true | .non, .str _ => true | .str _, .non => true
  | .int _, .int _ => true | .bl _, .bl _ => true | .str _, .str _ => true | .byt _, .byt _ => true
  | .int _, .str _ => true | .str _, .int _ => true | .bl _, .str _ => true | .str _, .bl _ => true
  | _, _ => false
def rEq : R2 := fun x y H Q => scal x y = true ∧ Q (.bl (decide (x = y))) H
def rNe : R2 := fun x y H Q => scal x y = true ∧ Q (.bl (!decide (x = y))) H

theorem dec_int {i j : Int} : decide (V.int i = V.int j) = (i == j) := by
  rw [Bool.eq_iff_iff]
  simp
theorem dec_bl {i j : Bool} : decide (V.bl i = V.bl j) = (i == j) := by
  rw [Bool.eq_iff_iff]
  simp
theorem dec_str {i j : Str} : decide (V.str i = V.str j) = (i == j) := by
  rw [Bool.eq_iff_iff]
  simp
theorem dec_byt {i j : Array UInt8} : decide (V.byt i = V.byt j) = (i.toList == j.toList) := by
  rw [Bool.eq_iff_iff]
  cases i
  cases j
  simp

section
variable {X : Cx} {a b c : Expr} {ta tb tc : TE} {pos : Pos}
theorem fin_bl {pins : List (Addr × Obj)} {σ : St} {H : Hp} {s : Shared} {Q : VK} {k k' : Bool} (I : Inv X pins σ H s) (q : Q (.bl k) H) (e : k = k') : EP X pins σ Q (.bool k') s := by
  subst e
  exact ⟨.bl k, H, I, rfl, q⟩
theorem op_eq : OpR X (compareOp .Eq) rEq := by
  intro pins s σ H x y v u Q I rx ry h
  obtain ⟨hs, q⟩ := h
  cases x with
  | non =>
    cases rx
    cases y with
    | non => cases ry; exact PySem.EqNone.eq_none_none (fin_bl I q (by simp))
    | bl j => cases ry; exact PySem.EqNone.eq_none_bool (fin_bl I q (by simp))
    | int j => obtain ⟨t', rfl⟩ := ry; exact PySem.EqNone.eq_none_int (fin_bl I q (by simp))
    | str j => obtain ⟨t', rfl⟩ := ry; exact PySem.EqNone.eq_none_str (fin_bl I q (by simp))
    | _ => exact absurd (show false = true from hs) Bool.false_ne_true
  | bl i =>
    cases rx
    cases y with
    | non => cases ry; exact PySem.EqNone.eq_bool_none (fin_bl I q (by simp))
    | bl j => cases ry; exact eq_bool (fin_bl I q dec_bl)
    | str j => obtain ⟨t', rfl⟩ := ry; exact PySem.EqMixed.eq_bool_str (fin_bl I q (by simp))
    | _ => exact absurd (show false = true from hs) Bool.false_ne_true
  | int i =>
    obtain ⟨t, rfl⟩ := rx
    cases y with
    | non => cases ry; exact PySem.EqNone.eq_int_none (fin_bl I q (by simp))
    | int j => obtain ⟨t', rfl⟩ := ry; exact eq_int (fin_bl I q dec_int)
    | str j => obtain ⟨t', rfl⟩ := ry; exact PySem.EqMixed.eq_int_str (fin_bl I q (by simp))
    | _ => exact absurd (show false = true from hs) Bool.false_ne_true
  | str i =>
    obtain ⟨t, rfl⟩ := rx
    cases y with
    | non => cases ry; exact PySem.EqNone.eq_str_none (fin_bl I q (by simp))
    | bl j => cases ry; exact PySem.EqMixed.eq_str_bool (fin_bl I q (by simp))
    | int j => obtain ⟨t', rfl⟩ := ry; exact PySem.EqMixed.eq_str_int (fin_bl I q (by simp))
    | str j => obtain ⟨t', rfl⟩ := ry; exact eq_str (fin_bl I q dec_str)
    | _ => exact absurd (show false = true from hs) Bool.false_ne_true
  | byt i =>
    obtain ⟨t, rfl⟩ := rx
    cases y with
    | byt j => obtain ⟨t', rfl⟩ := ry; exact PySem.W.eq_bytes (fin_bl I q dec_byt)
    | _ => exact absurd (show false = true from hs) Bool.false_ne_true
  | _ => cases y <;> exact absurd (show false = true from hs) Bool.false_ne_true
theorem op_ne : OpR X (compareOp .NotEq) rNe := by
  intro pins s σ H x y v u Q I rx ry h
  obtain ⟨hs, q⟩ := h
  cases x with
  | non =>
    cases rx
    cases y with
    | non => cases ry; exact PySem.EqNone.ne_none_none (fin_bl I q (by simp))
    | bl j => cases ry; exact PySem.EqNone.ne_none_bool (fin_bl I q (by simp))
    | int j => obtain ⟨t', rfl⟩ := ry; exact PySem.EqNone.ne_none_int (fin_bl I q (by simp))
    | str j => obtain ⟨t', rfl⟩ := ry; exact PySem.EqNone.ne_none_str (fin_bl I q (by simp))
    | _ => exact absurd (show false = true from hs) Bool.false_ne_true
  | bl i =>
    cases rx
    cases y with
    | non => cases ry; exact PySem.EqNone.ne_bool_none (fin_bl I q (by simp))
    | bl j => cases ry; exact ne_bool (fin_bl I q (congrArg not dec_bl))
    | str j => obtain ⟨t', rfl⟩ := ry; exact PySem.EqMixed.ne_bool_str (fin_bl I q (by simp))
    | _ => exact absurd (show false = true from hs) Bool.false_ne_true
  | int i =>
    obtain ⟨t, rfl⟩ := rx
    cases y with
    | non => cases ry; exact PySem.EqNone.ne_int_none (fin_bl I q (by simp))
    | int j => obtain ⟨t', rfl⟩ := ry; exact ne_int (fin_bl I q (congrArg not dec_int))
    | str j => obtain ⟨t', rfl⟩ := ry; exact PySem.EqMixed.ne_int_str (fin_bl I q (by simp))
    | _ => exact absurd (show false = true from hs) Bool.false_ne_true
  | str i =>
    obtain ⟨t, rfl⟩ := rx
    cases y with
    | non => cases ry; exact PySem.EqNone.ne_str_none (fin_bl I q (by simp))
    | bl j => cases ry; exact PySem.EqMixed.ne_str_bool (fin_bl I q (by simp))
    | int j => obtain ⟨t', rfl⟩ := ry; exact PySem.EqMixed.ne_str_int (fin_bl I q (by simp))
    | str j => obtain ⟨t', rfl⟩ := ry; exact ne_str (fin_bl I q (congrArg not dec_str))
    | _ => exact absurd (show false = true from hs) Bool.false_ne_true
  | byt i =>
    obtain ⟨t, rfl⟩ := rx
    cases y with
    | byt j => obtain ⟨t', rfl⟩ := ry; exact PySem.W.ne_bytes (fin_bl I q (congrArg not dec_byt))
    | _ => exact absurd (show false = true from hs) Bool.false_ne_true
  | _ => cases y <;> exact absurd (show false = true from hs) Bool.false_ne_true

theorem op_lt : OpR X (compareOp .Lt) (rI0 fun i j => .bl (decide (i < j))) := opB0 fun _ _ _ _ _ _ _ q => lt_int q
theorem op_le : OpR X (compareOp .LtE) (rI0 fun i j => .bl (decide (i ≤ j))) := opB0 fun _ _ _ _ _ _ _ q => le_int q
theorem op_gt : OpR X (compareOp .Gt) (rI0 fun i j => .bl (decide (j < i))) := opB0 fun _ _ _ _ _ _ _ q => gt_int q
theorem op_lt_str : OpR X (compareOp .Lt) (fun x y H Q => ∃ i j, x = .str i ∧ y = .str j ∧ Q (.bl (decide (i.cps.toList < j.cps.toList))) H) := by
  intro pins s σ H x y v u Q I rx ry h
  obtain ⟨i, j, rfl, rfl, q⟩ := h
  obtain ⟨t, rfl⟩ := rx
  obtain ⟨t', rfl⟩ := ry
  exact lt_str (fin_bl I q rfl)
theorem nomark (b : Expr) {op : CmpOp} (h : op ≠ .In := by decide) (h2 : op ≠ .NotIn := by decide) : behindInMarks op b = false := by
  have e1 : (op == CmpOp.In) = false := by cases op <;> first | rfl | exact absurd rfl h
  have e2 : (op == CmpOp.NotIn) = false := by cases op <;> first | rfl | exact absurd rfl h2
  cases b <;> simp [behindInMarks, e1, e2]
/-- a comparison as a value; hm: nomark b, or (for in, not in) by with_unfolding_all rfl -/
theorem pe_cmpR {op : CmpOp} {r : R2} (ho : OpR X (compareOp op) r) (ha : PE X a ta) (hb : PE X b tb) (hm : behindInMarks op b = false) : PE X (.Compare a [op] [b] pos) (tOp r ta tb) := by
  intro pins s σ H Q I h
  exact wpAny_Compare1 (binT ha hb I h fun v u s2 x y H2 I2 rx ry q => ho pins s2 σ H2 x y v u Q I2 rx ry q) hm
/-- a reading of a value as a test -/
def tTest (t : TE) : TT := fun σ H Q => t σ H fun x H' => ∃ k, x = .bl k ∧ Q k H'
theorem pt_cmpR {op : CmpOp} {r : R2} (ho : OpR X (compareOp op) r) (ha : PE X a ta) (hb : PE X b tb) (hm : behindInMarks op b = false) : PT X (.Compare a [op] [b] pos) (tTest (tOp r ta tb)) := by
  intro pins s σ H Q I h
  refine wpAny_isTrue_Compare1 (thn (ha pins s σ H _ I h) fun v s1 ⟨x, H1, I1, r1, q1⟩ => thn (hb pins s1 σ H1 _ I1 q1) fun u s2 ⟨y, H2, I2, r2, q2⟩ =>
    thn (ho pins s2 σ H2 x y v u _ I2 r1 r2 q2) fun c s3 ⟨z, H3, I3, r3, k, e, q3⟩ => ?_) hm
  subst e
  cases r3
  exact wpAny_truthy_bool ⟨H3, I3, q3⟩
/-- a op1 b op2 c -/
def tChain (r r' : R2) (ta tb tc : TE) : TE := fun σ H Q => ta σ H fun x H1 => tb σ H1 fun y H2 => r x y H2 fun z H3 => ∃ k, z = .bl k ∧
  (if k = true then tc σ H3 fun w' H4 => r' y w' H4 Q else Q (.bl false) H3)
theorem pe_chain {op op' : CmpOp} {r r' : R2} (ho : OpR X (compareOp op) r) (ho' : OpR X (compareOp op') r') (ha : PE X a ta) (hb : PE X b tb) (hc : PE X c tc)
    (hm : lastMarks [op, op'] [b, c] = false := by with_unfolding_all rfl) : PE X (.Compare a [op, op'] [b, c] pos) (tChain r r' ta tb tc) := by
  intro pins s σ H Q I h
  refine Compare_chain (thn (ha pins s σ H _ I h) fun v s1 ⟨x, H1, I1, r1, q1⟩ => chain_link (thn (hb pins s1 σ H1 _ I1 q1) fun u s2 ⟨y, H2, I2, r2, q2⟩ =>
    thn (ho pins s2 σ H2 x y v u _ I2 r1 r2 q2) fun d s3 ⟨z, H3, I3, r3, k, e, q3⟩ => ?_)) hm
  subst e
  cases r3
  refine wpAny_truthy_bool ?_
  cases k with
  | false => exact ite_ff ⟨.bl false, H3, I3, rfl, q3⟩
  | true => exact ite_tt (chain_last (thn (hc pins s3 σ H3 _ I3 q3) fun w' s4 ⟨z', H4, I4, r4, q4⟩ => ho' pins s4 σ H4 y z' u w' Q I4 r2 r4 q4))
/-! ### truth -/
/-- a value's truth by the abstract heap -/
def TruV (K : PySem.W.Frag) (x : V) (H : Hp) (k : Bool) : Prop :=
  match x with
  | .non => k = false
  | .bl b => k = b
  | .int i => k = (i != 0)
  | .str y => y.length ≤ sizeLine ∧ k = ((y.length : Int) != 0)
  | .byt y => y.size ≤ sizeLine ∧ k = ((y.size : Int) != 0)
  | .ref p => (∃ xs, SqL K H p xs ∧ k = !xs.isEmpty) ∨ (∃ xs, SqT K H p xs ∧ k = !xs.isEmpty) ∨ ∃ kvs, H p = some (.dK kvs) ∧ k = !kvs.isEmpty
  | _ => False
theorem isEmpty_kv {κ : Type} {kvs : List (κ × V)} {vs : List (κ × Value)} (r : KV kvs vs) : (!vs.isEmpty) = !kvs.isEmpty := by
  cases r <;> rfl
theorem isEmpty_of {xs : List V} {its : List Value} (r : Vals xs its) : (!its.toArray.isEmpty) = !xs.isEmpty := by
  cases r <;> simp
theorem line63 : (sizeLine : Nat) < 2 ^ 63 := by rw [sizeLine_eq]; decide
theorem tru_ok : TruR X (fun x H Q => ∃ k, TruV X.K x H k ∧ Q k H) := by
  intro pins s σ H x v Q I rx h
  obtain ⟨k, e, q⟩ := h
  have hl := line63
  have hs : sizeLine = 16777216 := sizeLine_eq
  cases x with
  | non =>
    cases rx
    have e' : k = false := e
    subst e'
    exact truthy_none ⟨H, I, q⟩
  | bl b =>
    cases rx
    have e' : k = b := e
    subst e'
    exact wpAny_truthy_bool ⟨H, I, q⟩
  | int i =>
    obtain ⟨t, rfl⟩ := rx
    have e' : k = (i != 0) := e
    subst e'
    exact PySem.P.truthy_int ⟨H, I, q⟩
  | str y =>
    obtain ⟨t, rfl⟩ := rx
    obtain ⟨hy, e'⟩ : y.length ≤ sizeLine ∧ k = ((y.length : Int) != 0) := e
    subst e'
    exact PySem.P.truthy_str (by omega) ⟨H, I.tok _, q⟩
  | byt y =>
    obtain ⟨t, rfl⟩ := rx
    obtain ⟨hy, e'⟩ : y.size ≤ sizeLine ∧ k = ((y.size : Int) != 0) := e
    subst e'
    exact PySem.W.truthy_bytes (by omega) ⟨H, I.tok _, q⟩
  | ref p =>
    cases rx
    have e' : (∃ xs, SqL X.K H p xs ∧ k = !xs.isEmpty) ∨ (∃ xs, SqT X.K H p xs ∧ k = !xs.isEmpty) ∨ ∃ kvs, H p = some (.dK kvs) ∧ k = !kvs.isEmpty := e
    rcases e' with ⟨xs, hx, e'⟩ | ⟨xs, hx, e'⟩ | ⟨kvs, hx, e'⟩
    · subst e'
      obtain ⟨its, r, pl, hz⟩ := I.list hx
      have hlen := r.length
      exact wpAny_truthy_list pl.isList (by simp only [List.size_toArray]; omega) ⟨H, I.tok _, by rw [isEmpty_of r]; exact q⟩
    · subst e'
      obtain ⟨its, r, pl, hz⟩ := I.tuple hx
      have hlen := r.length
      exact truthy_tuple pl (by simp only [List.size_toArray]; omega) ⟨H, I.tok _, by rw [isEmpty_of r]; exact q⟩
    · subst e'
      obtain ⟨hz, hS, vs, r, m⟩ : kvs.length ≤ sizeLine ∧ (p == sysModules) = false ∧ ∃ vs, KV kvs vs ∧ s.heap.DictOf (mixKind X.prog X.w) p vs := I.hok p _ hx
      have hlen : kvs.length = vs.length := Paired.length r
      exact wpAny_truthy_dict hS m (by omega) ⟨H, I.tok _, by rw [isEmpty_kv r]; exact q⟩
  | _ => exact (show False from e).elim
/-- any expression whose test is its value's truth (a name, a call, a subscript, a field ..: he by fun _ => rfl) -/
theorem pt_truth (ha : PE X a ta) (he : ∀ whole, isTrue a X.env whole = (do let v ← whole; standAt a.pos; holding [v] (truthy v))) :
    PT X a (fun σ H Q => ta σ H fun x H' => ∃ k, TruV X.K x H' k ∧ Q k H') := by
  intro pins s σ H Q I h
  exact isTrue_plain (thn (ha pins s σ H _ I h) fun v s1 ⟨x, H1, I1, r1, q1⟩ => tru_ok pins s1 σ H1 x v Q I1 r1 q1) (he _)

/-! ### strs and bytes -/
theorem op_add_str : OpR X (binaryOp .Add) (fun x y H Q => ∃ i j, x = .str i ∧ y = .str j ∧ i.length + j.length ≤ sizeLine ∧ Q (.str (i ++ j)) H) := by
  intro pins s σ H x y v u Q I rx ry h
  obtain ⟨i, j, rfl, rfl, hz, q⟩ := h
  obtain ⟨t, rfl⟩ := rx
  obtain ⟨t', rfl⟩ := ry
  exact add_str (fun t' tk => ⟨.str (i ++ j), H, I.tok _, ⟨_, rfl⟩, q⟩) hz
/-! ### scalar builtins, by CallR -/
theorem vals1 {x : V} {us : List Value} (r : Vals [x] us) : ∃ u, us = [u] ∧ RelV x u := by
  cases r with
  | cons r1 r2 => cases r2; exact ⟨_, rfl, r1⟩
theorem vals2 {x y : V} {us : List Value} (r : Vals [x, y] us) : ∃ u w', us = [u, w'] ∧ RelV x u ∧ RelV y w' := by
  cases r with
  | cons r1 r2 =>
    cases r2 with
    | cons r3 r4 => cases r4; exact ⟨_, _, rfl, r1, r3⟩
theorem call_abs : CallR X (.builtin "abs") (fun xs H Q => ∃ i, xs = [.int i] ∧ Q (.int (if i < 0 then -i else i)) H) := by
  intro pins s σ H xs us Q I r h
  obtain ⟨i, rfl, q⟩ := h
  obtain ⟨u, rfl, t, rfl⟩ := vals1 r
  exact call_abs_int fun u tk => ⟨.int (if i < 0 then -i else i), H, I.tok _, ⟨_, rfl⟩, q⟩
theorem call_max2 (hc : X.calm = true) : CallR X (.builtin "max") (fun xs H Q => ∃ i j, xs = [.int i, .int j] ∧ Q (.int (if j > i then j else i)) H) := by
  intro pins s σ H xs us Q I r h
  obtain ⟨i, j, rfl, q⟩ := h
  obtain ⟨u, w', rfl, ⟨t, rfl⟩, ⟨t', rfl⟩⟩ := vals2 r
  refine max_two_ints (I.ok.hd hc) fun h' tk k => ⟨_, H, I.kept k, ?_, q⟩
  by_cases hj : j > i
  · rw [if_pos hj, if_pos hj]; exact ⟨_, rfl⟩
  · rw [if_neg hj, if_neg hj]; exact ⟨_, rfl⟩
theorem call_min2 (hc : X.calm = true) : CallR X (.builtin "min") (fun xs H Q => ∃ i j, xs = [.int i, .int j] ∧ Q (.int (if j < i then j else i)) H) := by
  intro pins s σ H xs us Q I r h
  obtain ⟨i, j, rfl, q⟩ := h
  obtain ⟨u, w', rfl, ⟨t, rfl⟩, ⟨t', rfl⟩⟩ := vals2 r
  refine min_two_ints (I.ok.hd hc) fun h' tk k => ⟨_, H, I.kept k, ?_, q⟩
  by_cases hj : j < i
  · rw [if_pos hj, if_pos hj]; exact ⟨_, rfl⟩
  · rw [if_neg hj, if_neg hj]; exact ⟨_, rfl⟩
theorem call_int1 : CallR X (.type "int") (fun xs H Q => (∃ i, xs = [.int i] ∧ Q (.int i) H) ∨ ∃ k, xs = [.bl k] ∧ Q (.int (if k then 1 else 0)) H) := by
  intro pins s σ H xs us Q I r h
  rcases h with ⟨i, rfl, q⟩ | ⟨k, rfl, q⟩
  · obtain ⟨u, rfl, t, rfl⟩ := vals1 r
    exact call_int_int ⟨.int i, H, I, ⟨_, rfl⟩, q⟩
  · obtain ⟨u, rfl, r1⟩ := vals1 r
    cases r1
    exact call_int_bool ⟨.int (if k then 1 else 0), H, I.tok _, ⟨_, rfl⟩, q⟩
/-- len of a str, a bytes, a list, a tuple -/
def LenV (K : PySem.W.Frag) (x : V) (H : Hp) (n : Nat) : Prop :=
  match x with
  | .str y => y.length ≤ sizeLine ∧ n = y.length
  | .byt y => y.size ≤ sizeLine ∧ n = y.size
  | .ref p => (∃ xs, SqL K H p xs ∧ n = xs.length) ∨ ∃ xs, SqT K H p xs ∧ n = xs.length
  | _ => False
theorem call_len : CallR X (.builtin "len") (fun xs H Q => ∃ x n, xs = [x] ∧ LenV X.K x H n ∧ Q (.int n) H) := by
  intro pins s σ H xs us Q I r h
  obtain ⟨x, n, rfl, e, q⟩ := h
  obtain ⟨u, rfl, rx⟩ := vals1 r
  have hl := line63
  have hs : sizeLine = 16777216 := sizeLine_eq
  cases x with
  | str y =>
    obtain ⟨t, rfl⟩ := rx
    obtain ⟨hy, e'⟩ : y.length ≤ sizeLine ∧ n = y.length := e
    subst e'
    exact len_str (by omega) ⟨.int _, H, I.tok _, ⟨_, rfl⟩, q⟩
  | byt y =>
    obtain ⟨t, rfl⟩ := rx
    obtain ⟨hy, e'⟩ : y.size ≤ sizeLine ∧ n = y.size := e
    subst e'
    exact PySem.W.len_bytes (by omega) ⟨.int _, H, I.tok _, ⟨_, rfl⟩, q⟩
  | ref p =>
    cases rx
    have e' : (∃ xs, SqL X.K H p xs ∧ n = xs.length) ∨ ∃ xs, SqT X.K H p xs ∧ n = xs.length := e
    rcases e' with ⟨xs, hx, e'⟩ | ⟨xs, hx, e'⟩
    · subst e'
      obtain ⟨its, r', pl, hz⟩ := I.list hx
      have hlen := r'.length
      exact Calls.call_len_list pl.isList (by simp only [List.size_toArray]; omega) ⟨.int xs.length, H, I.tok _, ⟨_, by simp only [List.size_toArray]; rw [hlen]⟩, q⟩
    · subst e'
      obtain ⟨its, r', pl, hz⟩ := I.tuple hx
      have hlen := r'.length
      exact len_tuple pl (by simp only [List.size_toArray]; omega) ⟨.int xs.length, H, I.tok _, ⟨_, by simp only [List.size_toArray]; rw [hlen]⟩, q⟩
  | _ => exact (show False from e).elim
end
end L2

namespace L2
open PySem PySem.Spec PyProof.Rows

/-! ### an instance, its attributes a map -/
structure ObjM (h : Heap) (x dx C : Addr) (mA : Str → Option Value) : Prop where
  obj : h.get? x = some (PySem.W.instObj C dx)
  ns : h.Ns1 dx mA
  ne : dx ≠ x

theorem lookIn_ns {h : Heap} {dx : Addr} {mA : Str → Option Value} (n : h.Ns1 dx mA) : ∃ od, h.get? dx = some od ∧ ∀ name, PySem.W.lookIn name od = some (mA name) := by
  obtain ⟨o, es, ep, ho, hd, hk, _, hm⟩ := n
  refine ⟨o, ho, fun name => ?_⟩
  have e := hm name
  unfold nsFind findBy at e
  rw [← Array.find?_toList] at e
  unfold PySem.W.lookIn
  rw [hd]
  dsimp only
  split
  · rename_i y q
    rw [q] at e
    exact congrArg some e
  · rename_i q
    rw [q] at e
    have a : es.toList.any (·.refKey) = false := by
      rw [List.any_eq_false]
      intro y hy
      obtain ⟨z, t, hkey⟩ := hk y (Array.mem_toList_iff.mp hy)
      simp [DictEntry.refKey, hkey]
    have a' : ¬ es.toList.any (·.refKey) = true := by rw [a]; exact Bool.false_ne_true
    rw [if_neg a']
    exact congrArg some e

theorem ObjM.look {h : Heap} {x dx C : Addr} {mA : Str → Option Value} (I : ObjM h x dx C mA) : ∃ od, PySem.W.InstAt h x (PySem.W.instObj C dx) C (some od) ∧ ∀ name, PySem.W.lookIn name od = some (mA name) :=
  let ⟨od, ho, hl⟩ := lookIn_ns I.ns
  ⟨od, ⟨I.obj, rfl, rfl, ho⟩, hl⟩

section
variable {prog : Program} {w : World} {A : Around} {E : Value → Shared → Prop} {s : Shared} {K : PySem.W.Frag} {x dx C f : Addr} {mA : Str → Option Value} {name : Str} {v : Value}

end

/-! ### the attributes as a list of pairs -/
theorem RelO.some_of {v : V} {o : Option Value} (r : RelO (some v) o) : ∃ u, o = some u ∧ RelV v u := by
  cases o with
  | none => exact (show False from r).elim
  | some u => exact ⟨u, rfl, r⟩
section
variable {P : Program} {w : World} {H H' : Hp} {h h' : Heap} {a C dx : Addr} {fs fs' : List (Str × V)}
theorem ins_get (hok : HOk P w H h) (e : H a = some (.ins C dx fs)) : ∃ mA, ObjM h a dx C mA ∧ (∀ f, RelO (fs.lookup f) (mA f)) ∧ PySem.Within mA (fs.map (·.1)) ∧ fs.length ≤ 1000 ∧ H dx = some (.own a) := by
  obtain ⟨d, z, ne, ob, mA, n, r, q⟩ := (show ObjOk P w H h a (.ins C dx fs) from hok a _ e)
  exact ⟨mA, ⟨ob, n, ne⟩, r, q, z, d⟩
end

/-! ### what of the text a class must have -/
structure Cls (K : PySem.W.Frag) (C : Addr) : Prop where
  pg : PySem.W.plainGet K C Str.empty = true
  hd : PySem.W.hasDictIn K C = true
  po : PySem.W.plainOver K C = true
  sa : PySem.W.findIn K (.ref C) "__setattr__" = some (some (.builtin "object.__setattr__"))
theorem Cls.get {K : PySem.W.Frag} {C : Addr} (c : Cls K C) (f : Str) : PySem.W.plainGet K C f = true := c.pg
section
variable {X : Cx} {pins : List (Addr × Obj)} {σ : St} {H : Hp} {s : Shared} {a C dx : Addr} {fs : List (Str × V)} {f : Str} {v : V} {A : Around} {E : Value → Shared → Prop}

end

/-! ### readings and rules -/
section
variable {X : Cx} {o e value : Expr} {f : Str} {pos pos' tpos : Pos} {ta tv : TE}
end

/-! ### isinstance -/
section
variable {X : Cx} {pins : List (Addr × Obj)} {σ : St} {H : Hp} {s : Shared} {A : Around} {E : Value → Shared → Prop} {Q : Value → Shared → Prop} {c : Value} {b : Bool}
/-- the type of a value, as the fragment's deciders take it; for an instance its class -/
inductive TyOf (K : PySem.W.Frag) (H : Hp) : V → Value → Prop where
  | non : TyOf K H .non (.type "NoneType")
  | bl (x : Bool) : TyOf K H (.bl x) (.type "bool")
  | int (i : Int) : TyOf K H (.int i) (.type "int")
  | str (x : Str) : TyOf K H (.str x) (.type "str")
  | flt (x : UInt64) : TyOf K H (.flt x) (.type "float")
  | lst {a : Addr} {xs : List V} (e : H a = some (.lst xs)) : TyOf K H (.ref a) (.type "list")
  | frz {a : Addr} {o : Obj} {xs : List V} (e : H a = some (.frz o (.lst xs))) : TyOf K H (.ref a) (.type "list")
  | tup {a : Addr} {xs : List V} (e : H a = some (.tup xs)) : TyOf K H (.ref a) (.type "tuple")
  | dK {a : Addr} {kvs : List (Key × V)} (e : H a = some (.dK kvs)) : TyOf K H (.ref a) (.type "dict")
  | dT {a : Addr} {kvs : List (List Key × V)} (e : H a = some (.dT kvs)) : TyOf K H (.ref a) (.type "dict")
  | ins {a C dx : Addr} {fs : List (Str × V)} (e : H a = some (.ins C dx fs)) (cl : Cls K C) (ha : PySem.W.findIn K (.ref C) "__class__" = some (some (.builtin "object.__class__")))
      (hn : PySem.W.specialIn K (.builtin "object.__class__") "__get__" = some (some (.builtin "getset_descriptor.__get__"))) (htk : PySem.W.takesIn K (.builtin "object.__class__") = some true)
      (hm : PySem.W.mroIn K C (.type "object") = some true) : TyOf K H (.ref a) (.ref C)
/-- isinstance(x, c) for one class c, a built-in or an own one: kitOne's answer -/
theorem isinst_ok {x : V} {u t : Value} (I : Inv X pins σ H s) (rx : RelV x u) (ty : TyOf X.K H x t) (e : PySem.W.kitOne X.K t c = some b) (h : ∀ tk, Q (.bool b) { s with toks := tk }) :
    wpAny (model X.prog X.w) A (call (.builtin "isinstance") [u, c]) Q E s := by
  cases ty with
  | non => cases (show u = Value.none from rx); exact PySem.W.kia_one PySem.W.kitx_none I.kIn True.intro e (fun z => nomatch z) h
  | bl y => cases (show u = Value.bool y from rx); exact PySem.W.kia_one PySem.W.kitx_bool I.kIn True.intro e (fun z => nomatch z) h
  | int i => obtain ⟨t, q⟩ := (show ∃ t, u = Value.int i t from rx); cases q; exact PySem.W.kia_one PySem.W.kitx_int I.kIn True.intro e (fun z => nomatch z) h
  | str y => obtain ⟨t, q⟩ := (show ∃ t, u = Value.str y t from rx); cases q; exact PySem.W.kia_one PySem.W.kitx_str I.kIn True.intro e (fun z => nomatch z) h
  | flt y => obtain ⟨t, q⟩ := (show ∃ t, u = Value.float y t from rx); cases q; exact PySem.W.kia_one PySem.W.kitx_float I.kIn True.intro e (fun z => nomatch z) h
  | @lst a xs ea =>
    cases (show u = Value.ref a from rx)
    obtain ⟨_, _, n, _, h1⟩ := (show ObjOk X.prog X.w H s.heap a (.lst xs) from I.hok a _ ea)
    exact PySem.W.kia_one PySem.W.kitx_list I.kIn ⟨_, h1, rfl⟩ e (fun z => nomatch z) h
  | @frz a ob xs ea =>
    cases (show u = Value.ref a from rx)
    obtain ⟨_, _, _, n, _, h1⟩ := (show ObjOk X.prog X.w H s.heap a (.frz ob (.lst xs)) from I.hok a _ ea)
    exact PySem.W.kia_one PySem.W.kitx_list I.kIn ⟨_, h1, rfl⟩ e (fun z => nomatch z) h
  | @tup a xs ea =>
    cases (show u = Value.ref a from rx)
    obtain ⟨_, _, _, p⟩ := (show ObjOk X.prog X.w H s.heap a (.tup xs) from I.hok a _ ea)
    obtain ⟨o, h1, h2, _⟩ := p
    exact PySem.W.kia_one PySem.W.kitx_tuple I.kIn ⟨o, h1, h2⟩ e (fun z => nomatch z) h
  | @dK a kvs ea =>
    cases (show u = Value.ref a from rx)
    obtain ⟨_, _, vs, _, p⟩ := (show ObjOk X.prog X.w H s.heap a (.dK kvs) from I.hok a _ ea)
    obtain ⟨o, es, ep, h1, h2, _⟩ := p
    exact PySem.W.kia_one PySem.W.kitx_dict I.kIn ⟨o, h1, h2.1⟩ e (fun z => nomatch z) h
  | @dT a kvs ea =>
    cases (show u = Value.ref a from rx)
    obtain ⟨_, _, xs, _, o, es, ep, h1, h2, _⟩ := (show ObjOk X.prog X.w H s.heap a (.dT kvs) from I.hok a _ ea)
    exact PySem.W.kia_one PySem.W.kitx_dict I.kIn ⟨o, h1, h2.1⟩ e (fun z => nomatch z) h
  | @ins a C dx fs ea cl ha hn htk hm =>
    cases (show u = Value.ref a from rx)
    obtain ⟨mA, O, _⟩ := ins_get I.hok ea
    obtain ⟨od, J, _⟩ := O.look
    exact PySem.W.kia_one (PySem.W.kitx_own (cl.get _) cl.hd ha hn htk hm) I.kIn J e (fun z => nomatch z) h
end
end L2

namespace L2
open PySem PySem.Spec PyProof.Rows

/-! ### room -/
structure Room (k : Nat) (A : Around) : Prop where
  hd : A.handled = none
  dp : A.depth + 3 * k + 5 < recursionLimit
  un : A.units + 16 * k + 200 < cLine
theorem Room.mono {j k : Nat} {A : Around} (r : Room k A) (h : j ≤ k) : Room j A := ⟨r.hd, by have := r.dp; omega, by have := r.un; omega⟩
theorem Room.deeper {k : Nat} {A : Around} (r : Room (k + 1) A) (env : Env) : Room k (A.deeper env) :=
  ⟨r.hd, by have := r.dp; show A.depth + 1 + 3 * k + 5 < _; omega, by have := r.un; show A.units + 3 + 16 * k + 200 < _; omega⟩
theorem Room.depth {k : Nat} {A : Around} (r : Room k A) : A.depth < recursionLimit := by have := r.dp; omega
/-! ### argument lists and displays -/
def tNil : TA := fun _ H Q => Q [] H
def tCons (ta : TE) (tr : TA) : TA := fun σ H Q => ta σ H fun x H1 => tr σ H1 fun xs H2 => Q (x :: xs) H2
section
variable {X : Cx} {e : Expr} {es : List Expr} {te : TE} {t : TA} {pos : Pos}
theorem pa_nil : PA X [] tNil := fun _ _ _ _ H Q I h => Calls.spliced_nil ⟨[], H, I, .nil, h⟩
theorem pa_cons (ha : PE X e te) (hr : PA X es t) (hs : starEach (e :: es) X.env = (false, eval e X.env) :: starEach es X.env := by rfl) : PA X (e :: es) (tCons te t) := by
  intro pos pins s σ H Q I h
  rw [hs]
  show wpAny _ _ (spliced ((false, eval e X.env) :: backTo pos (starEach es X.env))) _ _ s
  refine Calls.spliced_cons (thn (ha pins s σ H _ I h) fun u s1 ⟨x, H1, I1, r1, q1⟩ => ?_)
  exact thn (hr pos pins s1 σ H1 _ I1 q1) fun us s2 ⟨xs, H2, I2, r2, q2⟩ => ⟨x :: xs, H2, I2, .cons r1 r2, q2⟩

/-- a tuple, a list of written items -/
def tTup (t : TA) : TE := fun σ H Q => t σ H fun xs H1 => xs.length ≤ sizeLine ∧ ∀ p, H1 p = none → Q (.ref p) (upd H1 p (.tup xs))
def tLst (t : TA) : TE := fun σ H Q => t σ H fun xs H1 => xs.length ≤ sizeLine ∧ ∀ p, H1 p = none → Q (.ref p) (upd H1 p (.lst xs))
theorem pe_tup {x1} (h : PA X es t) : PE X (.Tuple es x1 pos) (tTup t) := by
  intro pins s σ H Q I hq
  refine wpAny_Tuple_spliced (thn (h pos pins s σ H _ I hq) fun us s1 ⟨xs, H1, I1, r, z, q⟩ => ⟨by rw [← r.length]; exact z, ?_⟩)
  have hf : H1 s1.heap.objs.size = none := I1.hok.fresh (Nat.le_refl _)
  refine ⟨.ref s1.heap.objs.size, upd H1 s1.heap.objs.size (.tup xs), I1.laid (t' := s1.toks) (fun b u e => Heap.get?_push_of_some _ e) (Nat.le_refl _) ?_, rfl, q _ hf⟩
  exact ⟨z, us, r, ⟨_, Heap.get?_push_size _ rfl, rfl, _, rfl⟩⟩
theorem pe_lst (h : PA X es t) : PE X (.List es pos) (tLst t) := by
  intro pins s σ H Q I hq
  refine wpAny_List_spliced (thn (h pos pins s σ H _ I hq) fun us s1 ⟨xs, H1, I1, r, z, q⟩ => ⟨by rw [← r.length]; exact z, ?_⟩)
  have hf : H1 s1.heap.objs.size = none := I1.hok.fresh (Nat.le_refl _)
  refine ⟨.ref s1.heap.objs.size, upd H1 s1.heap.objs.size (.lst xs), I1.laid (t' := s1.toks) (fun b u e => Heap.get?_push_of_some _ e) (Nat.le_refl _) ?_, rfl, q _ hf⟩
  exact ⟨z, us, 0, r, Heap.get?_push_size _ rfl⟩
end

/-! ### what a def promises -/
/-- a def's promise: the bound arguments in the parameters' order, the heap, the wanted end, the wanted exception -/
abbrev Sp := List V → Hp → VK → XK → Prop
/-- how an exception lies behind a call (file 08 gives it): the callers' frames, abstract heap and state ahead of the call, the wish, the exception, the state -/
abbrev CXT := List Env → Hp → Shared → XK → Value → Shared → Prop

/-- the state at a call -/
structure Env0 (P : Program) (w : World) (K : PySem.W.Frag) (mg : Str → Option Value) (base : Heap) (A : Around) (outer : List Env) (s : Shared) (H : Hp) : Prop where
  frames : A.frames = some outer
  mod : Mod K mg base
  bs : ∀ b o, base.get? b = some o → s.heap.get? b = some o ∧ H b = none
  bsz : base.objs.size ≤ s.heap.objs.size
  funs : s.heap.FunFrames base outer
  frf : ∀ b ∈ frs outer, H b = none
  hok : HOk P w H s.heap
  bare : AllBare s.gens
/-- a call's end -/
def CE (outer : List Env) (P : Program) (w : World) (H : Hp) (s : Shared) (Q : VK) (u : Value) (s' : Shared) : Prop :=
  ∃ v H', s'.os = s.os ∧ AllBare s'.gens ∧ Un (frs outer) [] H H' s.heap s'.heap ∧ HOk P w H' s'.heap ∧ RelV v u ∧ Q v H'
def CR (CX : CXT) (outer : List Env) (P : Program) (w : World) (H : Hp) (s : Shared) (Q : VK) (E : XK) (r : Result) (s' : Shared) : Prop :=
  match r with
  | .ok (.ret u) => CE outer P w H s Q u s'
  | .ok _ => False
  | .error e => CX outer H s E e s'
structure FnOk (P : Program) (w : World) (K : PySem.W.Frag) (mg : Str → Option Value) (base : Heap) (CX : CXT) (k : Nat) (f : Addr) (fd : FuncData) (ps : List Str) (sp : Sp) : Prop where
  len : ∀ vs H Q E, sp vs H Q E → vs.length = ps.length
  run : ∀ (A : Around) (outer : List Env) (s : Shared) (H : Hp) (args : Args) (us : List Value) (vs : List V) (Q : VK) (E : XK), Room k A → Env0 P w K mg base A outer s H → BindsTo s fd args (ps.zip us) → Vals vs us → sp vs H Q E →
    codeAny (model P w) A (.call (.ref f) args) (CR CX outer P w H s Q E) s
theorem FnOk.mono {P : Program} {w : World} {K : PySem.W.Frag} {mg : Str → Option Value} {base : Heap} {CX : CXT} {j k : Nat} {f : Addr} {fd : FuncData} {ps : List Str} {sp : Sp} (F : FnOk P w K mg base CX j f fd ps sp) (h : j ≤ k) :
    FnOk P w K mg base CX k f fd ps sp := ⟨F.len, fun A outer s H args us vs Q E hr => F.run A outer s H args us vs Q E (hr.mono h)⟩
section
variable {X : Cx} {pins : List (Addr × Obj)} {σ : St} {H : Hp} {s s' : Shared}
/-- from a body: what a callee wants -/
theorem Inv.env0 (I : Inv X pins σ H s) : Env0 X.prog X.w X.K X.mg X.base X.A X.stack s H :=
  ⟨I.ok.frames, I.ok.mod, I.bs, Nat.le_trans I.ok.bsz I.sz, I.stack, I.stkFree, I.hok, I.bare⟩
/-- behind a call -/
theorem Inv.after {Q : VK} {u : Value} (I : Inv X pins σ H s) (h : CE X.stack X.prog X.w H s Q u s') : EP X pins σ Q u s' := by
  obtain ⟨v, H', os, bare, un, hok, r, q⟩ := h
  obtain ⟨hh, g, d, t, os'⟩ := s'
  obtain rfl : os' = s.os := os
  exact ⟨v, H', I.call (h' := hh) (g' := g) (d' := d) (t' := t) (ch := []) un hok bare (fun b z => absurd z (by simp)), r, q⟩
end

/-! ### calls -/
/-- f(..): the written arguments, then the defaults dvs; E: what is wanted of an exception -/
def tCall (sp : Sp) (dvs : List V) (E : XK) (t : TA) : TE := fun σ H Q => t σ H fun vs H1 => sp (vs ++ dvs) H1 Q E
/-- how the parameters are bound: us the positional arguments, kw the keywords' values by name, ds the defaults that fill up -/
def Binds (K : PySem.W.Frag) (fd : FuncData) (ps : List Str) (ds : List Value) : Prop :=
  ∀ (s : Shared) (us : List Value), K.In s.heap → (us ++ ds).length = ps.length → BindsTo s fd ⟨us, []⟩ (ps.zip (us ++ ds))
/-- every parameter is given -/
theorem Binds.all {K : PySem.W.Frag} {fd : FuncData} {ps : List Str} (h : ∀ us : List Value, us.length = ps.length → bindArgs fd ⟨us, []⟩ = pure (ps.zip us)) : Binds K fd ps [] := fun s us _ hl => by
  rw [List.append_nil] at hl ⊢
  exact .of_eq (h us hl)

/-- an exception of a callee reaches what this body wants of exceptions -/
def Passes (CX : CXT) (X : Cx) (E : XK) : Prop := ∀ (pins : List (Addr × Obj)) (σ : St) (H : Hp) (s : Shared) (e : Value) (s' : Shared), Inv X pins σ H s → CX X.stack H s E e s' → X.xe e s'

section
variable {X : Cx} {CX : CXT} {k : Nat} {f C : Addr} {fd : FuncData} {ps : List Str} {sp : Sp} {dvs : List V} {ds : List Value} {E : XK} {x m : Str} {p pos apos : Pos} {e o : Expr} {es : List Expr} {ta : TE} {t : TA}

/-- the callee runs -/
theorem run_fn {pins : List (Addr × Obj)} {σ : St} {H : Hp} {s : Shared} {Q : VK} {us : List Value} {vs : List V} (F : FnOk X.prog X.w X.K X.mg X.base CX k f fd ps sp) (hr : Room k X.A) (hb : Binds X.K fd ps ds) (hd : Vals dvs ds) (hx : Passes CX X E)
    (I : Inv X pins σ H s) (r : Vals vs us) (h : sp (vs ++ dvs) H Q E) : wpAny (model X.prog X.w) X.A (call (.ref f) us) (EP X pins σ Q) X.xe s := by
  have r2 : Vals (vs ++ dvs) (us ++ ds) := r.append hd
  have hl : (us ++ ds).length = ps.length := by rw [← r2.length]; exact F.len _ _ _ _ h
  refine wpAny_call (codeAny_mono (F.run X.A X.stack s H ⟨us, []⟩ (us ++ ds) (vs ++ dvs) Q E hr I.env0 (hb s us I.kIn hl) r2 h) fun r s' hq => ?_)
  cases r with
  | error e => exact hx pins σ H s e s' I hq
  | ok fl =>
    cases fl with
    | ret u => exact I.after hq
    | next => exact False.elim hq
    | brk => exact False.elim hq
    | cont => exact False.elim hq

theorem pe_call (F : FnOk X.prog X.w X.K X.mg X.base CX k f fd ps sp) (hr : Room k X.A) (hg : Gl X x) (hm : X.mg x = some (.ref f)) (hk : PySem.W.keepIn X.K (.ref f) = true) (hb : Binds X.K fd ps ds) (hd : Vals dvs ds) (hx : Passes CX X E)
    (ha : PA X (e :: es) t) (hdb : (x == ("__debug__" : Str)) = false := by decide) (he : starEach (e :: es) X.env = (false, eval e X.env) :: starEach es X.env := by rfl) (hpl : (backTo pos (starEach es X.env)).any (·.1) = false := by rfl) :
    PE X (.Call (.Name x p) (e :: es) [] pos) (tCall sp dvs E t) := by
  intro pins s σ H Q I h
  refine wpAny_Call_Name_kw (ld_glob I hg hm ?_ hdb)
  refine PySem.W.callWith_K (h₀ := X.base) I.ok.mod.kin hk (thn (ha pos pins s σ H _ I h) fun us s1 ⟨vs, H1, I1, r, q⟩ => ⟨I1.kIn, ?_⟩) he hpl
  exact run_fn F hr hb hd hx I1 r q
end

/-! ### keywords -/
section
variable {X : Cx} {CX : CXT} {k : Nat} {f C : Addr} {fd : FuncData} {ps ks : List Str} {sp : Sp} {E : XK} {x m : Str} {p pos apos kpos : Pos} {e o : Expr} {es : List Expr} {kws : List Keyword} {te ta : TE} {t tk : TA} {nm : Option Str}
variable {g : List Value → List Value → List Value} {gV : List V → List V → List V}
end

/-! ### a def's body keeps its promise -/
/-- names: the parameters first -/
structure FnScope (N P : List Str) (sc : Scope) : Prop where
  kind : sc.kind = .function
  co : sc.isCoroutine = false
  gen : sc.isGenerator = false
  nd : N.Nodup
  pre : N.take P.length = P
  par : ∀ x ∈ P, sc.names.lookup x = some .local ∨ sc.names.lookup x = some .cell
  nofree : ∀ y ∈ sc.names, y.2 ≠ .free

theorem bindL_out {kindOf : Str → Option NameKind} {x : Str} : ∀ {binds : List (Str × Value)} {m : Str → Option Value}, (∀ v, (x, v) ∉ binds) → bindL kindOf binds m x = m x
  | [], _, _ => rfl
  | (n, v) :: r, m, h => by
    unfold bindL
    rw [bindL_out fun w hw => h w (List.mem_cons_of_mem _ hw)]
    split
    · have : x ≠ n := by rintro rfl; exact h v List.mem_cons_self
      simp [this]
    · rfl
theorem bindC_out {kindOf : Str → Option NameKind} {x : Str} : ∀ {binds : List (Str × Value)} {m : Str → Option Value}, (∀ v, (x, v) ∉ binds) → bindC kindOf binds m x = m x
  | [], _, _ => rfl
  | (n, v) :: r, m, h => by
    unfold bindC
    rw [bindC_out fun w hw => h w (List.mem_cons_of_mem _ hw)]
    split
    · rfl
    · have : x ≠ n := by rintro rfl; exact h v List.mem_cons_self
      simp [this]
theorem bindL_get {kindOf : Str → Option NameKind} {x : Str} {v : Value} : ∀ {P : List Str} {vs : List Value} {i : Nat} {m : Str → Option Value}, P.Nodup → P[i]? = some x → vs[i]? = some v → kindOf x = some .local →
    bindL kindOf (P.zip vs) m x = some v
  | [], _, _, _, _, h, _, _ => by simp at h
  | _ :: _, [], _, _, _, _, h, _ => by simp at h
  | p :: P, w :: vs, 0, m, nd, h1, h2, hk => by
    simp at h1 h2; subst h1; subst h2
    show bindL kindOf ((p, w) :: P.zip vs) m p = _
    unfold bindL
    rw [bindL_out fun v hv => (List.nodup_cons.mp nd).1 (List.of_mem_zip hv).1, if_pos hk]
    simp
  | p :: P, w :: vs, i + 1, m, nd, h1, h2, hk => by
    show bindL kindOf ((p, w) :: P.zip vs) m x = _
    unfold bindL
    exact bindL_get (i := i) (List.nodup_cons.mp nd).2 (by simpa using h1) (by simpa using h2) hk
theorem bindC_get {kindOf : Str → Option NameKind} {x : Str} {v : Value} : ∀ {P : List Str} {vs : List Value} {i : Nat} {m : Str → Option Value}, P.Nodup → P[i]? = some x → vs[i]? = some v → kindOf x ≠ some .local →
    bindC kindOf (P.zip vs) m x = some v
  | [], _, _, _, _, h, _, _ => by simp at h
  | _ :: _, [], _, _, _, _, h, _ => by simp at h
  | p :: P, w :: vs, 0, m, nd, h1, h2, hk => by
    simp at h1 h2; subst h1; subst h2
    show bindC kindOf ((p, w) :: P.zip vs) m p = _
    unfold bindC
    rw [bindC_out fun v hv => (List.nodup_cons.mp nd).1 (List.of_mem_zip hv).1, if_neg hk]
    simp
  | p :: P, w :: vs, i + 1, m, nd, h1, h2, hk => by
    show bindC kindOf ((p, w) :: P.zip vs) m x = _
    unfold bindC
    exact bindC_get (i := i) (List.nodup_cons.mp nd).2 (by simpa using h1) (by simpa using h2) hk

/-- the names' values at the entry -/
def start (N : List Str) (vs : List V) : St := vs.map some ++ List.replicate (N.length - vs.length) none

/-- the context of a def's body, at its entry; an exception leaves the frame, then lies as CX says -/
def cxOf (CX : CXT) (P : Program) (w : World) (K : PySem.W.Frag) (mg : Str → Option Value) (base : Heap) (N : List Str) (qual : Str) (scope : Scope) (f : Addr) (cd : Value) (A : Around) (outer : List Env) (s : Shared) (H : Hp) (E : XK) : Cx where
  prog := P
  w := w
  K := K
  mg := mg
  base := base
  A := A.deeper (envOfC qual scope s.heap.objs.size f cd)
  N := N
  s₀ := s
  H₀ := H
  env := envOfC qual scope s.heap.objs.size f cd
  outer := outer
  stack := envOfC qual scope s.heap.objs.size f cd :: outer
  ex := []
  calm := true
  fn := fun _ => true
  pn := []
  xe := fun e s' => wpAny (model P w) (A.deeper (envOfC qual scope s.heap.objs.size f cd)) (leaving (envOfC qual scope s.heap.objs.size f cd) e) (fun _ s'' => CX outer H s E e s'') (fun e' s'' => CX outer H s E e' s'') s'

theorem cell_has {sc : Scope} {n : Nat} {x : Str} (h : sc.names.lookup x = some .cell) : ∃ c, (cellsFrom n sc.names []).lookup x = some c := by
  have q := PySem.W.cellsFrom_some sc.names n [] (.inl h)
  exact Option.isSome_iff_exists.mp q

theorem inv_start {CX : CXT} {P : Program} {w : World} {K : PySem.W.Frag} {mg : Str → Option Value} {base : Heap} {N ps : List Str} {qual : Str} {scope : Scope} {f : Addr} {cd : Value} {A : Around} {outer : List Env} {s s1 : Shared} {H : Hp} {E : XK} {us : List Value} {vs : List V}
    (S : FnScope N ps scope) (hd : A.handled = none) (e0 : Env0 P w K mg base A outer s H) (hl : vs.length = ps.length) (r : Vals vs us)
    (x : InCallC s s.heap.objs.size (bindL (envOfC qual scope s.heap.objs.size f cd).kindOf (ps.zip us) fun _ => none) (cellsFrom (s.heap.objs.size + 1) scope.names []) (bindC (envOfC qual scope s.heap.objs.size f cd).kindOf (ps.zip us) fun _ => none) s1) :
    Inv (cxOf CX P w K mg base N qual scope f cd A outer s H E) [] (start N vs) H s1 := by
  have hpl : ps.length ≤ N.length := by have := congrArg List.length S.pre; rw [List.length_take] at this; omega
  obtain ⟨h1, tk, rfl, hk⟩ := x.done
  have noA : ∀ b : Addr, b ∉ (cxOf CX P w K mg base N qual scope f cd A outer s H E).ex := fun b z => absurd (show b ∈ ([] : List Addr) from z) (by simp)
  refine ⟨⟨e0.mod, S.kind, rfl, rfl, Nat.le_refl _, fun y z c h1 h2 => ?_, fun y hy => ?_, fun y c _ h => ?_, fun _ => hd, Around.frames_deeper e0.frames, .inr ⟨rfl, rfl⟩, fun b z => absurd z (noA b), e0.bs, e0.bsz, fun b _ _ => noA b, fun b z => absurd z (noA b), e0.funs, e0.frf⟩,
    rfl, e0.bare, Un.kept hk, ⟨_, x.toInCall.ns, fun i y v h1 h2 h3 => ?_⟩, fun y c h => ⟨_, x.cell y c h⟩, e0.hok.fresh (Nat.le_refl _), fun y c h => ?_, fun p hp => absurd (show p ∈ ([] : List (Addr × Obj)) from hp) (by simp), e0.hok.kept hk, ?_⟩
  · exact name_of_addr x.apart (PySem.mem_of_lookup h1) (PySem.mem_of_lookup h2)
  · have hy : scope.names.lookup y = some .cell ∨ scope.names.lookup y = some .free := hy
    rcases hy with hy | hy
    · exact cell_has hy
    · exact absurd rfl (S.nofree _ (PySem.mem_of_lookup hy))
  · exact Nat.le_of_lt (x.above y c (PySem.mem_of_lookup h))
  · have hi : i < vs.length := by
      unfold start at h2
      by_cases hi : i < vs.length
      · exact hi
      · rw [List.getElem?_append_right (by simpa using hi)] at h2
        rw [List.getElem?_replicate] at h2
        split at h2 <;> cases h2
    have ha : vs[i]? = some v := by
      unfold start at h2
      rw [List.getElem?_append_left (by simpa using hi), List.getElem?_map] at h2
      cases e : vs[i]? with
      | none => rw [e] at h2; cases h2
      | some a => rw [e] at h2; cases h2; rfl
    obtain ⟨u, hu, rv⟩ := r.get ha
    have hp : ps[i]? = some y := by
      rw [← S.pre, List.getElem?_take_of_lt (by omega)]; exact h1
    have ndP : ps.Nodup := by rw [← S.pre]; exact S.nd.sublist (List.take_sublist _ _)
    refine ⟨u, rv, ?_⟩
    rcases S.par y (List.mem_of_getElem? hp) with k | k
    · exact .inl ⟨k, bindL_get ndP hp hu k⟩
    · obtain ⟨c, e⟩ := cell_has (n := s.heap.objs.size + 1) k
      refine .inr ⟨.inl k, c, e, ?_⟩
      have q := x.cell y c e
      rw [bindC_get ndP hp hu (by show scope.names.lookup y ≠ _; rw [k]; decide)] at q
      exact q
  · exact e0.hok.fresh (Nat.le_of_lt (x.above y c (PySem.mem_of_lookup h)))
  · unfold start
    show _ = N.length
    rw [List.length_append, List.length_map, List.length_replicate]
    omega

/-- THE RULE: a def (or a method) of the text, by its body. The body's reading t is chosen for each entry; it is run at the parameters' values -/
theorem fn_of {CX : CXT} {P : Program} {w : World} {K : PySem.W.Frag} {mg : Str → Option Value} {base : Heap} {k : Nat} {f : Addr} {name qual : Str} {params : Arguments} {body : List Stmt} {scope : Scope} {dV kV doc pm cdv ct oc : Value} {an od : Option Addr}
    {osl : Array (Option Value)} {N ps : List Str} {sp : Sp} (lk : K.lookup f = some ⟨oc, od, .func (PySem.W.fnOf name qual params body scope dV kV doc pm an cdv ct), osl⟩) (hcd : PySem.W.codeIn K cdv qual = true) (S : FnScope N ps scope)
    (len : ∀ vs H Q E, sp vs H Q E → vs.length = ps.length)
    (hbody : ∀ (A : Around) (outer : List Env) (s : Shared) (H : Hp) (vs : List V) (Q : VK) (E : XK), Room k (A.deeper (envOfC qual scope s.heap.objs.size f cdv)) → sp vs H Q E →
      ∃ t, PSs (cxOf CX P w K mg base N qual scope f cdv A outer s H E) body t ∧ t { nx := fun _ H' => Q .non H', rt := Q } (start N vs) H) :
    FnOk P w K mg base CX (k + 1) f (PySem.W.fnOf name qual params body scope dV kV doc pm an cdv ct) ps sp := by
  refine ⟨len, fun A outer s H args us vs Q E hr e0 hb r hsp => ?_⟩
  have hl := len _ _ _ _ hsp
  have KX : K.In s.heap := e0.mod.kin.keeps fun b o e => (e0.bs b o e).1
  have lim : s.heap.NoLimit := e0.mod.nolimit.keeps fun b o e => (e0.bs b o e).1
  have hkind : ∀ y ∈ ps.zip us, scope.names.lookup y.1 = some .local ∨ (scope.names.lookup y.1 = some .cell ∧ ((cellsFrom (s.heap.objs.size + 1) scope.names []).lookup y.1).isSome = true) := fun ⟨n, v⟩ hy => by
    rcases S.par n (List.of_mem_zip hy).1 with q | q
    · exact .inl q
    · exact .inr ⟨q, PySem.W.cellsFrom_some _ _ _ (.inl q)⟩
  refine codeAny_call_function hr.depth (KX _ _ lk) rfl S.co S.gen rfl (PySem.W.codeRec_of KX hcd) (hb _ _ _ _ ?_)
  refine wpAny_newFunctionEnv_cells S.kind hkind fun env he s1 x => ?_
  subst he
  refine ⟨lim.keeps x.toInCall.keep, codeAny_func ?_⟩
  obtain ⟨t, ht, hq⟩ := hbody A outer s H vs Q E (hr.deeper _) hsp
  have I : Inv (cxOf CX P w K mg base N qual scope f cdv A outer s H E) [] (start N vs) H s1 := inv_start S hr.hd e0 hl r x
  refine wpAny_mono (ht [] s1 (start N vs) H _ I hq) (fun fl s' hs => ?_) fun e s' hs => hs
  have fin : ∀ {σ' : St} {H' : Hp} {v : V} {u : Value}, Inv (cxOf CX P w K mg base N qual scope f cdv A outer s H E) [] σ' H' s' → RelV v u → Q v H' → CE outer P w H s Q u s' :=
    fun {σ' H' v u} J rv q => ⟨v, H', J.os, J.bare, J.base, J.hok, rv, q⟩
  cases fl with
  | ret u =>
    obtain ⟨v, σ', H', J, rv, q⟩ := hs
    exact fin J rv q
  | next =>
    obtain ⟨σ', H', J, q⟩ := hs
    exact fin (v := V.non) (u := Value.none) J rfl q
  | brk =>
    obtain ⟨_, _, _, q⟩ := hs
    exact False.elim q
  | cont =>
    obtain ⟨_, _, _, q⟩ := hs
    exact False.elim q
end L2

namespace L2
open PySem PySem.Spec PyProof.Rows
section
variable {X : Cx} {x : Str} {p pos : Pos} {e : Expr} {es : List Expr} {t : TA} {id T : String} {r : List V → Hp → VK → Prop}

def tCB (r : List V → Hp → VK → Prop) (t : TA) : TE := fun σ H Q => t σ H fun vs H1 => r vs H1 Q
/-- f(e, ..), f a built-in function -/
theorem pe_callB (hc : CallR X (.builtin id) r) (hg : Gl X x) (hm : X.mg x = none) (hv : bootBuiltins x = some (.builtin id)) (ha : PA X (e :: es) t) (hn : x ≠ "__name__" := by decide) (hdb : (x == ("__debug__" : Str)) = false := by decide)
    (he : starEach (e :: es) X.env = (false, eval e X.env) :: starEach es X.env := by rfl) (hpl : (backTo pos (starEach es X.env)).any (·.1) = false := by rfl) : PE X (.Call (.Name x p) (e :: es) [] pos) (tCB r t) := by
  intro pins s σ H Q I h
  refine wpAny_Call_Name_kw (ld_blt I hg hm hv ?_ hn hdb)
  exact PyProof.Rows.callWith_builtin1 (thn (ha pos pins s σ H _ I h) fun us s1 ⟨vs, H1, I1, r1, q1⟩ => hc pins s1 σ H1 vs us Q I1 r1 q1) he hpl
/-- T(e, ..), T a built-in type -/
theorem pe_callTy (hc : CallR X (.type T) r) (hg : Gl X x) (hm : X.mg x = none) (hv : bootBuiltins x = some (.type T)) (ha : PA X (e :: es) t) (hn : x ≠ "__name__" := by decide) (hdb : (x == ("__debug__" : Str)) = false := by decide)
    (he : starEach (e :: es) X.env = (false, eval e X.env) :: starEach es X.env := by rfl) (hpl : (backTo pos (starEach es X.env)).any (·.1) = false := by rfl) : PE X (.Call (.Name x p) (e :: es) [] pos) (tCB r t) := by
  intro pins s σ H Q I h
  refine wpAny_Call_Name_kw (ld_blt I hg hm hv ?_ hn hdb)
  exact PyProof.Rows.callWith_type1 (thn (ha pos pins s σ H _ I h) fun us s1 ⟨vs, H1, I1, r1, q1⟩ => hc pins s1 σ H1 vs us Q I1 r1 q1) he hpl
end
end L2

namespace HT
open PySem PyProof.Rows

section
open PySem.SeqAt
open PySem.AutoSeq1 (wpAny_loadPart')
open PySem.MeetsSeq PySem.MeetsSeq2 PySem.MeetsSeq3

end

section
variable {prog : Program} {w : World} {A : Around} {E : Value → Shared → Prop} {s : Shared}

/-- t + u, t not empty -/
theorem cat_tup {t b : Addr} {vs ws : List Value} {Q : Value → Shared → Prop} (ht : IsTup s.heap t vs.toArray) (hb : IsTup s.heap b ws.toArray) (hv : vs ≠ [])
    (h1 : ws = [] → Q (.ref t) s) (h2 : ws ≠ [] → Q (.ref s.heap.objs.size) { s with heap := s.heap.push { cls := .type "tuple", data := .seq (vs ++ ws).toArray } })
    (hsz : vs.length + ws.length ≤ sizeLine) : wpAny (model prog w) A (binaryOp .Add (.ref t) (.ref b)) Q E s := by
  obtain ⟨⟨cls, dd, data, sl⟩, ho, hc, n, hd⟩ := id ht
  obtain ⟨⟨cls2, dd2, data2, sl2⟩, ho2, hc2, n2, hd2⟩ := id hb
  simp only at hc hd hc2 hd2
  subst hc hd hc2 hd2
  have e : vs.toArray ++ ws.toArray = (vs ++ ws).toArray := by simp
  by_cases hw : ws = []
  · exact concat_meets ⟨_, ho, rfl⟩ ⟨_, ho2, rfl⟩ noFill_tuple_add seq_tuple_add PySem.F.slot_tuple_add PySem.F.entry_tuple_add (PySem.F.args_tuple_add_2 _ _)
      (tuple_addW1 t b vs.toArray ws.toArray n n2 dd dd2 sl sl2 (by simpa using hv) (by simp [hw])) ⟨ho, ho2, h1 hw⟩
  · refine concat_meets ⟨_, ho, rfl⟩ ⟨_, ho2, rfl⟩ noFill_tuple_add seq_tuple_add PySem.F.slot_tuple_add PySem.F.entry_tuple_add (PySem.F.args_tuple_add_2 _ _)
      (tuple_addW2 t b vs.toArray ws.toArray n n2 dd dd2 sl sl2 (by simpa using hv) (by simpa using hw) (by rw [List.size_toArray, List.size_toArray]; exact hsz)) ⟨ho, ho2, ?_⟩
    rw [e]
    exact h2 hw

/-! ### t[a:b], not the whole -/
/-- a slice's bound as a place among n (d where it is left out) -/
def sIx (n d : Nat) : Option Int → Nat
  | none => d
  | some v => if v < 0 then (v + (n : Int)).toNat else min v.toNat n
theorem sIx_none (n d : Nat) : sIx n d none = d := rfl
theorem sIx_nat (n d k : Nat) : sIx n d (some (k : Int)) = min k n := by
  show (if (k : Int) < 0 then ((k : Int) + (n : Int)).toNat else min (k : Int).toNat n) = min k n
  rw [if_neg (by omega), Int.toNat_natCast]
theorem sIx_le (n d : Nat) (hd : d ≤ n) (o : Option Int) : sIx n d o ≤ n := by
  cases o with
  | none => exact hd
  | some v =>
    show (if v < 0 then (v + (n : Int)).toNat else min v.toNat n) ≤ n
    by_cases hv : v < 0
    · rw [if_pos hv]; omega
    · rw [if_neg hv]; exact Nat.min_le_right _ _
theorem clip_eq (v : Int) (n d : Nat) : (if v < 0 then max (v + (n : Int)) 0 else min v (n : Int)) = ((sIx n d (some v) : Nat) : Int) := by
  show (if v < 0 then max (v + (n : Int)) 0 else min v (n : Int)) = (((if v < 0 then (v + (n : Int)).toNat else min v.toNat n) : Nat) : Int)
  by_cases hv : v < 0
  · simp only [if_pos hv]; omega
  · simp only [if_neg hv]; omega
theorem adjust_gen (lo hi : Option Int) (n : Nat) : Builtin.Slice.sliceAdjust lo hi 1 (n : Int) = (((sIx n 0 lo : Nat) : Int), ((sIx n n hi : Nat) : Int)) := by
  have h1 : ¬ ((1 : Int) < 0) := by omega
  unfold Builtin.Slice.sliceAdjust
  simp only [h1, if_false]
  refine Prod.ext ?_ ?_
  · cases lo with
    | none => rfl
    | some v => exact clip_eq v n 0
  · cases hi with
    | none => rfl
    | some v => exact clip_eq v n n
theorem places_gen (i j : Nat) : Builtin.Slice.slicePlaces (i : Int) (j : Int) 1 = j - i := by
  unfold Builtin.Slice.slicePlaces
  have h1 : (1 : Int) > 0 := by omega
  simp only [h1, if_true, Int.ediv_one]
  split <;> omega
theorem slicePart_ {v : Value} {o : Option Int} {Q : Option Int → Shared → Prop} (p : IsPart v o) (h : Q o s) : wpAny (model prog w) A (Builtin.Slice.slicePartIndex v) Q E s := by
  cases p with
  | none => exact slicePart_none h
  | int i t => exact slicePart_int h
theorem sliceApplied_gen {sl : Addr} {vl vu : Value} {lo hi : Option Int} {n : Nat} {Q : Int × Int × Nat → Shared → Prop} (hs : s.heap.IsSliceOf sl vl vu .none) (pl : IsPart vl lo) (pu : IsPart vu hi)
    (h : Q (((sIx n 0 lo : Nat) : Int), 1, sIx n n hi - sIx n 0 lo) s) : wpAny (model prog w) A (Builtin.Slice.sliceApplied (.ref sl) (pure (n : Int))) Q E s := by
  obtain ⟨os, hos, hcs, hds⟩ := id hs
  unfold Builtin.Slice.sliceApplied Builtin.Slice.sliceFields
  refine wpAny_bind (wpAny_bind (wpAny_field hos hds (x := vl) rfl (wpAny_bind (wpAny_field hos hds (x := vu) rfl (wpAny_bind (wpAny_field hos hds (x := .none) rfl (wpAny_pure ?_)))))))
  refine wpAny_bind (slicePart_none ?_)
  show wpAny _ _ (if ((1 : Int) == 0) = true then _ else _) _ _ s
  rw [if_neg (by decide)]
  refine wpAny_bind (slicePart_ pl (wpAny_bind (slicePart_ pu (wpAny_bind (wpAny_pure ?_)))))
  show wpAny _ _ (match Builtin.Slice.sliceAdjust lo hi 1 (n : Int) with | (lo, hi) => pure (lo, (1 : Int), Builtin.Slice.slicePlaces lo hi 1)) _ _ s
  rw [adjust_gen lo hi n]
  show wpAny _ _ (pure (((sIx n 0 lo : Nat) : Int), (1 : Int), Builtin.Slice.slicePlaces ((sIx n 0 lo : Nat) : Int) ((sIx n n hi : Nat) : Int) 1)) _ _ s
  rw [places_gen]
  exact wpAny_pure h
theorem pick_gen (xs : Array Value) (i k : Nat) : ((List.range k).filterMap fun (m : Nat) => xs[((i : Int) + (m : Int) * 1).toNat]?).toArray = ((xs.toList.drop i).take k).toArray := by
  have e : (fun (m : Nat) => xs[((i : Int) + (m : Int) * 1).toNat]?) = fun m => xs[i + m]? := by
    funext m
    have : ((i : Int) + (m : Int) * 1).toNat = i + m := by omega
    rw [this]
  rw [e]
  have := pick_run xs i k
  rw [List.filterMap_map] at this
  have e2 : ((fun x => xs[x]?) ∘ fun x => i + x) = fun m => xs[i + m]? := rfl
  rw [e2] at this
  rw [this]

theorem getItem_tuple_cut {t sl : Addr} {items : Array Value} {vl vu : Value} {lo hi : Option Int} {Q : Value → Shared → Prop} (ht : IsTup s.heap t items) (hs : s.heap.IsSliceOf sl vl vu .none) (pl : IsPart vl lo) (pu : IsPart vu hi)
    (hw : ¬ (sIx items.size 0 lo = 0 ∧ sIx items.size items.size hi = items.size))
    (h : Q (.ref s.heap.objs.size) { s with heap := s.heap.push { cls := .type "tuple", data := .seq ((items.toList.drop (sIx items.size 0 lo)).take (sIx items.size items.size hi - sIx items.size 0 lo)).toArray } })
    (hsz : items.size ≤ sizeLine) : wpAny (model prog w) A (getItem (.ref t) (.ref sl)) Q E s := by
  have htake : sizeOk (.seq ((items.toList.drop (sIx items.size 0 lo)).take (sIx items.size items.size hi - sIx items.size 0 lo)).toArray) := by
    show ((items.toList.drop (sIx items.size 0 lo)).take (sIx items.size items.size hi - sIx items.size 0 lo)).toArray.size ≤ sizeLine
    rw [List.size_toArray, List.length_take, List.length_drop, Array.length_toList]
    omega
  have hj : sIx items.size items.size hi ≤ items.size := sIx_le _ _ (Nat.le_refl _) hi
  obtain ⟨os, hos, hcs, hds⟩ := id hs
  have hTs : s.TypeIs (.ref sl) "slice" := ⟨os, hos, hcs⟩
  unfold getItem
  try with_reducible refine wpAny_holding ?_
  first | refine wpAny_bind (wpAny_pure ?_) | skip
  refine wpAny_bind (wpAny_sequenceKey ht.typeIs (by decide) ?_)
  refine wpAny_bind (wpAny_callSpecial?_slot (name := Str.ofString "__getitem__") ht.typeIs PyProof.Rows.slot_tuple_getitem
    (wpAny_call_entry PyProof.Rows.slot_tuple_getitem ht.typeIs entry_tuple_getitem ?_ (args_tuple_getitem _ _)))
  show wpAny _ _ (Builtin.Tuple.tupleItemsOf (.ref t) >>= _) _ _ s
  refine wpAny_bind (tupleItemsOf_ ht ?_)
  refine wpAny_bind (wpAny_typeOf hTs ?_)
  rw [if_pos (by decide)]
  refine wpAny_bind (sliceApplied_gen hs pl pu ?_)
  have hno : ¬ ((((sIx items.size 0 lo : Nat) : Int) == 0 && (1 : Int) == 1 && (sIx items.size items.size hi - sIx items.size 0 lo) == items.size) = true) := by
    intro q
    rw [Bool.and_eq_true, Bool.and_eq_true] at q
    have q1 : ((sIx items.size 0 lo : Nat) : Int) = 0 := eq_of_beq q.1.1
    have q2 : sIx items.size items.size hi - sIx items.size 0 lo = items.size := eq_of_beq q.2
    exact hw ⟨by omega, by omega⟩
  show wpAny _ _ (if (((sIx items.size 0 lo : Nat) : Int) == 0 && (1 : Int) == 1 && (sIx items.size items.size hi - sIx items.size 0 lo) == items.size) = true then _ else _) _ _ s
  rw [if_neg hno, pick_gen]
  first
    | exact wpAny_bind (m := Builtin.Tuple.tupleExact _) (wpAny_newObj_type (wpAny_pure ⟨_, rfl, wpAny_pure h⟩) htake)
    | exact wpAny_bind (m := Builtin.Tuple.tupleExact _) (wpAny_newObj_type (wpAny_bind (wpAny_pure (wpAny_pure ⟨_, rfl, wpAny_pure h⟩))) htake)
    | exact wpAny_bind (wpAny_bind (m := Builtin.Tuple.tupleExact _) (wpAny_newObj_type (wpAny_pure (wpAny_pure ⟨_, rfl, wpAny_pure h⟩)) htake))
    | exact wpAny_bind (wpAny_bind (m := Builtin.Tuple.tupleExact _) (wpAny_newObj_type (wpAny_pure ⟨_, rfl, wpAny_pure h⟩) htake))
end
end HT

namespace L2
open PySem PySem.Spec PyProof.Rows

/-! ### the parts of a slice -/
abbrev TO := St → Hp → (Option Int → Hp → Prop) → Prop
/-- a slice's part (left out, or an int) -/
def PO (X : Cx) (e : Option Expr) (t : TO) : Prop :=
  ∀ (pins : List (Addr × Obj)) (s : Shared) (σ : St) (H : Hp) (Q : Option Int → Hp → Prop), Inv X pins σ H s → t σ H Q →
    wpAny (model X.prog X.w) X.A (evalPart e X.env) (fun u s' => ∃ o H', Inv X pins σ H' s' ∧ IsPart u o ∧ Q o H') X.xe s
def tNoPart : TO := fun _ H Q => Q none H
def tPart (t : TE) : TO := fun σ H Q => t σ H fun x H1 => ∃ i, x = .int i ∧ Q (some i) H1

section
variable {X : Cx} {e : Expr} {te : TE} {lo hi : Option Expr} {tl th : TO} {pos p2 : Pos}

theorem po_none : PO X none tNoPart := by
  intro pins s σ H Q I h
  rw [evalPart_none]
  exact wpAny_pure ⟨none, H, I, .none, h⟩
theorem po_some (h : PE X e te) : PO X (some e) (tPart te) := by
  intro pins s σ H Q I hw
  rw [evalPart_some]
  refine thn (h pins s σ H _ I hw) fun u s1 ⟨x, H1, I1, r1, q1⟩ => ?_
  obtain ⟨i, rfl, q⟩ := q1
  obtain ⟨t, rfl⟩ := r1
  exact ⟨some i, H1, I1, .int i t, q⟩

/-- what a slice of a value is, by values: the slice object stands at sl -/
def SlR (X : Cx) (r : V → Option Int → Option Int → Hp → VK → Prop) : Prop :=
  ∀ (pins : List (Addr × Obj)) (s : Shared) (σ : St) (H : Hp) (x : V) (v vl vu : Value) (lo hi : Option Int) (sl : Addr) (Q : VK), Inv X pins σ H s → RelV x v → s.heap.IsSliceOf sl vl vu .none → IsPart vl lo → IsPart vu hi → r x lo hi H Q →
    ∃ T id, typeLookup (.type T) "__getitem__" = pure (some (.builtin id)) ∧ s.TypeIs v T ∧ wpAny (model X.prog X.w) X.A (getItem v (.ref sl)) (EP X pins σ Q) X.xe s
def tSl (r : V → Option Int → Option Int → Hp → VK → Prop) (te : TE) (tl th : TO) : TE := fun σ H Q => te σ H fun x H1 => tl σ H1 fun l H2 => th σ H2 fun u H3 => r x l u H3 Q
/-- a[lo:hi], any a -/
theorem pe_slice {r : V → Option Int → Option Int → Hp → VK → Prop} (hr : SlR X r) (he : PE X e te) (hl : PO X lo tl) (hu : PO X hi th) : PE X (.Subscript e (.Slice lo hi none p2) pos) (tSl r te tl th) := by
  intro pins s σ H Q I h
  refine Subscript_ (thn (he pins s σ H _ I h) fun v s1 ⟨x, H1, I1, r1, q1⟩ => ?_)
  refine wpAny_Slice (thn (hl pins s1 σ H1 _ I1 q1) fun vl s2 ⟨l, H2, I2, pl, q2⟩ => thn (hu pins s2 σ H2 _ I2 q2) fun vu s3 ⟨u, H3, I3, pu, q3⟩ => ?_)
  rw [evalPart_none]
  refine wpAny_pure ?_
  have I4 : Inv X pins σ H3 { s3 with heap := s3.heap.push { cls := .type "slice", data := .fields #[vl, vu, .none] } } := I3.kept (t' := s3.toks) fun b ob q => Heap.get?_push_of_some _ q
  obtain ⟨T, id, hT, ht, hg⟩ := hr pins { s3 with heap := s3.heap.push { cls := .type "slice", data := .fields #[vl, vu, .none] } } σ H3 x v vl vu l u s3.heap.objs.size Q I4 r1 (Heap.IsSliceOf.new ..) pl pu q3
  show wpAny (model X.prog X.w) X.A (subscriptTail e (.Slice lo hi none p2) v (.ref s3.heap.objs.size)) (EP X pins σ Q) X.xe { s3 with heap := s3.heap.push { cls := .type "slice", data := .fields #[vl, vu, .none] } }
  exact tail_any (ops := [.ref s3.heap.objs.size, v]) ht hT hg (by with_unfolding_all rfl)

/-- the items of xs[lo:hi] -/
def cutV (xs : List V) (lo hi : Option Int) : List V := (xs.drop (HT.sIx xs.length 0 lo)).take (HT.sIx xs.length xs.length hi - HT.sIx xs.length 0 lo)
theorem cutV_length (xs : List V) (lo hi : Option Int) : (cutV xs lo hi).length ≤ xs.length := by
  unfold cutV
  rw [List.length_take, List.length_drop]
  omega
/-- t[lo:hi], not the whole of it (the whole would be t itself) -/
def rSlT (K : PySem.W.Frag) : V → Option Int → Option Int → Hp → VK → Prop := fun x lo hi H Q => ∃ a xs, x = .ref a ∧ SqT K H a xs ∧
  ¬ (HT.sIx xs.length 0 lo = 0 ∧ HT.sIx xs.length xs.length hi = xs.length) ∧ ∀ p, H p = none → Q (.ref p) (upd H p (.tup (cutV xs lo hi)))
theorem sl_tup : SlR X (rSlT X.K) := by
  intro pins s σ H x v vl vu lo hi sl Q I rx hs pl pu h
  obtain ⟨a, xs, rfl, hx, hw, q⟩ := h
  cases rx
  obtain ⟨its, r, ht, hz⟩ := I.tuple hx
  have hlen : its.toArray.size = xs.length := by rw [List.size_toArray]; exact r.length.symm
  refine ⟨"tuple", _, PyProof.Rows.slot_tuple_getitem.lookup, ht.typeIs, ?_⟩
  refine HT.getItem_tuple_cut ht hs pl pu (by rw [hlen]; exact hw) ?_ (by rw [hlen]; exact hz)
  rw [hlen]
  refine ⟨.ref s.heap.objs.size, _, I.laid (t' := s.toks) (o := .tup (cutV xs lo hi)) (fun b ob q => Heap.get?_push_of_some _ q) (Nat.le_refl _) ?_, rfl, q _ (I.hok.fresh (Nat.le_refl _))⟩
  exact ⟨Nat.le_trans (cutV_length xs lo hi) hz, _, (r.drop (HT.sIx xs.length 0 lo)).take (HT.sIx xs.length xs.length hi - HT.sIx xs.length 0 lo), IsTup.new _ _⟩

/-! ### t < u, t + u -/
/-- t + u, t not empty: u empty gives t itself -/
def rCatT (K : PySem.W.Frag) : R2 := fun x y H Q => ∃ a b xs ys, x = .ref a ∧ y = .ref b ∧ SqT K H a xs ∧ SqT K H b ys ∧ xs ≠ [] ∧ xs.length + ys.length ≤ sizeLine ∧
  (ys = [] → Q (.ref a) H) ∧ (ys ≠ [] → ∀ p, H p = none → Q (.ref p) (upd H p (.tup (xs ++ ys))))
theorem Vals.nil_iff {xs : List V} {us : List Value} (r : Vals xs us) : us = [] ↔ xs = [] := by
  cases r with
  | nil => simp
  | cons _ _ => simp
theorem op_catT : OpR X (binaryOp .Add) (rCatT X.K) := by
  intro pins s σ H x y v u Q I rx ry h
  obtain ⟨a, b, xs, ys, rfl, rfl, ha, hb, hx, hz, q1, q2⟩ := h
  cases rx
  cases ry
  obtain ⟨its, r1, p1, _⟩ := I.tuple ha
  obtain ⟨its2, r2, p2, _⟩ := I.tuple hb
  refine HT.cat_tup p1 p2 (fun z => hx (r1.nil_iff.mp z)) (fun z => ⟨.ref a, H, I, rfl, q1 (r2.nil_iff.mp z)⟩) (fun z => ?_) (by rw [← r1.length, ← r2.length]; exact hz)
  refine ⟨.ref s.heap.objs.size, _, I.laid (t' := s.toks) (o := .tup (xs ++ ys)) (fun b ob q => Heap.get?_push_of_some _ q) (Nat.le_refl _) ?_, rfl, q2 (fun w => z (r2.nil_iff.mpr w)) _ (I.hok.fresh (Nat.le_refl _))⟩
  exact ⟨by rw [List.length_append]; exact hz, _, r1.append r2, IsTup.new _ _⟩
end
end L2

namespace L2
open PySem PySem.Spec PyProof.Rows

/-! ### places -/
/-- the place that an index of any sign means -/
def ixN (n : Nat) (i : Int) : Option Nat := if 0 ≤ i then (if i < n then some i.toNat else none) else if -(n : Int) ≤ i then some (i + n).toNat else none
def atI {α : Type} (xs : List α) (i : Int) : Option α := (ixN xs.length i).bind fun j => xs[j]?
theorem ixN_seq {n : Nat} {i : Int} {j : Nat} (h : ixN n i = some j) : seqIndex? i n = some j ∧ j < n ∧ -(n : Int) ≤ i ∧ i < n := by
  unfold ixN at h
  by_cases h0 : 0 ≤ i
  · rw [if_pos h0] at h
    by_cases h1 : i < n
    · rw [if_pos h1] at h
      have e : i.toNat = j := Option.some.inj h
      exact ⟨by rw [seqIndex_of h0 h1, e], by omega, by omega, h1⟩
    · rw [if_neg h1] at h; cases h
  · rw [if_neg h0] at h
    by_cases h1 : -(n : Int) ≤ i
    · rw [if_pos h1] at h
      have e : (i + n).toNat = j := Option.some.inj h
      exact ⟨by rw [seqIndex_neg (by omega) h1, e], by omega, h1, by omega⟩
    · rw [if_neg h1] at h; cases h
theorem atI_get {α : Type} {xs : List α} {i : Int} {v : α} (h : atI xs i = some v) : ∃ j, seqIndex? i xs.length = some j ∧ xs[j]? = some v ∧ j < xs.length ∧ -(xs.length : Int) ≤ i ∧ i < xs.length := by
  unfold atI at h
  cases e : ixN xs.length i with
  | none => rw [e] at h; cases h
  | some j =>
    rw [e] at h
    obtain ⟨h1, h2, h3, h4⟩ := ixN_seq e
    exact ⟨j, h1, h, h2, h3, h4⟩
theorem atI_nat {α : Type} {xs : List α} {j : Nat} {v : α} (h : xs[j]? = some v) : atI xs (j : Int) = some v := by
  have hj : j < xs.length := (List.getElem?_eq_some_iff.mp h).1
  have e : ixN xs.length (j : Int) = some j := by
    unfold ixN
    rw [if_pos (by omega), if_pos (by omega)]; simp
  unfold atI; rw [e]; exact h
/-! ### what may be subscripted -/
/-- what stands as an index of a plain subscript -/
def PlainIx (b : Expr) : Prop := ∀ o i, subscripted b false o i = operate [o, i] (getItem o i)
/-- a subscript by values -/
def IxR (X : Cx) (r : R2) : Prop :=
  ∀ (value slice : Expr) (pins : List (Addr × Obj)) (s : Shared) (σ : St) (H : Hp) (x y : V) (v u : Value) (Q : VK), Inv X pins σ H s → RelV x v → RelV y u → r x y H Q →
    subscripted slice false v u = operate [v, u] (getItem v u) → wpAny (model X.prog X.w) X.A (subscriptTail value slice v u) (EP X pins σ Q) X.xe s
/-- a call of a builtin's method by values: the receiver, the arguments -/
def MtR (X : Cx) (id : String) (r : V → List V → Hp → VK → Prop) : Prop :=
  ∀ (pins : List (Addr × Obj)) (s : Shared) (σ : St) (H : Hp) (x : V) (xs : List V) (v : Value) (us : List Value) (Q : VK), Inv X pins σ H s → RelV x v → Vals xs us → r x xs H Q →
    wpAny (model X.prog X.w) X.A (call (.builtin id) (v :: us)) (EP X pins σ Q) X.xe s
section
variable {X : Cx} {a b : Expr} {ta tb : TE} {pos : Pos}
/-- a[b] -/
theorem pe_ix {r : R2} (hr : IxR X r) (ha : PE X a ta) (hb : PE X b tb) (hs : PlainIx b) : PE X (.Subscript a b pos) (tOp r ta tb) := by
  intro pins s σ H Q I h
  exact Subscript_ (binT ha hb I h fun v u s2 x y H2 I2 rx ry q => hr a b pins s2 σ H2 x y v u Q I2 rx ry q (hs _ _))

def rIxL (K : PySem.W.Frag) : R2 := fun x y H Q => ∃ p xs i v, x = .ref p ∧ y = .int i ∧ SqL K H p xs ∧ atI xs i = some v ∧ Q v H
def rIxT (K : PySem.W.Frag) : R2 := fun x y H Q => ∃ p xs i v, x = .ref p ∧ y = .int i ∧ SqT K H p xs ∧ atI xs i = some v ∧ Q v H
def rIxS : R2 := fun x y H Q => ∃ z i c, x = .str z ∧ y = .int i ∧ z.length ≤ sizeLine ∧ atI z.cps.toList i = some c ∧ Q (.str ⟨#[c]⟩) H
theorem ix_list : IxR X (rIxL X.K) := by
  intro value slice pins s σ H x y v u Q I rx ry h hs
  obtain ⟨p, xs, i, z, rfl, rfl, hq, he, q⟩ := h
  cases rx
  obtain ⟨t, rfl⟩ := ry
  obtain ⟨its, r, pl, hz⟩ := I.list hq
  obtain ⟨j, h1, h2, h3, h4, h5⟩ := atI_get he
  obtain ⟨w, ew, rw'⟩ := r.get h2
  have hl := r.length
  have hn := line63
  have fin : EP X pins σ Q w s := ⟨z, H, I, rw', q⟩
  by_cases h0 : 0 ≤ i
  · have hj : i.toNat = j := by
      rw [seqIndex_of h0 h5] at h1
      exact Option.some.inj h1
    exact item_listR pl.isList h0 (by omega) (by rw [hj]; simpa using ew) fin hs
  · have hj : (i + (its.toArray.size : Int)).toNat = j := by
      rw [seqIndex_neg (by omega) h4] at h1
      rw [List.size_toArray, ← hl]
      exact Option.some.inj h1
    exact subscriptTail_builtinR (x := w) pl.isList.typeIs slot_list_getitem.lookup
      (wpAny_getItem_list_neg (Q := fun r s' => r = w ∧ EP X pins σ Q r s') pl.isList (by omega) (by rw [List.size_toArray] <;> omega) (by omega) (by rw [hj]; simpa using ew) ⟨rfl, fin⟩) hs
theorem ix_tup : IxR X (rIxT X.K) := by
  intro value slice pins s σ H x y v u Q I rx ry h hs
  obtain ⟨p, xs, i, z, rfl, rfl, hq, he, q⟩ := h
  cases rx
  obtain ⟨t, rfl⟩ := ry
  obtain ⟨its, r, pl, hz⟩ := I.tuple hq
  obtain ⟨j, h1, h2, h3, h4, h5⟩ := atI_get he
  obtain ⟨w, ew, rw'⟩ := r.get h2
  have hl := r.length
  have hn := line63
  have fin : EP X pins σ Q w s := ⟨z, H, I, rw', q⟩
  exact subscriptTail_builtinR (x := w) pl.typeIs slot_tuple_getitem.lookup
    (getItem_tuple (j := j) (Q := fun r s' => r = w ∧ EP X pins σ Q r s') pl (by omega) (by omega) (by rw [List.size_toArray, ← hl]; exact h1) (by simpa using ew) ⟨rfl, fin⟩) hs
theorem ix_str : IxR X rIxS := by
  intro value slice pins s σ H x y v u Q I rx ry h hs
  obtain ⟨z, i, c, rfl, rfl, hz, he, q⟩ := h
  obtain ⟨t, rfl⟩ := rx
  obtain ⟨t', rfl⟩ := ry
  obtain ⟨j, h1, h2, h3, h4, h5⟩ := atI_get he
  have hl : z.cps.toList.length = z.length := by simp [Str.length]
  rw [hl] at h1 h4 h5
  have hn := line63
  exact tail_any (typeIs_str s z t) slot_str_getitem.lookup (getItem_str (c := c) (by
    have e1 : decide (i < -(2 ^ 63 : Int)) = false := decide_eq_false (by omega)
    have e2 : decide (i ≥ 2 ^ 63) = false := decide_eq_false (by omega)
    rw [e1, e2, Bool.or_false]) (by rw [h1]; simpa using h2) ⟨.str ⟨#[c]⟩, H, I.tok _, ⟨_, rfl⟩, q⟩) hs
/-! ### xs[i] = v, any sign -/
/-- the list's object behind a store -/
theorem mapSeq_set (its : List Value) (n j : Nat) (u : Value) : Obj.mapSeq (·.setIfInBounds j u) { cls := .type "list", data := .seq its.toArray n } = { cls := .type "list", data := .seq (its.set j u).toArray n } := by
  simp [Obj.mapSeq]
theorem Inv.lst {pins : List (Addr × Obj)} {σ : St} {H : Hp} {s : Shared} {p : Addr} {xs : List V} (I : Inv X pins σ H s) (h : H p = some (.lst xs)) :
    ∃ (its : List Value) (n : Nat), Vals xs its ∧ s.heap.get? p = some { cls := .type "list", data := .seq its.toArray n } ∧ xs.length ≤ sizeLine := by
  obtain ⟨z, its, n, r, e⟩ := I.hok p _ h
  exact ⟨its, n, r, e, z⟩
/-- the list at p is written by an update of its object -/
theorem Inv.lstUpd {pins : List (Addr × Obj)} {σ : St} {H : Hp} {s : Shared} {p : Addr} {xs ys : List V} {its its' : List Value} {n n' : Nat} {f : Obj → Obj} (I : Inv X pins σ H s) (h : H p = some (.lst xs))
    (ho : s.heap.get? p = some { cls := .type "list", data := .seq its.toArray n }) (hf : f { cls := .type "list", data := .seq its.toArray n } = { cls := .type "list", data := .seq its'.toArray n' }) (r : Vals ys its') (hz : ys.length ≤ sizeLine) (t : Nat) :
    Inv X pins σ (upd H p (.lst ys)) { s with heap := s.heap.update p f, toks := t } := by
  have e : (s.heap.update p f).get? p = some { cls := .type "list", data := .seq its'.toArray n' } := by
    rw [Heap.get?_update_self f ho (by rw [hf] <;> rfl), hf]
  refine I.write (x := p) (e := p) (by rw [h]; trivial) (.inl rfl) (fun b u hb q => (Heap.get?_update_other _ _ (Ne.symm hb)).trans q) ⟨_, e⟩ ?_
  exact ⟨hz, its', n', r, e⟩
def rSetL : V → V → V → Hp → (Hp → Prop) → Prop := fun o i v H Q => ∃ p xs k j, o = .ref p ∧ i = .int k ∧ H p = some (.lst xs) ∧ ixN xs.length k = some j ∧ Q (upd H p (.lst (xs.set j v)))
theorem set_list : PSet X rSetL := by
  intro pins s σ H o i v ov iv u Q I ro ri rv h
  obtain ⟨p, xs, k, j, rfl, rfl, hp, hj, q⟩ := h
  cases ro
  obtain ⟨t, rfl⟩ := ri
  obtain ⟨its, n, r, ho, hz⟩ := I.lst hp
  obtain ⟨h1, h2, h3, h4⟩ := ixN_seq hj
  have hl := r.length
  have hn := line63
  have I' : Inv X pins σ (upd H p (.lst (xs.set j v))) { s with heap := s.heap.update p (Obj.mapSeq (·.setIfInBounds j u)) } :=
    I.lstUpd hp ho (mapSeq_set its n j u) (r.set rv j) (by rw [List.length_set]; exact hz) s.toks
  by_cases h0 : 0 ≤ k
  · have hk : k.toNat = j := by
      rw [seqIndex_of h0 h4] at h1
      exact Option.some.inj h1
    exact PySem.W.ki_setAt ho h0 (by omega) (by rw [List.size_toArray, ← hl]; exact h4) (by rw [hk]; exact ⟨_, I', q⟩)
  · have hk : (k + (its.toArray.size : Int)).toNat = j := by
      rw [seqIndex_neg (by omega) h3] at h1
      rw [List.size_toArray, ← hl]
      exact Option.some.inj h1
    exact PySem.W.ki_setBack ho (by omega) (by rw [List.size_toArray, ← hl]; exact h3) (by omega) (by rw [hk]; exact ⟨_, I', q⟩)

/-! ### slices -/
theorem slice_bounds (lo hi : Option Int) (n : Nat) : (sliceBounds lo hi none n).1 = ((HT.sIx n 0 lo : Nat) : Int) ∧ (sliceBounds lo hi none n).2.1 = ((HT.sIx n n hi : Nat) : Int) ∧ (sliceBounds lo hi none n).2.2 = 1 := by
  refine ⟨?_, ?_, rfl⟩
  · cases lo with
    | none => simp [sliceBounds, HT.sIx]
    | some i =>
      simp only [sliceBounds, HT.sIx, Option.getD_none, show (1 : Int) > 0 by decide, if_true]
      by_cases h : i < 0
      · simp only [h, if_true] <;> omega
      · simp only [h, if_false] <;> omega
  · cases hi with
    | none => simp [sliceBounds, HT.sIx]
    | some i =>
      simp only [sliceBounds, HT.sIx, Option.getD_none, show (1 : Int) > 0 by decide, if_true]
      by_cases h : i < 0
      · simp only [h, if_true] <;> omega
      · simp only [h, if_false] <;> omega
theorem slicePick_cut (its : List Value) (lo hi : Option Int) : slicePick its.toArray lo hi none = ((its.drop (HT.sIx its.length 0 lo)).take (HT.sIx its.length its.length hi - HT.sIx its.length 0 lo)).toArray := by
  obtain ⟨h1, h2, h3⟩ := slice_bounds lo hi its.toArray.size
  unfold slicePick
  rw [h1, h2, h3]
  simp only [sliceRange_one, pick_run, List.size_toArray] <;> rfl
/-- xs[lo:hi] of a list: a new list -/
def rSlL (K : PySem.W.Frag) : V → Option Int → Option Int → Hp → VK → Prop := fun x lo hi H Q => ∃ a xs, x = .ref a ∧ SqL K H a xs ∧ ∀ p, H p = none → Q (.ref p) (upd H p (.lst (cutV xs lo hi)))
theorem sl_list : SlR X (rSlL X.K) := by
  intro pins s σ H x v vl vu lo hi sl Q I rx hs pl pu h
  obtain ⟨a, xs, rfl, hx, q⟩ := h
  cases rx
  obtain ⟨its, r, ht, hz⟩ := I.list hx
  have hlen := r.length
  refine ⟨"list", _, slot_list_getitem.lookup, ht.isList.typeIs, ?_⟩
  refine wpAny_getItem_list_slice ht.isList hs pl pu .none (by simp) ?_ (by rw [List.size_toArray] <;> omega)
  rw [slicePick_cut, ← hlen]
  refine ⟨.ref s.heap.objs.size, _, I.laid (t' := s.toks) (o := .lst (cutV xs lo hi)) (fun b ob q => Heap.get?_push_of_some _ q) (Nat.le_refl _) ?_, rfl, q _ (I.hok.fresh (Nat.le_refl _))⟩
  exact ⟨Nat.le_trans (cutV_length xs lo hi) hz, _, 0, (r.drop (HT.sIx xs.length 0 lo)).take (HT.sIx xs.length xs.length hi - HT.sIx xs.length 0 lo), Heap.get?_push_size _ rfl⟩

/-! ### in, not in: flat items -/
def flatV : V → Bool
  | .non => true
  | .bl _ => true
  | .int _ => true
  | .str _ => true
  | _ => false
/-- == of flat values -/
def eqV : V → V → Bool
  | .non, .non => true
  | .bl a, .bl b => a == b
  | .bl a, .int b => (if a then 1 else 0) == b
  | .int a, .bl b => a == (if b then 1 else 0)
  | .int a, .int b => a == b
  | .str a, .str b => a == b
  | _, _ => false
theorem eqAt_V {A : Around} {s : Shared} {y x : V} {u v : Value} (ry : RelV y u) (rx : RelV x v) (fy : flatV y = true) (fx : flatV x = true) : SeqAt.EqAt A s u v (eqV y x) := by
  cases y with
  | non =>
    cases ry
    cases x with
    | non => cases rx; exact SeqAt.EqAt.same _
    | bl b => cases rx; exact SeqAt.EqAt.none_bool b
    | int b => obtain ⟨t, rfl⟩ := rx; exact SeqAt.EqAt.none_int b t
    | str b => obtain ⟨t, rfl⟩ := rx; exact SeqAt.EqAt.none_str b t
    | _ => exact absurd (show false = true from fx) Bool.false_ne_true
  | bl a =>
    cases ry
    cases x with
    | non => cases rx; exact SeqAt.EqAt.bool_none a
    | bl b => cases rx; exact SeqAt.EqAt.bool_bool a b
    | int b => obtain ⟨t, rfl⟩ := rx; exact SeqAt.EqAt.bool_int a b t
    | str b => obtain ⟨t, rfl⟩ := rx; exact SeqAt.EqAt.bool_str a b t
    | _ => exact absurd (show false = true from fx) Bool.false_ne_true
  | int a =>
    obtain ⟨t', rfl⟩ := ry
    cases x with
    | non => cases rx; exact SeqAt.EqAt.int_none a t'
    | bl b => cases rx; exact SeqAt.EqAt.int_bool a t' b
    | int b => obtain ⟨t, rfl⟩ := rx; exact SeqAt.EqAt.int_int a t' b t
    | str b => obtain ⟨t, rfl⟩ := rx; exact SeqAt.EqAt.int_str a t' b t
    | _ => exact absurd (show false = true from fx) Bool.false_ne_true
  | str a =>
    obtain ⟨t', rfl⟩ := ry
    cases x with
    | non => cases rx; exact SeqAt.EqAt.str_none a t'
    | bl b => cases rx; exact SeqAt.EqAt.str_bool a t' b
    | int b => obtain ⟨t, rfl⟩ := rx; exact SeqAt.EqAt.str_int a t' b t
    | str b => obtain ⟨t, rfl⟩ := rx; exact SeqAt.EqAt.str_str a t' b t
    | _ => exact absurd (show false = true from fx) Bool.false_ne_true
  | _ => exact absurd (show false = true from fy) Bool.false_ne_true
/-- the items' answers, read off the values (a value's own answer does not lean on its token) -/
def eqU (x : V) (u : Value) : Bool := match u with
  | .none => eqV .non x
  | .bool b => eqV (.bl b) x
  | .int i _ => eqV (.int i) x
  | .str z _ => eqV (.str z) x
  | _ => false
theorem eqU_of {x y : V} {u : Value} (r : RelV y u) (f : flatV y = true) : eqU x u = eqV y x := by
  cases y with
  | non => cases r; rfl
  | bl b => cases r; rfl
  | int i => obtain ⟨t, rfl⟩ := r; rfl
  | str z => obtain ⟨t, rfl⟩ := r; rfl
  | _ => exact absurd (show false = true from f) Bool.false_ne_true
theorem any_eqU {x : V} : ∀ {xs : List V} {us : List Value}, Vals xs us → xs.all flatV = true → us.any (eqU x) = xs.any fun y => eqV y x
  | _, _, .nil, _ => rfl
  | y :: xs, u :: us, .cons r t, f => by
    rw [List.all_cons, Bool.and_eq_true] at f
    rw [List.any_cons, List.any_cons, eqU_of r f.1, any_eqU t f.2]
theorem mem_eqAt {A : Around} {s : Shared} {x : V} {v : Value} (rx : RelV x v) (fx : flatV x = true) : ∀ {xs : List V} {us : List Value}, Vals xs us → xs.all flatV = true → ∀ u ∈ us, SeqAt.EqAt A s u v (eqU x u)
  | _, _, .nil, _ => fun u hu => by cases hu
  | y :: xs, u :: us, .cons r t, f => fun u' hu => by
    rw [List.all_cons, Bool.and_eq_true] at f
    rcases List.mem_cons.mp hu with rfl | hu
    · rw [eqU_of r f.1]; exact eqAt_V r rx f.1 fx
    · exact mem_eqAt rx fx t f.2 u' hu
def inV (x : V) (xs : List V) : Bool := xs.any fun y => eqV y x
/-- x in a list or tuple of flat items -/
def rIn (K : PySem.W.Frag) (neg : Bool) : R2 := fun x y H Q => ∃ p xs, y = .ref p ∧ (SqL K H p xs ∨ SqT K H p xs) ∧ flatV x = true ∧ xs.all flatV = true ∧ Q (.bl (if neg then !inV x xs else inV x xs)) H
theorem op_in_seq : OpR X (compareOp .In) (rIn X.K false) := by
  intro pins s σ H x y v u Q I rx ry h
  obtain ⟨p, xs, rfl, hq, fx, fs, q⟩ := h
  cases ry
  rcases hq with hq | hq
  · obtain ⟨its, r, pl, hz⟩ := I.list hq
    refine SeqAt.in_listAt (eqU x) pl.isList (fun w hw => mem_eqAt rx fx r fs w (by simpa using hw)) ⟨.bl _, H, I, rfl, ?_⟩
    rw [show its.toArray.any (eqU x) = its.any (eqU x) by simp, any_eqU r fs]
    exact q
  · obtain ⟨its, r, pl, hz⟩ := I.tuple hq
    refine SeqAt.in_tupleAt (eqU x) pl (fun w hw => mem_eqAt rx fx r fs w (by simpa using hw)) ⟨.bl _, H, I, rfl, ?_⟩
    rw [show its.toArray.any (eqU x) = its.any (eqU x) by simp, any_eqU r fs]
    exact q
theorem op_notIn_seq : OpR X (compareOp .NotIn) (rIn X.K true) := by
  intro pins s σ H x y v u Q I rx ry h
  obtain ⟨p, xs, rfl, hq, fx, fs, q⟩ := h
  cases ry
  rcases hq with hq | hq
  · obtain ⟨its, r, pl, hz⟩ := I.list hq
    refine SeqAt.notIn_listAt (eqU x) pl.isList (fun w hw => mem_eqAt rx fx r fs w (by simpa using hw)) ⟨.bl _, H, I, rfl, ?_⟩
    rw [show its.toArray.any (eqU x) = its.any (eqU x) by simp, any_eqU r fs]
    exact q
  · obtain ⟨its, r, pl, hz⟩ := I.tuple hq
    refine SeqAt.notIn_tupleAt (eqU x) pl (fun w hw => mem_eqAt rx fx r fs w (by simpa using hw)) ⟨.bl _, H, I, rfl, ?_⟩
    rw [show its.toArray.any (eqU x) = its.any (eqU x) by simp, any_eqU r fs]
    exact q
/-! ### len, list(x), tuple(x) of any list or tuple that is read -/
theorem call_tuple_of : CallR X (.type "tuple") (fun xs H Q => ∃ p ys, xs = [.ref p] ∧ ((SqL X.K H p ys ∧ ∀ l, H l = none → Q (.ref l) (upd H l (.tup ys))) ∨ (SqT X.K H p ys ∧ Q (.ref p) H))) := by
  intro pins s σ H xs us Q I r h
  obtain ⟨p, ys, rfl, h⟩ := h
  obtain ⟨u, rfl, rx⟩ := vals1 r
  cases rx
  rcases h with ⟨hq, q⟩ | ⟨hq, q⟩
  · obtain ⟨its, r', pl, hz⟩ := I.list hq
    have hlen := r'.length
    refine call_tuple_list pl.isList (fun h' kp => ?_) (by simp only [List.size_toArray] <;> omega)
    have I1 : Inv X pins σ H { s with heap := h' } := I.kept (t' := s.toks) kp
    have I2 : Inv X pins σ (upd H h'.objs.size (.tup ys)) { s with heap := h'.push { cls := .type "tuple", data := .seq its.toArray } } :=
      I1.laid (t' := s.toks) (fun b o e => Heap.get?_push_of_some _ e) (Nat.le_refl _) (show ObjOk X.prog X.w _ _ _ (.tup ys) from ⟨hz, its, r', IsTup.new _ _⟩)
    exact ⟨.ref h'.objs.size, _, I2, rfl, q _ (I1.hok.fresh (Nat.le_refl _))⟩
  · obtain ⟨its, r', pl, hz⟩ := I.tuple hq
    exact call_tuple_same pl ⟨.ref p, H, I, rfl, q⟩

/-! ### the call of a builtin's method: o.m(..) -/
/-- the value is of that builtin type -/
def tyV (K : PySem.W.Frag) (T : String) (x : V) (H : Hp) : Prop := match x with
  | .str _ => T = "str"
  | .int _ => T = "int"
  | .ref p => (T = "list" ∧ ∃ xs, SqL K H p xs) ∨ (T = "tuple" ∧ ∃ o, K.lookup p = some o ∧ o.cls = .type "tuple" ∧ o.dict = none) ∨
      (T = "dict" ∧ ((∃ kvs, H p = some (.dK kvs)) ∨ ∃ kvs, H p = some (.dT kvs))) ∨ (T = "set" ∧ ∃ S n, H p = some (.set S n))
  | _ => False
theorem tyV_is {pins : List (Addr × Obj)} {σ : St} {H : Hp} {s : Shared} {T : String} {x : V} {v : Value} (I : Inv X pins σ H s) (r : RelV x v) (ty : tyV X.K T x H) :
    s.TypeIs v T ∧ ∀ a, v = .ref a → ∃ ob, s.heap.get? a = some ob ∧ ob.dict = none := by
  cases x with
  | str z =>
    obtain ⟨t, rfl⟩ := r
    cases (show T = "str" from ty)
    exact ⟨typeIs_str s z t, fun _ e => nomatch e⟩
  | int i =>
    obtain ⟨t, rfl⟩ := r
    cases (show T = "int" from ty)
    exact ⟨typeIs_int s i t, fun _ e => nomatch e⟩
  | ref p =>
    cases r
    rcases ty with ⟨rfl, xs, hq⟩ | ⟨rfl, o, hk, hc, hd⟩ | ⟨rfl, hk⟩ | ⟨rfl, S, n, hk⟩
    · obtain ⟨its, _, pl, _⟩ := I.list hq
      refine ⟨pl.isList.typeIs, fun a e => ?_⟩
      cases e
      obtain ⟨o, n, e, c, hd, _⟩ := pl
      exact ⟨o, e, hd⟩
    · refine ⟨⟨o, I.kIn p o hk, hc⟩, fun a e => ?_⟩
      cases e
      exact ⟨o, I.kIn _ o hk, hd⟩
    · have z : ∃ o, s.heap.get? p = some o ∧ o.ExactDict := by
        rcases hk with ⟨kvs, hk⟩ | ⟨kvs, hk⟩
        · obtain ⟨_, _, _, _, o, _, _, e, ex, _⟩ := I.hok p _ hk
          exact ⟨o, e, ex⟩
        · obtain ⟨_, _, _, _, o, _, _, e, ex, _⟩ := I.hok p _ hk
          exact ⟨o, e, ex⟩
      obtain ⟨o, e, ex⟩ := z
      refine ⟨⟨o, e, ex.1⟩, fun a e2 => ?_⟩
      cases e2
      exact ⟨o, e, ex.2.1⟩
    · obtain ⟨o, _, _, _, e, ex, _⟩ := I.hok p _ hk
      refine ⟨⟨o, e, ex.1⟩, fun a e2 => ?_⟩
      cases e2
      exact ⟨o, e, ex.2.1⟩
  | _ => exact False.elim ty
def tBM (K : PySem.W.Frag) (T : String) (r : V → List V → Hp → VK → Prop) (to : TE) (t : TA) : TE := fun σ H Q => to σ H fun x H1 => tyV K T x H1 ∧ t σ H1 fun xs H2 => r x xs H2 Q
variable {o e : Expr} {es : List Expr} {to : TE} {t : TA} {name : Str} {apos cpos : Pos} {T id : String} {r : V → List V → Hp → VK → Prop}
theorem pe_bm (pa : PlainAttrs T) (slot : Slot T name id) (hty : typeOf (.builtin id) = pure (.type "method_descriptor")) (hm : MtR X id r) (ho : PE X o to) (ha : PA X (e :: es) t)
    (hbase : attributeBase o name X.env (eval o X.env) = eval o X.env := by rfl)
    (hfew : ((backTo cpos (starEach (e :: es) X.env)).all (fun x => !x.1) && (backToKw cpos (keywordEach [] X.env)).all (fun x => x.1.isSome)
      && decide ((e :: es).length + ([] : List Keyword).length + (if ([] : List Keyword).isEmpty then 0 else 1) < 30)) = true := by rfl)
    (hline : (apos.endLine == cpos.line) = true := by rfl) (hs : starEach (e :: es) X.env = (false, eval e X.env) :: starEach es X.env := by rfl) (hplain : (backTo cpos (starEach es X.env)).any (·.1) = false := by rfl) :
    PE X (.Call (.Attribute o name apos) (e :: es) [] cpos) (tBM X.K T r to t) := by
  intro pins s σ H Q I h
  refine wpAny_Call_method_late hbase hfew hline rfl (thn (ho pins s σ H _ I h) fun v s1 ⟨x, H1, I1, r1, ty, q1⟩ => ?_)
  obtain ⟨h1, h2⟩ := tyV_is I1 r1 ty
  refine ⟨T, id, pa, slot, hty, h1, h2, ?_⟩
  have hA := ha cpos pins s1 σ H1 _ I1 q1
  rw [hs] at hA ⊢
  refine Calls.callWith_builtin (by show (false || (backTo cpos (starEach es X.env)).any (·.1)) = false; rw [hplain] <;> rfl) (Calls.evalArgs_plain ?_)
  exact thn hA fun us s2 ⟨vs, H2, I2, r2, q2⟩ => hm pins s2 σ H2 x vs v us Q I2 r1 r2 q2
/- xs.append(e), list.index on a module's tuple .. are MtR facts of 06m -/
end
end L2

namespace L2
open PySem PySem.Spec PyProof.Rows

def MtM (X : Cx) (id : String) (r : V → List V → Hp → VK → Prop) : Prop :=
  ∀ (pins : List (Addr × Obj)) (s : Shared) (σ : St) (H : Hp) (x : V) (xs : List V) (v : Value) (us : List Value) (Q : VK), Inv X pins σ H s → RelV x v → Vals xs us → r x xs H Q →
    wpAny (model X.prog X.w) X.A (call (.builtin id) (v :: us)) (EP X pins σ Q) X.xe s

/-! ### lists of values -/
theorem Vals.one : ∀ {x : V} {us : List Value}, Vals [x] us → ∃ u, us = [u] ∧ RelV x u
  | _, _, .cons r .nil => ⟨_, rfl, r⟩
section
variable {X : Cx} {pins : List (Addr × Obj)} {σ : St} {H : Hp} {s : Shared} {l b : Addr} {xs ys zs : List V}

/-! ### the two steps: a tracked list is rewritten, a new list is laid -/
theorem Inv.lset {its its' : List Value} {n : Nat} {f : Array Value → Array Value} {t' : Nat} (I : Inv X pins σ H s) (hH : H l = some (.lst xs))
    (e : s.heap.get? l = some { cls := .type "list", data := .seq its.toArray n }) (hf : f its.toArray = its'.toArray) (hv : Vals ys its') (hz : ys.length ≤ sizeLine) :
    Inv X pins σ (upd H l (.lst ys)) { s with heap := s.heap.update l (Obj.mapSeq f), toks := t' } := by
  have q := PySem.IsL.update e f
  rw [hf] at q
  refine I.write (x := l) (e := l) (by rw [hH]; exact trivial) (.inl rfl) (fun b' u hb hu => (Heap.get?_update_other s.heap (Obj.mapSeq f) (Ne.symm hb)).trans hu) ⟨_, q⟩ ?_
  exact ⟨hz, its', _, hv, q⟩
theorem Inv.lnew {its : List Value} {t' : Nat} (I : Inv X pins σ H s) (hv : Vals ys its) (hz : ys.length ≤ sizeLine) :
    Inv X pins σ (upd H s.heap.objs.size (.lst ys)) { s with heap := s.heap.push { cls := .type "list", data := .seq its.toArray }, toks := t' } :=
  I.laid (fun _ _ q => Heap.get?_push_of_some _ q) (Nat.le_refl _) ⟨hz, its, 0, hv, Heap.get?_push_size _ rfl⟩
theorem Inv.fresh (I : Inv X pins σ H s) : H s.heap.objs.size = none := I.hok.fresh (Nat.le_refl _)
theorem Inv.lstM (I : Inv X pins σ H s) (hH : H l = some (.lst xs)) : xs.length ≤ sizeLine ∧ ∃ (its : List Value) (n : Nat), Vals xs its ∧ xs.length = its.length ∧ s.heap.get? l = some { cls := .type "list", data := .seq its.toArray n } := by
  obtain ⟨z, its, n, r, e⟩ := I.hok l _ hH
  exact ⟨z, its, n, r, r.length, e⟩

theorem notLongL {n : Nat} (h : n ≤ sizeLine) : Builtin.List.listTooLong n = false := by
  unfold Builtin.List.listTooLong
  exact decide_eq_false (by omega)
end

section
variable {X : Cx}

/-! ### methods -/
def rAppend : V → List V → Hp → VK → Prop := fun x vs H Q => ∃ l xs y, x = .ref l ∧ vs = [y] ∧ H l = some (.lst xs) ∧ xs.length < sizeLine ∧ Q .non (upd H l (.lst (xs ++ [y])))
theorem mt_append : MtM X "list.append" rAppend := by
  intro pins s σ H x vs v us Q I rx rv h
  obtain ⟨l, xs, y, rfl, rfl, hH, hz, q⟩ := h
  cases rx
  obtain ⟨u, rfl, ru⟩ := rv.one
  obtain ⟨z, its, n, r, hl, e⟩ := I.lstM hH
  refine call_meets F.slot_list_append ⟨_, e, rfl⟩ F.entry_list_append (F.args_list_append_2 _ _) (PySem.list_append l its.toArray n u (by rw [List.size_toArray]; omega)) ⟨e, ?_⟩
  refine ⟨.non, _, I.lset (its' := its ++ [u]) hH e (by simp) (r.append (.cons ru .nil)) ?_, rfl, q⟩
  rw [List.length_append, List.length_singleton]
  omega

def rExtend : V → List V → Hp → VK → Prop := fun x vs H Q => ∃ l b xs zs, x = .ref l ∧ vs = [.ref b] ∧ H l = some (.lst xs) ∧ H b = some (.lst zs) ∧ xs.length + zs.length ≤ sizeLine ∧ Q .non (upd H l (.lst (xs ++ zs)))
theorem mt_extend : MtM X "list.extend" rExtend := by
  intro pins s σ H x vs v us Q I rx rv h
  obtain ⟨l, b, xs, zs, rfl, rfl, hH, hB, hz, q⟩ := h
  cases rx
  obtain ⟨u, rfl, ru⟩ := rv.one
  cases ru
  obtain ⟨z, its, n, r, hl, e⟩ := I.lstM hH
  obtain ⟨z2, its2, n2, r2, hl2, e2⟩ := I.lstM hB
  have hsz : its.toArray.size + its2.toArray.size ≤ sizeLine := by rw [List.size_toArray, List.size_toArray]; omega
  have hlong : ¬ (!its.toArray.isEmpty && Builtin.List.listTooLong (its.toArray.size + its2.toArray.size)) = true := by
    rw [notLongL hsz, Bool.and_false]
    exact Bool.false_ne_true
  refine call_meets F.slot_list_extend ⟨_, e, rfl⟩ F.entry_list_extend (F.args_list_extend_2 _ _)
    (AutoSeq1.list_extend_list_list_0 l its.toArray n b its2.toArray n2 hlong (by rw [List.size_toArray]; omega) (by omega)) ⟨e, e2, ?_⟩
  refine ⟨.non, _, I.lset (its' := its ++ its2) hH e (by simp) (r.append r2) ?_, rfl, q⟩
  rw [List.length_append]
  omega

/-! ### list + list, list += list, list * int -/
def rCat : R2 := fun x y H Q => ∃ l b xs zs, x = .ref l ∧ y = .ref b ∧ H l = some (.lst xs) ∧ H b = some (.lst zs) ∧ xs.length + zs.length ≤ sizeLine ∧ ∀ p, H p = none → Q (.ref p) (upd H p (.lst (xs ++ zs)))
theorem op_cat : OpR X (binaryOp .Add) rCat := by
  intro pins s σ H x y v u Q I rx ry h
  obtain ⟨l, b, xs, zs, rfl, rfl, hH, hB, hz, q⟩ := h
  cases rx
  cases ry
  obtain ⟨z, its, n, r, hl, e⟩ := I.lstM hH
  obtain ⟨z2, its2, n2, r2, hl2, e2⟩ := I.lstM hB
  refine PySem.P.add_list e e2 ?_ (by rw [List.size_toArray, List.size_toArray]; omega)
  have ea : its.toArray ++ its2.toArray = (its ++ its2).toArray := by simp
  rw [ea]
  exact ⟨.ref _, _, I.lnew (t' := s.toks) (r.append r2) (by rw [List.length_append]; omega), rfl, q _ I.fresh⟩
/-! ### del xs[i] -/
end

/-! ### xs[a:b] = ys -/
section
variable {prog : Program} {w : World} {A : Around} {E : Value → Shared → Prop} {s : Shared}
end

section
variable {X : Cx}
end
end L2

namespace L2
open PySem PySem.Spec PyProof.Rows

/-! ### lists of pairs as tables -/
section
variable {κ : Type} [DecidableEq κ]
theorem RelO.isSome_eq {o : Option V} {u : Option Value} (r : RelO o u) : o.isSome = u.isSome := by
  cases o with
  | none => cases u with
    | none => rfl
    | some _ => exact (show False from r).elim
  | some _ => cases u with
    | none => exact (show False from r).elim
    | some _ => rfl
end


/-! ### a tracked dict, its keys ints and texts or tuples of these -/
section
variable {P : Program} {w : World} {H : Hp} {h : Heap} {a : Addr}
end

section
variable {X : Cx} {pins : List (Addr × Obj)} {σ : St} {H : Hp} {s : Shared} {a : Addr} {y v : V} {u r : Value} {o : Option V} {A : Around} {E : Value → Shared → Prop}

end

section
variable {X : Cx} {pins : List (Addr × Obj)} {σ : St} {H : Hp} {s : Shared} {a : Addr} {kvs : List (Key × V)} {k : Key} {u : Value} {A : Around} {E : Value → Shared → Prop}
end


/-! ### readings and rules -/
section
variable {X : Cx} {o i e value : Expr} {pos pos' tpos : Pos} {td ty tv : TE}
end


/-! ### displays -/
section
variable {X : Cx} {pos : Pos}
end

/-! ### methods -/
/-- a method call o.m(e) of a built-in, with one argument: what must be seen of the text -/
structure M1 (X : Cx) (o : Expr) (m : Str) (apos : Pos) (e : Expr) (cpos : Pos) : Prop where
  base : attributeBase o m X.env (eval o X.env) = eval o X.env
  few : ((backTo cpos (starEach [e] X.env)).all (fun x => !x.1) && (backToKw cpos (keywordEach [] X.env)).all (fun x => x.1.isSome)
    && decide (([e] : List Expr).length + ([] : List Keyword).length + (if ([] : List Keyword).isEmpty then 0 else 1) < 30)) = true
  line : (apos.endLine == cpos.line) = true
  trees : backTo cpos (starEach [e] X.env) = [(false, eval e X.env)]
structure M2 (X : Cx) (o : Expr) (m : Str) (apos : Pos) (e f : Expr) (cpos : Pos) : Prop where
  base : attributeBase o m X.env (eval o X.env) = eval o X.env
  few : ((backTo cpos (starEach [e, f] X.env)).all (fun x => !x.1) && (backToKw cpos (keywordEach [] X.env)).all (fun x => x.1.isSome)
    && decide (([e, f] : List Expr).length + ([] : List Keyword).length + (if ([] : List Keyword).isEmpty then 0 else 1) < 30)) = true
  line : (apos.endLine == cpos.line) = true
  trees : backTo cpos (starEach [e, f] X.env) = [(false, eval e X.env), (false, eval f X.env)]

section
variable {X : Cx} {pins : List (Addr × Obj)} {σ : St} {H : Hp} {s : Shared} {a : Addr} {y d : V} {u r : Value} {o : Option V} {A : Around} {E : Value → Shared → Prop}
end

section
variable {X : Cx} {o e f : Expr} {apos cpos : Pos} {td ty tx : TE}
end

/-! ### dict(d): a copy -/
section
variable {X : Cx} {pins : List (Addr × Obj)} {σ : St} {H : Hp} {s : Shared} {a : Addr} {kvs : List (Key × V)} {A : Around} {E : Value → Shared → Prop}
end


section
variable {X : Cx} {pins : List (Addr × Obj)} {σ : St} {H : Hp} {s : Shared} {a : Addr} {y : V} {u : Value} {A : Around} {E : Value → Shared → Prop}
end
end L2

namespace Att
open PySem PySem.W PySem.Calls PyProof.Rows

/-! ### the script -/
theorem ints_of_wellAll {P : Params} {h : Heap} : ∀ (ns : List Int) (vs : List Value), WellAll P h vs (ns.map WData.int) → IntsAre vs ns := by
  intro ns
  induction ns with
  | nil =>
    intro vs w
    rw [List.map_nil] at w
    cases w
    exact .nil
  | cons n ns ih =>
    intro vs w
    rw [List.map_cons] at w
    cases w with
    | cons a b =>
      cases a
      exact .cons _ _ (ih _ b)

theorem script_of {l : OpenLaw} {n : Nat} (hn : l.most = some n) {P : Params} {h : Heap} {args : List WData} {vals : List Value}
    (hpre : l.row.toRowW.claim.pre args = true) (hwl : WellAll P h vals args) :
    ∃ a vs ns, vals = [Value.ref a] ∧ args = [WData.list (ns.map WData.int)] ∧ h.get? a = some { cls := .type "list", data := .seq vs.toArray } ∧ IntsAre vs ns ∧ ns.length ≤ n := by
  have hsh : WShape.hasAll [] args [.list .int] = true := (pre_splitW hpre).1
  have hc : l.pre.holds [] { args := args } = true := (pre_splitW hpre).2
  obtain ⟨d, r, rfl, h1, h2⟩ := hasAllW_cons hsh
  obtain rfl := hasAllW_nil h2
  obtain ⟨xs, rfl, h3⟩ := hasW_list h1
  obtain ⟨ns, rfl⟩ := items_int h3
  have hlen : ns.length ≤ n := by
    unfold OpenLaw.pre at hc
    have h4 : (WTm.not (.lt (.lit (.int (n : Int))) (.len (.arg 0)))).holds [] { args := [.list (ns.map .int)] } = true := by
      have h4 := (holds_andW hc).1
      rw [hn] at h4
      exact h4
    have h5 := condW_of h4 (w_not (w_lt w_lit (w_len_list (w_arg rfl))))
    rw [List.length_map] at h5
    refine Nat.le_of_not_lt fun q => ?_
    have q' : (n : Int) < ((ns.length : Nat) : Int) := by omega
    first
      | (rw [decide_eq_true q'] at h5; exact absurd h5 (by decide))
      | (simp at h5; omega)
  cases hwl with
  | cons w1 w2 =>
    cases w2
    cases w1 with
    | list ho hall => exact ⟨_, _, ns, rfl, rfl, ho, ints_of_wellAll ns _ hall, hlen⟩

theorem post_true (l : OpenLaw) (args : List WData) : l.row.toRowW.claim.post args (.bool true) args = true :=
  postW_of (r := l.row.toRowW) (X := (true == true))
    (show WShape.has [] (.bool true) .bool = true by first | rfl | decide | simp [WShape.has, WShape.arms, WShape.armsAll])
    (show (WTm.eq .res (.lit (.bool true))).value [] { args := args, res := some (.bool true), after := args } = some (.bool (true == true)) from w_eq_bool (w_res rfl) w_lit) rfl

/-! ### the attachment: holds_open's last premise (the goal 'hc' behind k_head) from a wpAny of the law's body -/
/-- the same from a codeAny of the CALL (for a layer whose function contracts speak of calls) -/
theorem attach_call {l : OpenLaw} {n : Nat} {q : Program} {loose : List Str} {XP : (Str → Option Value) → Heap → Prop} {YP : World → Heap → Prop} {d : DefRec}
    (hn : l.most = some n) (hdf : d.params.defaults = [])
    (call : ∀ (w : World) (s₀ s₁ : Shared) (mg mb : Str → Option Value) (fa : Addr) (o : Obj) (pm cd doc : Value) (a : Addr) (vs : List Value) (ns : List Int),
      Ground q loose [] XP w s₀ mg mb s₁.heap → YP w s₁.heap →
      s₁.heap.get? fa = some o → o.data = .func (docDef d.name d.params d.body d.scope pm cd doc) → s₁.heap.CodeRec cd d.name → mg d.name = some (.ref fa) →
      s₁.heap.get? a = some { cls := .type "list", data := .seq vs.toArray } → IntsAre vs ns → ns.length ≤ n → s₁.gens = #[] →
      codeAny (model l.prog w) callerA (.call (.ref fa) ⟨[.ref a], []⟩) (fun r s' => r = .ok (.ret (.bool true)) ∧ OldK s₁.heap s'.heap ∧ s'.os = s₁.os ∧ AllBare s'.gens) s₁) :
    WalkO q loose XP YP l.row.toRowW d [] (fun f vs => PySem.call f vs) := by
  intro w s₀ s₁ mg mb G Y fa o pm cd doc dV kV ho hd hcd hD hmg hg args vals as hpre hlay hrd hwl hlo
  obtain rfl : dV = .none := Dflts.none hD hdf
  obtain rfl : kV = .none := Dflts.noKw hD
  obtain ⟨a, vs, ns, rfl, rfl, hobj, hints, hlen⟩ := script_of hn hpre hwl
  refine enter_call (codeAny_mono (call w s₀ s₁ mg mb fa o pm cd doc a vs ns G Y ho (fd_plain hd) hcd hmg hobj hints hlen hg) fun r s' hq => ?_)
  obtain ⟨rfl, h2, h3, h4⟩ := hq
  exact ⟨.inl ⟨.bool true, .bool true, [], rfl, fun _ => rfl, .bool true, post_true l _, fun _ => ⟨List.Pairwise.nil, fun _ hm => (nomatch hm)⟩⟩, h2, h3, h4⟩

/-! ### rules over ANY heap (no ledger) from facts about the written part K: the library's own take a ledger (News) for what they write -/
section
variable {prog : Program} {w : World} {A : Around} {E : Value → Shared → Prop} {s : Shared} {K : Frag}

/-! the whole heap as the ledger: makes every rule that writes through a ledger a rule over any heap -/
def ledger (h : Heap) (L d : Addr) : List (Addr × Obj) := (List.range h.objs.size).filterMap fun a => if a = L ∨ a = d then none else (h.get? a).map fun o => (a, o)
end
end Att

namespace L2
open PySem PySem.Spec PyProof.Rows

theorem vals_ints : ∀ {vs : List Value} {ns : List Int}, IntsAre vs ns → Vals (ns.map V.int) vs
  | _, _, .nil => .nil
  | _, _, .cons n t h => .cons ⟨t, rfl⟩ (vals_ints h)

/-- nothing is tracked but the script, known to the object (or it is an object of the module) -/
def Only (H : Hp) : Prop := ∀ b, H b = none ∨ ∃ o xs, H b = some (.frz o (.lst xs))

/-- THE HEAD: the law's promise, at the heap behind the top. F, the promise of the law's def, may use that base is part of the heap (so K.In base, base.Ns mainGlobals mg stand in Mod) -/
theorem law_call {P : Program} {w : World} {K : PySem.W.Frag} {mg mb : Str → Option Value} {CX : CXT} {k : Nat} {fa a : Addr} {fd : FuncData} {x : Str} {sp : Sp} {s₁ : Shared} {vs : List Value} {ns : List Int}
    (KX : K.In s₁.heap) (hns : s₁.heap.Ns mainGlobals mg) (hb : s₁.heap.Ns builtinsNs mb) (hbb : ∀ x : Str, x ≠ "__name__" → mb x = bootBuiltins x) (hlim : s₁.heap.NoLimit) (hg : s₁.gens = #[])
    (ha : s₁.heap.get? a = some { cls := .type "list", data := .seq vs.toArray }) (hi : IntsAre vs ns) (hl : ns.length ≤ sizeLine) (hr : Room k callerA)
    (F : ∀ base : Heap, K.In base → base.Ns mainGlobals mg → FnOk P w K mg base CX k fa fd [x] sp) (hbind : ∀ (s : Shared) (u : Value), BindsTo s fd ⟨[u], []⟩ [(x, u)])
    (hsp : ∀ H : Hp, Only H → SqL K H a (ns.map V.int) → sp [.ref a] H (fun v _ => v = .bl true) fun _ _ _ => False)
    (hCX : ∀ H e s', CX [] H s₁ (fun _ _ _ => False) e s' → False) :
    codeAny (model P w) callerA (.call (.ref fa) ⟨[.ref a], []⟩) (fun r s' => r = .ok (.ret (.bool true)) ∧ OldK s₁.heap s'.heap ∧ s'.os = s₁.os ∧ AllBare s'.gens) s₁ := by
  have rv := vals_ints hi
  have lenV := hi.length
  have core : ∀ H : Hp, Only H → SqL K H a (ns.map V.int) → HOk P w H s₁.heap → (∀ b, H b ≠ none → b = a) → (H a ≠ none → K.lookup a = none) →
      codeAny (model P w) callerA (.call (.ref fa) ⟨[.ref a], []⟩) (fun r s' => r = .ok (.ret (.bool true)) ∧ OldK s₁.heap s'.heap ∧ s'.os = s₁.os ∧ AllBare s'.gens) s₁ := by
    intro H hO hS hok hA hK
    have base_of : ∀ {b : Addr} {o : Obj}, s₁.heap.get? b = some o → H b = none → (hidT s₁.heap H).get? b = some o := fun e n => hidT_get e n
    have noA : ∀ {b : Addr} {o : Obj} {es : Array DictEntry} {ep : Nat}, s₁.heap.get? b = some o → o.data = .dict es ep → H b = none := fun {b o es ep} e d => by
      cases q : H b with
      | none => rfl
      | some u =>
        have e' : b = a := hA b (by rw [q]; simp)
        subst e'
        rw [ha] at e; cases e
        have d' : Data.seq vs.toArray _ = Data.dict es ep := d
        cases d'
    have nsK : ∀ {b : Addr} {m : Str → Option Value}, s₁.heap.Ns b m → (hidT s₁.heap H).Ns b m := fun {b m} ⟨o, es, ep, e, d, r⟩ => ⟨o, es, ep, base_of e (noA e d), d, r⟩
    have hKb : K.In (hidT s₁.heap H) := fun b o e => base_of (KX b o e) (by
      cases q : H b with
      | none => rfl
      | some u =>
        have e' : b = a := hA b (by rw [q]; simp)
        subst e'
        rw [hK (by rw [q]; simp)] at e; cases e)
    have hM : Mod K mg (hidT s₁.heap H) := ⟨hKb, nsK hns, ⟨mb, nsK hb, hbb⟩, let ⟨mc, h1, h2⟩ := hlim; ⟨mc, nsK h1, h2⟩⟩
    have e0 : Env0 P w K mg (hidT s₁.heap H) callerA [] s₁ H := ⟨rfl, hM, fun b o e => of_hidT e, Nat.le_of_eq (hidT_size _ _), trivial, fun b hb => absurd (show b ∈ ([] : List Addr) from hb) (by simp), hok, .of_eq hg⟩
    refine codeAny_mono ((F _ hKb (nsK hns)).run callerA [] s₁ H ⟨[.ref a], []⟩ [.ref a] [.ref a] _ _ hr e0 (hbind s₁ (.ref a)) (.cons rfl .nil) (hsp H hO hS)) fun r s' h => ?_
    cases r with
    | error e => exact (hCX H e s' h).elim
    | ok fl =>
      cases fl with
      | next => exact False.elim h
      | brk => exact False.elim h
      | cont => exact False.elim h
      | ret u =>
        obtain ⟨v, H', os, bare, un, hok', r', q⟩ := h
        have q' : v = .bl true := q
        subst q'
        obtain rfl : u = Value.bool true := r'
        refine ⟨rfl, OldK.of_keep fun b o e => ?_, os, bare⟩
        cases q : H b with
        | none => exact un.keep b o e q (by intro z; exact absurd (show b ∈ ([] : List Addr) from z) (by simp)) (by simp)
        | some u =>
          rcases hO b with z | ⟨ob, xs, z⟩
          · rw [q] at z; cases z
          · have z2 := un.frzs b ob _ z
            obtain ⟨e1, _⟩ := hok b _ z
            obtain ⟨e2, _⟩ := hok' b _ z2
            rw [e] at e1; cases e1
            exact e2
  cases hk : K.lookup a with
  | some o =>
    have e := KX a o hk
    rw [ha] at e
    cases e
    refine core (fun _ => none) (fun _ => .inl rfl) (.inr ⟨_, vs.toArray, _, hk, rfl, rfl, rfl, by rw [List.size_toArray, lenV]; exact hl, by simpa using rv⟩) (fun b u z => by have z' : (none : Option HO) = some u := z; cases z') (fun b z => absurd rfl z) fun z => absurd rfl z
  | none =>
    refine core (fun b => if b = a then some (.frz { cls := .type "list", data := .seq vs.toArray } (.lst (ns.map V.int))) else none) (fun b => ?_) (.inl (.inr ⟨{ cls := .type "list", data := .seq vs.toArray }, if_pos rfl⟩)) (fun b u z => ?_) (fun b z => ?_) fun _ => hk
    · by_cases hb : b = a
      · exact .inr ⟨_, _, if_pos hb⟩
      · exact .inl (if_neg hb)
    · by_cases hb : b = a
      · have z' := (if_pos hb).symm.trans z
        cases z'
        subst hb
        exact ⟨ha, by rw [List.length_map]; exact hl, vs, _, rv, ha⟩
      · have z' := (if_neg hb).symm.trans z
        cases z'
    · by_cases hb : b = a
      · exact hb
      · exact absurd (if_neg hb) z
end L2

namespace L2
open PySem PySem.Spec PyProof.Rows

/-- the goal that k_head leaves (case hc), from the law's promise. F gives the function object fd (K's own) once, then the promise over every base -/
theorem walk_of {l : PySem.W.OpenLaw} {n k : Nat} {q : Program} {loose : List Str} {XP : (Str → Option Value) → Heap → Prop} {YP : World → Heap → Prop} {d : DefRec} {K : Params → PySem.W.Frag} {CX : World → CXT} {sp : World → Sp} {x : Str}
    (hn : l.most = some n) (hn2 : n ≤ sizeLine) (hdf : d.params.defaults = []) (hr : Room k callerA)
    (hY : ∀ (w : World) (h : Heap), YP w h → (K w.params).In h)
    (F : ∀ (w : World) (mg : Str → Option Value) (fa : Addr) (h : Heap), (K w.params).In h → h.Ns mainGlobals mg → mg d.name = some (.ref fa) →
      ∃ fd : FuncData, (∀ (s : Shared) (u : Value), BindsTo s fd ⟨[u], []⟩ [(x, u)]) ∧
        ∀ base : Heap, (K w.params).In base → base.Ns mainGlobals mg → FnOk l.prog w (K w.params) mg base (CX w) k fa fd [x] (sp w))
    (hsp : ∀ (w : World) (H : Hp) (a : Addr) (ns : List Int), ns.length ≤ n → Only H → SqL (K w.params) H a (ns.map V.int) → sp w [.ref a] H (fun v _ => v = .bl true) fun _ _ _ => False)
    (hCX : ∀ (w : World) (H : Hp) (s : Shared) (e : Value) (s' : Shared), CX w [] H s (fun _ _ _ => False) e s' → False) :
    PySem.W.WalkO q loose XP YP l.row.toRowW d [] (fun f vs => PySem.call f vs) := by
  refine Att.attach_call hn hdf fun w s₀ s₁ mg mb fa o pm cd doc a vs ns G Y ho hd hcd hmg hobj hints hlen hg => ?_
  have KX := hY w _ Y
  obtain ⟨fd, hb, hF⟩ := F w mg fa _ KX G.T.g hmg
  exact law_call KX G.T.g G.T.b G.T.builtins G.T.nolimit hg hobj hints (Nat.le_trans hlen hn2) hr hF hb (fun H hO hS => hsp w H a ns hlen hO hS) fun H e s' => hCX w H s₁ e s'
end L2



/-! SHORT WORDS over the layer: a def of the text, its body, what a loop and a test want. -/
namespace L2
open PySem PySem.Spec PyProof.Rows

/-! ### the text by places -/
def defArgs (s : Stmt) : Arguments := match s with
  | .FunctionDef _ a _ _ _ _ _ _ _ _ => a
  | _ => { posonlyargs := [], args := [], vararg := none, kwonlyargs := [], kw_defaults := [], kwarg := none, defaults := [] }
def defBody (s : Stmt) : List Stmt := match s with
  | .FunctionDef _ _ b _ _ _ _ _ _ _ => b
  | _ => []
def defScope (s : Stmt) : Scope := match s with
  | .FunctionDef _ _ _ _ _ _ sc _ _ _ => sc
  | _ => { kind := .function, names := [], isGenerator := false, isCoroutine := false }

/-! ### no exception leaves a def -/
abbrev CX0 : CXT := fun _ _ _ _ _ _ => False
abbrev E0 : XK := fun _ _ _ => False
theorem pass0 {X : Cx} : Passes CX0 X E0 := fun _ _ _ _ _ _ _ h => h.elim

/-! ### a def (or method) of the text as it stands behind the top -/
structure Fun (K : PySem.W.Frag) (x qual : Str) (st : Stmt) (f : Addr) (fd : FuncData) : Prop where
  ex : ∃ (oc : Value) (od : Option Addr) (kV doc pm : Value) (an : Option Addr) (cdv ct : Value) (osl : Array (Option Value)),
    fd = PySem.W.fnOf x qual (defArgs st) (defBody st) (defScope st) .none kV doc pm an cdv ct ∧ K.lookup f = some ⟨oc, od, .func fd, osl⟩ ∧ PySem.W.codeIn K cdv qual = true
  kp : PySem.W.keepIn K (.ref f) = true
section
variable {P : Program} {w : World} {K : PySem.W.Frag} {mg : Str → Option Value} {base : Heap}
/-- THE RULE for a def: its body as a term of rules, and the reading of that term -/
theorem Fun.ok {x qual : Str} {st : Stmt} {f : Addr} {fd : FuncData} {N ps : List Str} {k : Nat} {sp : Sp} (F : Fun K x qual st f fd) (S : FnScope N ps (defScope st)) (len : ∀ vs H Q E, sp vs H Q E → vs.length = ps.length)
    (hbody : ∀ (cdv : Value) (A : Around) (outer : List Env) (s : Shared) (H : Hp) (vs : List V) (Q : VK) (E : XK), Room k (A.deeper (envOfC qual (defScope st) s.heap.objs.size f cdv)) → sp vs H Q E →
      ∃ t, PSs (cxOf CX0 P w K mg base N qual (defScope st) f cdv A outer s H E).nox (defBody st) t ∧ t { nx := fun _ H' => Q .non H', rt := Q } (start N vs) H) : FnOk P w K mg base CX0 (k + 1) f fd ps sp := by
  obtain ⟨oc, od, kV, doc, pm, an, cdv, ct, osl, rfl, lk, hcd⟩ := F.ex
  refine fn_of lk hcd S len fun A outer s H vs Q E hr hsp => ?_
  obtain ⟨t, h, q⟩ := hbody cdv A outer s H vs Q E hr hsp
  exact ⟨t, h.nox, q⟩
/-- how its arguments bind (no defaults): h is «fun _ _ _ _ _ _ us hl => match us, hl with | [_, _], _ => rfl», one _ a parameter -/
theorem Fun.binds {x qual : Str} {st : Stmt} {f : Addr} {fd : FuncData} {ps : List Str} (F : Fun K x qual st f fd)
    (h : ∀ (kV doc pm : Value) (an : Option Addr) (cdv ct : Value) (us : List Value), us.length = ps.length → bindArgs (PySem.W.fnOf x qual (defArgs st) (defBody st) (defScope st) .none kV doc pm an cdv ct) ⟨us, []⟩ = pure (ps.zip us)) : Binds K fd ps [] := by
  obtain ⟨oc, od, kV, doc, pm, an, cdv, ct, osl, rfl, lk, hcd⟩ := F.ex
  exact .all (h kV doc pm an cdv ct)
theorem fun_mk {x qual : Str} {st : Stmt} {f : Addr} {oc : Value} {od an : Option Addr} {osl : Array (Option Value)} {kV doc pm cdv ct : Value} (l : K.lookup f = some ⟨oc, od, .func (PySem.W.fnOf x qual (defArgs st) (defBody st) (defScope st) .none kV doc pm an cdv ct), osl⟩)
    (c : PySem.W.codeIn K cdv qual = true) (k : PySem.W.keepIn K (.ref f) = true) : Fun K x qual st f (PySem.W.fnOf x qual (defArgs st) (defBody st) (defScope st) .none kV doc pm an cdv ct) := ⟨⟨oc, od, kV, doc, pm, an, cdv, ct, osl, rfl, l, c⟩, k⟩
end
/-! ### expressions in short: the name that stands in the i-th slot -/
section
variable {X : Cx}
theorem pv (i : Nat) {x : Str} {pos : Pos} (hN : X.N[i]? = some x := by rfl) (hv : Vis X.env.scope x := by first | exact Or.inl rfl | exact Or.inr (Or.inl rfl) | exact Or.inr (Or.inr rfl)) (hd : (x == ("__debug__" : Str)) = false := by decide)
    (hcd : (x == ("__classdict__" : Str)) = false := by decide) : PE X (.Name x pos) (tVar i) := pe_var hN hv hd hcd
end

/-! ### tests -/
theorem iteF {A B : Prop} (h : B) : if false = true then A else B := by
  rw [if_neg Bool.false_ne_true]
  exact h
theorem iteT {A B : Prop} (h : A) : if true = true then A else B := by
  rw [if_pos rfl]
  exact h
theorem ite2 {c A B : Prop} [Decidable c] (h1 : c → A) (h2 : ¬ c → B) : if c then A else B := by
  by_cases h : c
  · rw [if_pos h]
    exact h1 h
  · rw [if_neg h]
    exact h2 h
/-! ### heaps -/
/-- all that was tracked is as it was -/
def Same (H H' : Hp) : Prop := ∀ b o, H b = some o → H' b = some o
theorem Same.refl (H : Hp) : Same H H := fun _ _ h => h
theorem Same.trans {H H1 H2 : Hp} (a : Same H H1) (b : Same H1 H2) : Same H H2 := fun c o h => b c o (a c o h)
theorem Same.free {H H' : Hp} (e : Same H H') {l : Addr} (h : H' l = Option.none) : H l = Option.none := by
  cases q : H l with
  | none => rfl
  | some o =>
    rw [e l o q] at h
    cases h
theorem Same.seq {K : PySem.W.Frag} {H H' : Hp} {a : Addr} {xs : List V} (e : Same H H') (h : SqL K H a xs) : SqL K H' a xs := by
  rcases h with (h | ⟨o, h⟩) | h
  · exact .inl (.inl (e _ _ h))
  · exact .inl (.inr ⟨o, e _ _ h⟩)
  · exact .inr h

end L2


namespace L2
open PySem PySem.Spec PyProof.Rows
section
variable {X : Cx}
end
/-! ### a dict's pairs: keys that differ -/
section
variable {κ : Type} [DecidableEq κ]
end
end L2


set_option Elab.async false
set_option linter.all false
set_option maxRecDepth 100000
/-! Comprehensions of one clause over the layer: a block of its own, with the cells that it takes from around it. -/
namespace L2
open PySem PySem.Spec PyProof.Rows

def clOf (env : Env) : List (Str × NameKind) → List (Str × Addr) → List (Str × Addr)
  | [], acc => acc
  | (n, k) :: r, acc => if (k == NameKind.free) = true then clOf env r ((n, (env.cells.lookup n).getD 0) :: acc) else clOf env r acc

theorem clOf_lookup {env : Env} {x : Str} : ∀ (l : List (Str × NameKind)) (acc : List (Str × Addr)),
    (clOf env l acc).lookup x = if (l.any fun p => (p.1 == x) && (p.2 == NameKind.free)) = true then some ((env.cells.lookup x).getD 0) else acc.lookup x
  | [], acc => by simp [clOf]
  | (n, k) :: r, acc => by
    unfold clOf
    by_cases hk : (k == NameKind.free) = true
    · rw [if_pos hk, clOf_lookup r]
      by_cases hr : (r.any fun p => (p.1 == x) && (p.2 == NameKind.free)) = true
      · rw [if_pos hr, if_pos]
        rw [List.any_cons, hr, Bool.or_true]
      · rw [if_neg hr]
        have hr' : (r.any fun p => (p.1 == x) && (p.2 == NameKind.free)) = false := (Bool.not_eq_true _).mp hr
        rw [List.any_cons, hr', Bool.or_false, hk, Bool.and_true, List.lookup_cons]
        by_cases hn : n = x
        · subst hn
          simp
        · have h1 : (n == x) = false := by simpa using hn
          have h2 : (x == n) = false := by simpa using fun z => hn (Eq.symm z)
          simp [h1, h2]
    · rw [if_neg hk, clOf_lookup r]
      have hk' : (k == NameKind.free) = false := by simpa using hk
      rw [List.any_cons, hk', Bool.and_false, Bool.false_or]

theorem closure_clOf {env : Env} {scope : Scope} (h : ∀ n k, (n, k) ∈ scope.names → (k == NameKind.free) = true → (env.cells.lookup n).isSome = true) : closureFor scope env = pure (clOf env scope.names []) := by
  have go : ∀ (l : List (Str × NameKind)) (acc : List (Str × Addr)), (∀ n k, (n, k) ∈ l → (k == NameKind.free) = true → (env.cells.lookup n).isSome = true) →
      (forIn l acc (fun (x : Str × NameKind) (r : List (Str × Addr)) => match x with
        | (name, kind) => if (kind == NameKind.free) = true then (do let a ← cellOf env name; pure (ForInStep.yield ((name, a) :: r))) else pure (ForInStep.yield r)) : Sem (List (Str × Addr))) = pure (clOf env l acc) := by
    intro l
    induction l with
    | nil => intro acc _; rfl
    | cons p r ih =>
      intro acc hp
      obtain ⟨n, k⟩ := p
      rw [List.forIn_cons]
      unfold clOf
      by_cases hk : (k == NameKind.free) = true
      · obtain ⟨c, hc⟩ := Option.isSome_iff_exists.mp (hp n k List.mem_cons_self hk)
        have hc1 : cellOf env n = pure c := by simp only [cellOf, hc]
        simp only [hk, if_true, hc1, hc, Option.getD_some]
        have := ih ((n, c) :: acc) (fun n' k' h' => hp n' k' (List.mem_cons_of_mem _ h'))
        simpa using this
      · simp only [hk, if_false]
        have := ih acc (fun n' k' h' => hp n' k' (List.mem_cons_of_mem _ h'))
        simpa using this
  have := go scope.names [] h
  simp only [closureFor]
  simpa using this

/-- what a comprehension's scope must be, beside the scope around it; cs: the names that it reads from around -/
def compOk (sc out : Scope) (xs : List Str) (cs : List Str) : Bool :=
  (sc.kind == .function) && (out.kind == .function) && sc.names.all (fun p => p.2 != NameKind.cell) && sc.names.all (fun p => p.2 != NameKind.local || sc.names.lookup p.1 == some .local) && xs.all (fun x => sc.names.lookup x == some .local)
    && sc.names.all (fun p => p.2 != NameKind.free || out.names.lookup p.1 == some .cell) && cs.all (fun c => sc.names.lookup c == some .free)

structure CompOk (sc out : Scope) (xs : List Str) (cs : List Str) : Prop where
  kind : sc.kind = .function
  okind : out.kind = .function
  cell : ∀ y ∈ sc.names, y.2 ≠ .cell
  names : ∀ y ∈ sc.names, y.2 = .local → sc.names.lookup y.1 = some .local
  x : ∀ x ∈ xs, sc.names.lookup x = some .local
  free : ∀ n k, (n, k) ∈ sc.names → k = .free → out.names.lookup n = some .cell
  cs : ∀ c ∈ cs, sc.names.lookup c = some .free
theorem compOk.mk {sc out : Scope} {xs : List Str} {cs : List Str} (h : compOk sc out xs cs = true) : CompOk sc out xs cs := by
  unfold compOk at h
  simp only [Bool.and_eq_true, List.all_eq_true, beq_iff_eq, bne_iff_ne, ne_eq, Bool.or_eq_true] at h
  obtain ⟨⟨⟨⟨⟨⟨h1, h2⟩, h3⟩, h4⟩, h5⟩, h6⟩, h7⟩ := h
  exact ⟨h1, h2, h3, fun y hy hl => (h4 y hy).resolve_left fun z => z hl, h5, fun n k hm hk => (h6 (n, k) hm).resolve_left fun z => z hk, h7⟩

theorem relabel_free {sc : Scope} {env : Env} {n : Str} (hk : env.scope.kind = .function) (hout : env.scope.names.lookup n = some .cell) (h : sc.names.lookup n = some .free) : (relabel sc env).names.lookup n = some .cell := by
  unfold relabel
  have go : ∀ l : List (Str × NameKind), l.lookup n = some .free →
      (l.map fun (p : Str × NameKind) => if (p.2 == NameKind.free && env.scope.kind == .function && env.kindOf p.1 == some .cell) = true then (p.1, NameKind.cell) else (p.1, p.2)).lookup n = some .cell := by
    intro l
    induction l with
    | nil => intro h; simp at h
    | cons p r ih =>
      intro h
      obtain ⟨m, k⟩ := p
      rw [List.lookup_cons] at h
      cases hm : n == m with
      | true =>
        rw [hm] at h
        cases h
        have e : n = m := by simpa using hm
        subst e
        have hko : env.kindOf n = some .cell := hout
        rw [List.map_cons]
        simp [hk, hko]
      | false =>
        rw [hm] at h
        rw [List.map_cons]
        by_cases hc : (k == NameKind.free && env.scope.kind == .function && env.kindOf m == some .cell) = true
        · rw [if_pos hc, List.lookup_cons, hm]
          exact ih h
        · rw [if_neg hc, List.lookup_cons, hm]
          exact ih h
  exact go sc.names h

/-- the context of a comprehension's block -/
def cxComp (X : Cx) (xs : List Str) (capt : List Nat) (scope : Scope) (C : Addr) (s : Shared) (H : Hp) (ex : List Addr) : Cx :=
  { X with N := xs ++ capt.map (fun j => X.N.getD j ""), s₀ := s, H₀ := H, env := compEnvC scope (clOf X.env scope.names []) C X.env, outer := X.stack, ex := ex, fn := fun _ => false, pn := [] }

def PTs (X : Cx) (ifs : List Expr) (t : TT) : Prop :=
  ∀ (pins : List (Addr × Obj)) (s : Shared) (σ : St) (H : Hp) (Q : Bool → Hp → Prop), Inv X pins σ H s → t σ H Q →
    wpAny (model X.prog X.w) X.A (forIn ifs true fun c r => if r = true then do let ok ← isTrue c X.env (eval c X.env); pure (ForInStep.yield ok) else pure (ForInStep.yield r)) (TP X pins σ Q) X.xe s
def tYes : TT := fun _ H Q => Q true H
theorem pts_nil {X : Cx} : PTs X [] tYes := fun pins s σ H Q I h => by
  show wpAny _ _ (pure true) _ _ _
  exact wpAny_pure ⟨H, I, h⟩
theorem pts_one {X : Cx} {c : Expr} {t : TT} (hc : PT X c t) : PTs X [c] t := fun pins s σ H Q I h => by
  rw [List.forIn_cons]
  simp only [if_true]
  refine wpAny_bind (wpAny_bind (thn (hc pins s σ H Q I h) fun b s1 q => ?_))
  refine wpAny_pure ?_
  show wpAny _ _ (forIn [] b _) _ _ _
  exact wpAny_pure q

/-- the loop of a comprehension, with the step between -/
theorem compLoop_own {prog : Program} {w : World} {A : Around} {R : Result → Shared → Prop} {s : Shared} {elt target iter : Expr} {ifs : List Expr} {scope : Scope} {pos : Pos} {it acc : Value} {env : Env} (I : Nat → Shared → Prop)
    (turn : ∀ n s, I n s → wpAny (model prog w) A (pyNext it) (fun r s₁ => match r with
      | none => R (.ok .next) s₁
      | some v => wpAny (model prog w) A (letOwnedTupleGo target it v) (fun _ s₁' => wpAny (model prog w) A (assign target env v) (fun _ s₂ =>
          wpAny (model prog w) A (forIn ifs true fun c r => if r = true then do let ok ← isTrue c env (eval c env); pure (ForInStep.yield ok) else pure (ForInStep.yield r)) (fun ok s₃ =>
            if ok = true then wpAny (model prog w) A (eval elt env) (fun x s₄ =>
              wpAny (model prog w) A (call (.builtin "list.append") [acc, x]) (fun _ s₅ => ∃ m, m < n ∧ I m s₅) (notedBy (model prog w) A env fun e s' => R (.error e) s') s₄) (notedBy (model prog w) A env fun e s' => R (.error e) s') s₃
            else ∃ m, m < n ∧ I m s₃) (notedBy (model prog w) A env fun e s' => R (.error e) s') s₂) (notedBy (model prog w) A env fun e s' => R (.error e) s') s₁') (notedBy (model prog w) A env fun e s' => R (.error e) s') s₁) (notedBy (model prog w) A env fun e s' => R (.error e) s') s)
    (n : Nat) (h : I n s) : codeAny (model prog w) A (.compLoop (.ListComp elt [⟨target, iter, ifs, 0⟩] scope pos) 0 it acc env) R s := by
  refine codeAny_loop rfl I (fun n s hI => ?_) n h
  show wpAny _ A ((compTurn (.ListComp elt [⟨target, iter, ifs, 0⟩] scope pos) 0 it acc env).onRaise (fun x => do noteFrame x env; theTreesLotGoes x)) _ _ s
  refine wpAny_noted ?_
  rw [compTurn_list]
  refine wpAny_bind (wpAny_standAt (wpAny_bind (wpAny_mono (turn n s hI) (fun r s₁ h₁ => ?_) fun _ _ h' => h')))
  cases r with
  | none => exact wpAny_pure h₁
  | some v =>
    refine wpAny_bind (wpAny_mono h₁ (fun _ s₁' h₁' => ?_) fun _ _ h' => h')
    refine wpAny_bind (wpAny_mono h₁' (fun _ s₂ h₂ => wpAny_bind (wpAny_mono h₂ (fun ok s₃ h₃ => ?_) fun _ _ h' => h')) fun _ _ h' => h')
    cases ok with
    | false => exact wpAny_pure ⟨rfl, h₃⟩
    | true =>
      exact wpAny_bind (wpAny_bind (wpAny_mono h₃ (fun x s₄ h₄ => wpAny_bind (wpAny_mono h₄ (fun _ s₅ h₅ => wpAny_pure (wpAny_pure ⟨rfl, h₅⟩)) fun _ _ h' => h')) fun _ _ h' => h'))

section
variable {X : Cx} {pins : List (Addr × Obj)} {σ : St} {H H2 : Hp} {s s2 : Shared} {xs : List Str} {capt : List Nat} {scope : Scope} {fp : List Addr}

abbrev emptyL : Obj := { cls := .type "list", dict := none, data := .seq ([] : List Value).toArray }
theorem Inv.stk_lt (I : Inv X pins σ H s) {b : Addr} (hb : s.heap.objs.size ≤ b) : b ∉ frs X.stack := fun z => by
  rcases List.mem_cons.mp (I.stkSub b z) with e | e
  · exact absurd (Nat.lt_of_lt_of_le I.lt hb) (by rw [e]; exact Nat.lt_irrefl _)
  · exact I.nofs hb e

/-- the block's context stands -/
theorem comp_cxok (I : Inv X pins σ H2 s2) (ok : CompOk scope X.env.scope xs (capt.map fun j => X.N.getD j "")) (hf : ∀ b ∈ fp, FpOk X pins H2 b) (hfo : ∀ b ∈ fp, ∃ o, s2.heap.get? b = some o) {HH : Heap} (eH : HH = s2.heap.push emptyL) :
    (cxComp X xs capt scope HH.objs.size { s2 with heap := HH } H2 (s2.heap.objs.size :: fp)).Ok := by
  have hsz : HH.objs.size = s2.heap.objs.size + 1 := by rw [eH, Heap.size_push]
  have look : ∀ y c, (clOf X.env scope.names []).lookup y = some c → X.env.cells.lookup y = some c := fun y c e => by
    rw [clOf_lookup] at e
    split at e
    · rename_i ha
      obtain ⟨p, hp, hq⟩ := List.any_eq_true.mp ha
      simp only [Bool.and_eq_true, beq_iff_eq] at hq
      obtain ⟨q1, q2⟩ := hq
      subst q1
      obtain ⟨c', hc'⟩ := I.ok.has p.1 (.inl (ok.free p.1 p.2 hp q2))
      rw [hc'] at e ⊢
      exact e
    · cases e
  have keep : ∀ b o, s2.heap.get? b = some o → HH.get? b = some o := fun b o e => by rw [eH]; exact Heap.get?_push_of_some _ e
  refine ⟨I.ok.mod, ok.kind, I.ok.glob, I.ok.blt, Nat.le_refl _, fun y z c h1 h2 => I.ok.inj y z c (look y c h1) (look z c h2), fun y hy => ?_, (fun y c h _ => nomatch h), I.ok.hd, I.ok.frames, .inl rfl, fun b hb => ?_, fun b o e => ?_, ?_, fun b o e hb => ?_, fun b hb => ?_, ?_, fun b hb => I.stkFree b hb⟩
  · -- each cell's name has its cell
    have hy' : (relabel scope X.env).names.lookup y = some .cell ∨ (relabel scope X.env).names.lookup y = some .free := hy
    have inn : ∀ (l : List (Str × NameKind)) (k : NameKind), (∀ p ∈ l, p.2 ≠ .cell) → (k = .cell ∨ k = .free) →
        (l.map fun (p : Str × NameKind) => if (p.2 == NameKind.free && X.env.scope.kind == .function && X.env.kindOf p.1 == some .cell) = true then (p.1, NameKind.cell) else (p.1, p.2)).lookup y = some k → ∃ p ∈ l, p.1 = y ∧ p.2 = .free := by
      intro l k hnc hkk
      induction l with
      | nil => intro h; simp at h
      | cons p r ih =>
        intro h
        obtain ⟨m, k'⟩ := p
        rw [List.map_cons] at h
        by_cases hc : (k' == NameKind.free && X.env.scope.kind == .function && X.env.kindOf m == some .cell) = true
        · rw [if_pos hc, List.lookup_cons] at h
          have hfree : k' = .free := by
            simp only [Bool.and_eq_true, beq_iff_eq] at hc
            exact hc.1.1
          cases hm : y == m with
          | true => exact ⟨(m, k'), List.mem_cons_self, by simpa using Eq.symm (by simpa using hm), hfree⟩
          | false =>
            rw [hm] at h
            obtain ⟨p, hp, q⟩ := ih (fun p hp => hnc p (List.mem_cons_of_mem _ hp)) h
            exact ⟨p, List.mem_cons_of_mem _ hp, q⟩
        · rw [if_neg hc, List.lookup_cons] at h
          cases hm : y == m with
          | true =>
            rw [hm] at h
            cases h
            rcases hkk with z | z
            · exact absurd z (hnc (m, k') List.mem_cons_self)
            · exact ⟨(m, k'), List.mem_cons_self, by simpa using Eq.symm (by simpa using hm), z⟩
          | false =>
            rw [hm] at h
            obtain ⟨p, hp, q⟩ := ih (fun p hp => hnc p (List.mem_cons_of_mem _ hp)) h
            exact ⟨p, List.mem_cons_of_mem _ hp, q⟩
    have hex : ∃ p ∈ scope.names, p.1 = y ∧ p.2 = .free := by
      rcases hy' with h | h
      · exact inn scope.names .cell ok.cell (.inl rfl) h
      · exact inn scope.names .free ok.cell (.inr rfl) h
    obtain ⟨p, hp, q1, q2⟩ := hex
    refine ⟨_, (clOf_lookup (env := X.env) scope.names []).trans (if_pos (List.any_eq_true.mpr ⟨p, hp, ?_⟩))⟩
    simp [q1, q2]
  · -- the records that turn are not the frame's
    rcases List.mem_cons.mp hb with z | z
    · subst z
      refine ⟨Nat.ne_of_lt (show s2.heap.objs.size < HH.objs.size by omega), fun y c e q => ?_⟩
      obtain ⟨v, hv⟩ := I.cell y c (look y c e)
      have := hv.lt
      rw [q] at this
      exact absurd this (Nat.lt_irrefl _)
    · obtain ⟨o, ho⟩ := hfo b z
      exact ⟨Nat.ne_of_lt (Nat.lt_of_lt_of_le (Heap.lt_size ho) (show s2.heap.objs.size ≤ HH.objs.size by omega)), fun y c e => (hf b z).2.2.2.2.1 y c (look y c e)⟩
  · obtain ⟨h1, h2⟩ := I.bs b o e
    exact ⟨keep b o h1, h2⟩
  · show X.base.objs.size ≤ HH.objs.size
    have h1 := I.ok.bsz
    have h2 := I.sz
    omega
  · -- the base's objects do not turn
    have h0 := (I.bs b o e).1
    rcases List.mem_cons.mp hb with z | z
    · subst z
      exact absurd (Heap.lt_size h0) (Nat.lt_irrefl _)
    · rcases (hf b z).2.2.2.1 with q | q
      · exact I.ok.noex b o e q
      · have h1 := (I.ok.bs b o e).1
        exact absurd (Nat.lt_of_lt_of_le (Heap.lt_size h1) q) (Nat.lt_irrefl _)
  · show b ∉ frs X.stack
    rcases List.mem_cons.mp hb with z | z
    · subst z
      exact I.stk_lt (Nat.le_refl _)
    · intro q
      rcases List.mem_cons.mp (I.stkSub b q) with e | e
      · exact (hf b z).2.1 e
      · exact (hf b z).2.2.1 e
  · show HH.FunFrames X.base X.stack
    exact Heap.FunFrames.of_keeps (fun b o e _ => ⟨o, keep b o e, rfl⟩) I.stack

/-- the block's first state -/
theorem comp_inv (I : Inv X pins σ H2 s2) (ok : CompOk scope X.env.scope xs (capt.map fun j => X.N.getD j "")) (hcap : ∀ j ∈ capt, j < X.N.length) (hf : ∀ b ∈ fp, FpOk X pins H2 b) (hfo : ∀ b ∈ fp, ∃ o, s2.heap.get? b = some o)
    {HH h1 : Heap} {t : Nat} {m : Str → Option Value} {oc : Obj} (eH : HH = s2.heap.push emptyL) (hns : h1.Ns HH.objs.size m) (hsb : Heap.SameBut HH.objs.size (HH.push oc) h1) :
    Inv (cxComp X xs capt scope HH.objs.size { s2 with heap := HH } H2 (s2.heap.objs.size :: fp)) [(s2.heap.objs.size, emptyL)] (List.replicate xs.length none ++ capt.map fun j => (σ[j]?).join) H2 { s2 with heap := h1, toks := t } := by
  have hsz : HH.objs.size = s2.heap.objs.size + 1 := by rw [eH, Heap.size_push]
  have look : ∀ y c, (clOf X.env scope.names []).lookup y = some c → X.env.cells.lookup y = some c := fun y c e => by
    rw [clOf_lookup] at e
    split at e
    · rename_i ha
      obtain ⟨p, hp, hq⟩ := List.any_eq_true.mp ha
      simp only [Bool.and_eq_true, beq_iff_eq] at hq
      obtain ⟨q1, q2⟩ := hq
      subst q1
      obtain ⟨c', hc'⟩ := I.ok.has p.1 (.inl (ok.free p.1 p.2 hp q2))
      rw [hc'] at e ⊢
      exact e
    · cases e
  have keep0 : ∀ b o, HH.get? b = some o → h1.get? b = some o := fun b o e => hsb.extBut b o (Nat.ne_of_lt (Heap.lt_size e)) (Heap.get?_push_of_some _ e)
  have keep : ∀ b o, s2.heap.get? b = some o → h1.get? b = some o := fun b o e => keep0 b o (by rw [eH]; exact Heap.get?_push_of_some _ e)
  have hD : h1.get? s2.heap.objs.size = some emptyL := keep0 _ _ (by rw [eH]; exact Heap.get?_push_size _ rfl)
  refine ⟨comp_cxok I ok hf hfo eH, rfl, I.bare, Un.kept keep0, ⟨m, hns, fun i y v h1' h2 h3 => ?_⟩, fun y c e => ?_, I.hok.fresh (show s2.heap.objs.size ≤ HH.objs.size by omega), fun y c e => I.freeC y c (look y c e), fun p hp => ?_, I.hok.kept keep, ?_⟩
  · by_cases hi : i < xs.length
    · have h2' : (List.replicate xs.length (none : Option V))[i]? = some (some v) := by
        rw [← List.getElem?_append_left (l₂ := capt.map fun j => (σ[j]?).join) (by simpa using hi)]
        exact h2
      rw [List.getElem?_replicate_of_lt hi] at h2'
      cases h2'
    · have h1'' : (capt.map fun j => X.N.getD j "")[i - xs.length]? = some y := by
        rw [← List.getElem?_append_right (l₁ := xs) (by omega)]
        exact h1'
      have h2' : (capt.map fun j => (σ[j]?).join)[i - xs.length]? = some (some v) := by
        have q := List.getElem?_append_right (l₁ := List.replicate xs.length (none : Option V)) (l₂ := capt.map fun j => (σ[j]?).join) (i := i) (by simpa using hi)
        rw [List.length_replicate] at q
        rw [← q]
        exact h2
      rw [List.getElem?_map] at h1'' h2'
      cases hj : capt[i - xs.length]? with
      | none => rw [hj] at h1''; cases h1''
      | some j =>
        rw [hj] at h1'' h2'
        have ey : X.N.getD j "" = y := by simpa using h1''
        have ev : (σ[j]?).join = some v := by simpa using h2'
        have hjm : j ∈ capt := List.mem_of_getElem? hj
        have hjl := hcap j hjm
        have hN : X.N[j]? = some y := by
          rw [List.getD_eq_getElem?_getD, List.getElem?_eq_getElem hjl] at ey
          rw [List.getElem?_eq_getElem hjl]
          simpa using ey
        have hσ : σ[j]? = some (some v) := by
          cases e : σ[j]? with
          | none => rw [e] at ev; cases ev
          | some o => rw [e] at ev; have ev' : o = some v := ev; rw [ev']
        have hfr : scope.names.lookup y = some .free := ok.cs y (List.mem_map.mpr ⟨j, hjm, ey⟩)
        have hout : X.env.scope.names.lookup y = some .cell := ok.free y .free (PySem.mem_of_lookup hfr) rfl
        obtain ⟨mX, _, hl⟩ := I.loc
        obtain ⟨u, ru, lk⟩ := hl j y v hN hσ (.inr (.inl hout))
        refine ⟨u, ru, ?_⟩
        have hko : X.env.kindOf y = some .cell := hout
        rcases lk with ⟨z, _⟩ | ⟨_, c, hc, hcell⟩
        · rw [hko] at z; cases z
        · refine .inr ⟨.inl (relabel_free ok.okind hout hfr), c, ?_, hcell.keeps keep⟩
          show (clOf X.env scope.names []).lookup y = some c
          rw [clOf_lookup, if_pos (List.any_eq_true.mpr ⟨(y, .free), PySem.mem_of_lookup hfr, by simp⟩), hc]
          rfl
  · obtain ⟨v, hv⟩ := I.cell y c (look y c e)
    exact ⟨v, hv.keeps keep⟩
  · have hp' : p = (s2.heap.objs.size, emptyL) := by simpa [cxComp] using hp
    subst hp'
    refine ⟨hD, I.hok.fresh (Nat.le_refl _), Nat.ne_of_lt (show s2.heap.objs.size < HH.objs.size by omega), I.stk_lt (Nat.le_refl _), fun v z => by cases z⟩
  · show _ = (xs ++ capt.map fun j => X.N.getD j "").length
    simp

/-- W: a comprehension's invariant, by the turn, a measure, the items so far; N: what a turn is to reach; n slots of the target's, c what is taken from around -/
def CompG (J : It) (n : Nat) (c : St) (g : TG) (tt : TT) (te : TE) (H1 : Hp) (Fin : List V → Hp → Prop) : Prop :=
  ∃ W : Nat → Nat → List V → Hp → Prop, (∃ m, W 0 m [] H1) ∧ ∀ i m ys H, W i m ys H → (J.stop i H ∧ Fin ys H) ∨
    (J.go i H ∧ ys.length < sizeLine ∧ ∃ N : List V → Hp → Prop, (∀ ys' H', N ys' H' → ∃ m', m' < m ∧ W (i + 1) m' ys' H') ∧
      ∀ x H', J.yld i H x H' → ∀ os : St, os.length = n → g x (os ++ c) H' fun σ1 H1 => tt σ1 H1 fun b H2 => if b = true then te σ1 H2 fun y H3 => N (ys ++ [y]) H3 else N ys H2)
def tCompG (n : Nat) (g : TG) (capt : List Nat) (wi : TI) (tt : TT) (te : TE) : TE := fun σ H Q => wi σ H fun J H1 =>
  CompG J n (capt.map fun j => (σ[j]?).join) g tt te H1 fun ys H => ∀ l, H l = none → Q (.ref l) (upd H l (.lst ys))
/-- the target writes its own slots alone -/
def Shp (n : Nat) (g : TG) : Prop := ∀ v (os c : St) H Q, os.length = n → g v (os ++ c) H Q → g v (os ++ c) H fun σ' H' => (∃ os' : St, os'.length = n ∧ σ' = os' ++ c) ∧ Q σ' H'
/-- the same, the target a name -/
def CompW (J : It) (S : V → St) (tt : TT) (te : TE) (H1 : Hp) (Fin : List V → Hp → Prop) : Prop :=
  ∃ W : Nat → Nat → List V → Hp → Prop, (∃ m, W 0 m [] H1) ∧ ∀ i m ys H, W i m ys H → (J.stop i H ∧ Fin ys H) ∨
    (J.go i H ∧ ys.length < sizeLine ∧ ∃ N : List V → Hp → Prop, (∀ ys' H', N ys' H' → ∃ m', m' < m ∧ W (i + 1) m' ys' H') ∧
      ∀ x H', J.yld i H x H' → tt (S x) H' fun b H2 => if b = true then te (S x) H2 fun y H3 => N (ys ++ [y]) H3 else N ys H2)
def tComp (capt : List Nat) (wi : TI) (tt : TT) (te : TE) : TE := fun σ H Q => wi σ H fun J H1 =>
  CompW J (fun x => some x :: capt.map fun j => (σ[j]?).join) tt te H1 fun ys H => ∀ l, H l = none → Q (.ref l) (upd H l (.lst ys))
theorem CompW.g {J : It} {c : St} {tt : TT} {te : TE} {H : Hp} {Fin : List V → Hp → Prop} (h : CompW J (fun x => some x :: c) tt te H Fin) : CompG J 1 c (gName 0) tt te H Fin := by
  obtain ⟨W, w0, st⟩ := h
  refine ⟨W, w0, fun i m ys H w => ?_⟩
  rcases st i m ys H w with q | ⟨go, hl, N, hN, step⟩
  · exact .inl q
  · refine .inr ⟨go, hl, N, hN, fun x H' y os hos => ?_⟩
    obtain ⟨o, rfl⟩ := List.length_eq_one_iff.mp hos
    exact step x H' y
theorem shp_name : Shp 1 (gName 0) := fun v os c H Q hos h => by
  obtain ⟨o, rfl⟩ := List.length_eq_one_iff.mp hos
  exact ⟨⟨[some v], rfl, rfl⟩, h⟩
/-- an untracked object becomes tracked -/
theorem HOk.track {P : Program} {w : World} {H : Hp} {h : Heap} {a : Addr} {o : HO} (k : HOk P w H h) (n : H a = none) (new : ObjOk P w (upd H a o) h a o) : HOk P w (upd H a o) h := fun b u e => by
  by_cases hb : b = a
  · subst hb; rw [upd_same] at e; cases e; exact new
  · rw [upd_ne hb] at e
    exact (k b u e).stay (fun _ _ _ q => q) (fun c q => by rw [upd_ne (ne_of_none q n)]; exact q) fun c xs q => by rw [upd_ne (ne_of_none q n)]; exact q

theorem comp_block {elt iter tg : Expr} {g : TG} {ifs : List Expr} {pos : Pos} {tt : TT} {te : TE} {it : Addr} {tn : Nat → Heap → Prop} {J : It} {RR : Value → Addr → Result → Shared → Prop}
    (hx0 : ∀ e s, ¬ X.xe e s) (hc : X.calm = true) (ok : CompOk scope X.env.scope xs (capt.map fun j => X.N.getD j "")) (hcap : ∀ j ∈ capt, j < X.N.length) (hG : ∀ C s H ex, PG (cxComp X xs capt scope C s H ex) tg g) (hgs : Shp xs.length g)
    (hT : ∀ C s H ex, PTs (cxComp X xs capt scope C s H ex) ifs tt) (hE : ∀ C s H ex, PE (cxComp X xs capt scope C s H ex) elt te)
    (I2 : Inv X pins σ H2 s2) (T : Turn X.prog X.w X.K tg J fp it tn) (st2 : tn 0 s2.heap) (f2 : ∀ b ∈ fp, FpOk X pins H2 b)
    (Fin : List V → Hp → Prop) (hW : CompG J xs.length (capt.map fun j => (σ[j]?).join) g tt te H2 Fin)
    (hRR : ∀ D C s' ys H' oc, H' D = none → Fin ys H' → Inv X pins σ (upd H' D (.lst ys)) s' → s'.heap.get? C = some oc → (∃ m, s'.heap.Ns C m) → C ≠ D → H' C = none → C ≠ X.env.locals → C ∉ frs X.stack → X.s₀.heap.objs.size ≤ C → (∀ y c, X.env.cells.lookup y = some c → c ≠ C) → (∀ p ∈ X.pn ++ pins, p.1 ≠ C) →
      (∀ v, oc.data ≠ .cell v) → RR (.ref D) C (.ok .next) s') :
    wpAny (model X.prog X.w) X.A (newList []) (fun acc s₃ => wpAny (model X.prog X.w) X.A (newFunctionEnv scope X.env.globals (clOf X.env scope.names []) [] X.env.qual none .none (some X.env)) (fun cenv s₄ =>
      codeAny (model X.prog X.w) X.A (.compStart (.ListComp elt [⟨tg, iter, ifs, 0⟩] scope pos) 0 (.ref it) acc { cenv with scope := relabel scope X.env }) (RR acc cenv.locals) s₄) X.xe s₃) X.xe s2 := by
  refine wpAny_newObj_type (wpAny_newFunctionEnv ok.cell (by intro y hy; simp at hy) (fun h1 hns hsb => ?_) ok.kind)
  dsimp only at hns hsb ⊢
  generalize eH : s2.heap.push { cls := .type "list", dict := none, data := .seq ([] : List Value).toArray } = HH at hns hsb ⊢
  have eH' : HH = s2.heap.push emptyL := eH.symm
  have hsz : HH.objs.size = s2.heap.objs.size + 1 := by rw [eH', Heap.size_push]
  have hfo : ∀ b ∈ fp, ∃ o, s2.heap.get? b = some o := fun b hb => let ⟨o, ho, _⟩ := T.obj 0 _ st2 b hb; ⟨o, ho⟩
  have flt : ∀ b ∈ fp, b < s2.heap.objs.size := fun b hb => let ⟨o, ho⟩ := hfo b hb; Heap.lt_size ho
  have keep1 : ∀ b o, s2.heap.get? b = some o → h1.get? b = some o := fun b o e =>
    hsb.extBut b o (Nat.ne_of_lt (Nat.lt_of_lt_of_le (Heap.lt_size e) (show s2.heap.objs.size ≤ HH.objs.size by omega))) (Heap.get?_push_of_some _ (by rw [eH']; exact Heap.get?_push_of_some _ e))
  have I4 := comp_inv (t := s2.toks + ([] : List (Str × Value)).length) I2 ok hcap f2 hfo eH' hns hsb
  have st4 : tn 0 h1 := T.keep 0 _ _ st2 fun b _ o e => keep1 b o e
  obtain ⟨W, ⟨m0, w0⟩, turn⟩ := hW
  generalize hX : cxComp X xs capt scope HH.objs.size { s2 with heap := HH } H2 (s2.heap.objs.size :: fp) = Y at I4
  have eProg : Y.prog = X.prog := by rw [← hX]; rfl
  have eW : Y.w = X.w := by rw [← hX]; rfl
  have eK : Y.K = X.K := by rw [← hX]; rfl
  have eA : Y.A = X.A := by rw [← hX]; rfl
  have eEnv : Y.env = compEnvC scope (clOf X.env scope.names []) HH.objs.size X.env := by rw [← hX]; rfl
  have eXe : Y.xe = X.xe := by rw [← hX]; rfl
  have eCalm : Y.calm = true := by rw [← hX]; exact hc
  have ePn : Y.pn = [] := by rw [← hX]; rfl
  have eEx : Y.ex = s2.heap.objs.size :: fp := by rw [← hX]; rfl
  have eFs : Y.fs = frs X.stack := by rw [← hX]; rfl
  have hT' : PTs Y ifs tt := by rw [← hX]; exact hT _ _ _ _
  have hE' : PE Y elt te := by rw [← hX]; exact hE _ _ _ _
  have hG' : PG Y tg g := by rw [← hX]; exact hG _ _ _ _
  have eH0 : Y.H₀ = H2 := by rw [← hX]; rfl
  have eS0 : Y.s₀ = { s2 with heap := HH } := by rw [← hX]; rfl
  have eL : Y.env.locals = HH.objs.size := by rw [eEnv]; rfl
  have ecl : Y.env.cells = clOf X.env scope.names [] := by rw [eEnv]; rfl
  have look : ∀ y c, (clOf X.env scope.names []).lookup y = some c → X.env.cells.lookup y = some c := fun y c e => by
    rw [clOf_lookup] at e
    split at e
    · rename_i ha
      obtain ⟨p, hp, hq⟩ := List.any_eq_true.mp ha
      simp only [Bool.and_eq_true, beq_iff_eq] at hq
      obtain ⟨q1, q2⟩ := hq
      subst q1
      obtain ⟨c', hc'⟩ := I2.ok.has p.1 (.inl (ok.free p.1 p.2 hp q2))
      rw [hc'] at e ⊢
      exact e
    · cases e
  have fpOk : ∀ {pins' : List (Addr × Obj)} {H' : Hp}, (∀ b ∈ fp, H' b = none) → (∀ p ∈ pins', p.1 ∉ fp) → ∀ b ∈ fp, FpOk Y pins' H' b := fun {pins' H'} hn hp b hb => by
    have hlt := flt b hb
    refine ⟨hn b hb, by rw [eL]; exact Nat.ne_of_lt (Nat.lt_of_lt_of_le hlt (show s2.heap.objs.size ≤ HH.objs.size by omega)), ?_, .inl (by rw [eEx]; exact List.mem_cons_of_mem _ hb), fun y c e => (f2 b hb).2.2.2.2.1 y c (look y c (by rw [← ecl]; exact e)), fun p hpp z => ?_⟩
    · rw [eFs]
      intro q
      rcases List.mem_cons.mp (I2.stkSub b q) with e | e
      · exact (f2 b hb).2.1 e
      · exact (f2 b hb).2.2.1 e
    · rw [ePn, List.nil_append] at hpp
      exact hp p hpp (by rw [z]; exact hb)
  have Dnf : s2.heap.objs.size ∉ fp := fun z => absurd (flt _ z) (Nat.lt_irrefl _)
  have loop : codeAny (model X.prog X.w) X.A (.compLoop (.ListComp elt [⟨tg, iter, ifs, 0⟩] scope pos) 0 (.ref it) (.ref s2.heap.objs.size) Y.env) (RR (.ref s2.heap.objs.size) HH.objs.size) { s2 with heap := h1, toks := s2.toks + ([] : List (Str × Value)).length } := by
    refine compLoop_own (fun n s' => ∃ i ys its k os H', Inv Y [(s2.heap.objs.size, { cls := .type "list", data := .seq its.toArray k })] (os ++ capt.map fun j => (σ[j]?).join) H' s' ∧ os.length = xs.length ∧ Vals ys its ∧ ys.length ≤ sizeLine ∧ tn i s'.heap ∧ (∀ b ∈ fp, H' b = none) ∧ W i n ys H') ?_ m0
      ⟨0, [], [], 0, _, H2, I4, List.length_replicate, .nil, Nat.zero_le _, st4, fun b hb => (f2 b hb).1, w0⟩
    rintro n s3 ⟨i, ys, its, k, os, H3, I3, hos, rv, hys, st3, fr3, w3⟩
    have noErr : ∀ {e : Value} {s : Shared}, X.xe e s → notedBy (model X.prog X.w) X.A Y.env (fun e s' => RR (.ref s2.heap.objs.size) HH.objs.size (.error e) s') e s := fun {e s} z => (hx0 e s z).elim
    have pinD := I3.pin (s2.heap.objs.size, { cls := .type "list", data := .seq its.toArray k }) (by simp)
    have fp3 := fpOk (pins' := [(s2.heap.objs.size, { cls := .type "list", data := .seq its.toArray k })]) fr3 (by simpa using Dnf)
    rcases turn i n ys H3 w3 with ⟨stop, fin⟩ | ⟨go, hlt, N, hN, step⟩
    · -- it stops
      have d := T.done Y eProg eW eK eCalm i _ s3 _ H3 X.xe I3 fp3 st3 stop
      rw [eA] at d
      refine wpAny_mono d (fun r s4 ⟨hr, I4'⟩ => ?_) fun e s z => noErr z
      subst hr
      show RR (.ref s2.heap.objs.size) HH.objs.size (.ok .next) s4
      have pinD4 := I4'.pin (s2.heap.objs.size, { cls := .type "list", data := .seq its.toArray k }) (by simp)
      obtain ⟨mC, nsC, _⟩ := I4'.loc
      rw [eL] at nsC
      obtain ⟨oC, esC, epC, hoC, hdC, _⟩ := id nsC
      have base4 := I4'.base
      rw [eFs, eEx, eH0, eS0] at base4
      have hCn : H3 HH.objs.size = none := by rw [← eL]; exact I4'.free
      refine hRR s2.heap.objs.size HH.objs.size s4 ys H3 oC pinD4.2.1 fin ?_ hoC ⟨mC, nsC⟩ (Nat.ne_of_gt (show s2.heap.objs.size < HH.objs.size by omega)) hCn (Nat.ne_of_gt (Nat.lt_of_lt_of_le I2.lt (show s2.heap.objs.size ≤ HH.objs.size by omega))) (I2.stk_lt (by omega)) (by have := I2.sz; omega) (fun y c e z => ?_) (fun p hp z => ?_) (fun v z => by rw [hdC] at z; cases z)
      · have hok4 := I4'.hok
        rw [eProg, eW] at hok4
        have hbl : ∀ b ob, s2.heap.get? b = some ob → b ∉ fp → HH.get? b = some ob ∧ b ∉ s2.heap.objs.size :: fp := fun b ob e hm =>
          ⟨by rw [eH']; exact Heap.get?_push_of_some _ e, fun z => (List.mem_cons.mp z).elim (fun q => absurd (Heap.lt_size e) (by rw [q]; exact Nat.lt_irrefl _)) hm⟩
        refine I2.call' (ch := fp) (by rw [I4'.os, eS0]) ⟨fun b ob e nn hb hx => ?_, fun b ob e nn hb hx => ?_, fun b ob e nn hx => ?_, fun b ob e hx => ?_, fun b xs e => ?_, fun b ob u e => ?_, fun b ps e => ?_⟩ (HOk.track hok4 pinD4.2.1 ⟨hys, its, k, rv, pinD4.1⟩) I4'.bare fun b hb => ⟨(f2 b hb).2.2.2.1, (f2 b hb).2.1, (f2 b hb).2.2.2.2.1, (f2 b hb).2.2.2.2.2⟩
        · obtain ⟨h1', h2'⟩ := hbl b ob e hx
          exact base4.keep b ob h1' nn hb h2'
        · obtain ⟨h1', h2'⟩ := hbl b ob e hx
          exact base4.slot b ob h1' nn hb h2'
        · obtain ⟨h1', h2'⟩ := hbl b ob e hx
          rw [upd_ne (Nat.ne_of_lt (Heap.lt_size e))]
          exact base4.free b ob h1' nn h2'
        · obtain ⟨h1', h2'⟩ := hbl b ob e hx
          exact base4.there b ob h1' h2'
        · have q := base4.tups b xs e
          rw [upd_ne (ne_of_none q pinD4.2.1)]
          exact q
        · have q := base4.frzs b ob u e
          rw [upd_ne (ne_of_none q pinD4.2.1)]
          exact q
        · obtain ⟨more, q⟩ := base4.tbls b ps e
          exact ⟨more, by rw [upd_ne (ne_of_none q pinD4.2.1)]; exact q⟩
      · obtain ⟨v, hv⟩ := I2.cell y c e
        have := hv.lt
        rw [z] at this
        exact absurd this (Nat.not_lt.mpr (show s2.heap.objs.size ≤ HH.objs.size by omega))
      · have := Heap.lt_size (I2.pin p hp).1
        rw [z] at this
        exact absurd this (Nat.not_lt.mpr (show s2.heap.objs.size ≤ HH.objs.size by omega))
    · -- one turn
      have d := T.item Y eProg eW eK eCalm i _ s3 _ H3 X.xe I3 fp3 st3 go
      rw [eA] at d
      refine wpAny_mono d (fun r s4 ⟨u, hr, h4⟩ => ?_) fun e s z => noErr z
      subst hr
      refine wpAny_mono h4 (fun _ s5 ⟨v, H5, I5, r5, y5, st5, fr5⟩ => ?_) fun e s z => noErr z
      have fp5 := fpOk (pins' := [(s2.heap.objs.size, { cls := .type "list", data := .seq its.toArray k })]) fr5 (by simpa using Dnf)
      have I5' := I5.pinned fp5 (T.obj _ _ st5)
      have pg' := hG' _ s5 _ H5 v u _ I5' r5 (hgs v os _ H5 _ hos (step v H5 y5 os hos))
      rw [eProg, eW, eA, eXe] at pg'
      refine wpAny_mono pg' (fun _ s6 ⟨σ6, H6, I6, ⟨os6, hos6, e6⟩, q6⟩ => ?_) fun e s z => noErr z
      subst e6
      have t6 := hT' _ s6 _ H6 _ I6 q6
      rw [eProg, eW, eA, eXe] at t6
      refine wpAny_mono t6 (fun b s7 ⟨H7, I7, q7⟩ => ?_) fun e s z => noErr z
      have ntn : ∀ {σ' : St} {H' : Hp} {s' : Shared}, Inv Y ([(s2.heap.objs.size, { cls := .type "list", data := .seq its.toArray k })] ++ pinsAt fp s5.heap) σ' H' s' → tn (i + 1) s'.heap ∧ ∀ b ∈ fp, H' b = none := fun {σ' H' s'} J' => by
        refine ⟨T.keep _ _ _ st5 fun b hb o e => (J'.pin (b, o) (List.mem_append_right _ (List.mem_append_right _ (mem_pinsAt hb e)))).1, fun b hb => ?_⟩
        obtain ⟨o, e, _⟩ := T.obj _ _ st5 b hb
        exact (J'.pin (b, o) (List.mem_append_right _ (List.mem_append_right _ (mem_pinsAt hb e)))).2.1
      cases b with
      | false =>
        rw [if_neg Bool.false_ne_true] at q7
        obtain ⟨m', hm, w7⟩ := hN _ _ q7
        rw [if_neg Bool.false_ne_true]
        exact ⟨m', hm, i + 1, ys, its, k, os6, H7, I7.unpinned, hos6, rv, hys, (ntn I7).1, (ntn I7).2, w7⟩
      | true =>
        rw [if_pos rfl] at q7
        rw [if_pos rfl]
        have e7 := hE' _ s7 _ H7 _ I7 q7
        rw [eProg, eW, eA, eXe] at e7
        refine wpAny_mono e7 (fun uy s8 ⟨y, H8, I8, r8, n8⟩ => ?_) fun e s z => noErr z
        obtain ⟨m', hm, w8⟩ := hN _ _ n8
        have pin8 := I8.pin (s2.heap.objs.size, { cls := .type "list", data := .seq its.toArray k }) (by simp)
        have hlen : ys.length = its.length := rv.length
        refine wpAny_list_append_plain (hsz := by rw [List.size_toArray]; omega) ⟨k, pin8.1⟩ fun h9 ⟨k9, hl9⟩ hs9 => ?_
        have hk9 : ∀ b o, b ≠ s2.heap.objs.size → s8.heap.get? b = some o → h9.get? b = some o := fun b o hb e => (hs9.2 b hb).trans e
        have I8u : Inv Y (pinsAt fp s5.heap) (os6 ++ capt.map fun j => (σ[j]?).join) H8 s8 := I8.pins_of fun p hp => I8.pin p (List.mem_append_right _ (List.mem_append_right _ hp))
        have I9 : Inv Y (pinsAt fp s5.heap) (os6 ++ capt.map fun j => (σ[j]?).join) H8 { s8 with heap := h9, toks := s8.toks } := I8u.turned (it := s2.heap.objs.size) hk9 pin8.2.1 (by rw [eL]; exact Nat.ne_of_lt (show s2.heap.objs.size < HH.objs.size by omega)) (.inl (by rw [eEx]; exact List.mem_cons_self))
          (fun y c e z => by
            rw [ecl] at e
            obtain ⟨v', hv⟩ := I2.cell y c (look y c e)
            have := hv.lt
            rw [z] at this
            exact absurd this (Nat.lt_irrefl _))
          (fun p hp z => by
            rw [ePn, List.nil_append] at hp
            exact Dnf (by rw [← z]; exact (of_pinsAt hp).1))
        have hl9' : h9.get? s2.heap.objs.size = some { cls := .type "list", data := .seq (its ++ [uy]).toArray k9 } := by
          rw [hl9]; simp
        refine ⟨m', hm, i + 1, ys ++ [y], its ++ [uy], k9, os6, H8, I9.pins_of fun p hp => ?_, hos6, rv.append (.cons r8 .nil), ?_, ?_, (ntn I8).2, w8⟩
        · have hp' : p = (s2.heap.objs.size, { cls := .type "list", data := .seq (its ++ [uy]).toArray k9 }) := by simpa using hp
          subst hp'
          exact ⟨hl9', pin8.2.1, pin8.2.2.1, pin8.2.2.2.1, fun v z => by cases z⟩
        · rw [List.length_append, List.length_singleton]; omega
        · refine T.keep _ _ _ (ntn I8).1 fun b hb o e => hk9 b o (fun z => Dnf (by rw [← z]; exact hb)) e
  rw [eEnv] at loop
  refine codeAny_compStart_list ?_ ?_
  · exact loop
  · exact T.self _ 0 _ _ _ st4 loop

theorem pe_compG {elt iter tg : Expr} {g : TG} {ifs : List Expr} {pos : Pos} {wi : TI} {tt : TT} {te : TE} (xs : List Str) (capt : List Nat)
    (hx0 : ∀ e s, ¬ X.xe e s) (hc : X.calm = true) (hi : PI X tg iter wi) (hG : ∀ C s H ex, PG (cxComp X xs capt scope C s H ex) tg g) (hgs : Shp xs.length g)
    (hT : ∀ C s H ex, PTs (cxComp X xs capt scope C s H ex) ifs tt) (hE : ∀ C s H ex, PE (cxComp X xs capt scope C s H ex) elt te)
    (hk : compOk scope X.env.scope xs (capt.map fun j => X.N.getD j "") = true) (hcap : ∀ j ∈ capt, j < X.N.length)
    (hs : ∀ y, foldedSetIterable iter X.env y = pure y := by intro _; rfl) : PE X (.ListComp elt [⟨tg, iter, ifs, 0⟩] scope pos) (tCompG xs.length g capt wi tt te) := by
  intro pins s σ H Q I h
  have ok := compOk.mk hk
  rw [eval_ListComp]
  refine wpAny_comprehension_free (use := none) (cl := clOf X.env scope.names []) rfl hs (closure_clOf fun n k hm hf => ?_) ok.kind ok.names (thn (hi pins s σ H _ I h) fun xv s1 h1 => thn h1 fun itv s2 h2 => ?_)
  · obtain ⟨c, e⟩ := I.ok.has n (.inl (ok.free n k hm (by simpa using hf)))
    rw [e]; rfl
  · obtain ⟨it, fp, tn, J, H2, e, I2, T, st2, f2, hW⟩ := h2
    subst e
    refine comp_block (RR := fun acc C => compPost (model X.prog X.w) X.A X.xe none (EP X pins σ Q) acc C) hx0 hc ok hcap hG hgs hT hE I2 T st2 f2 (fun ys H => ∀ l, H l = none → Q (.ref l) (upd H l (.lst ys))) hW ?_
    intro D C s' ys H' oc hD fin I' hC ⟨m, hns⟩ hCD hCn hL _ hsz hcl hpn _
    refine ⟨m, hns, fun h' hsb => ⟨.ref D, _, I'.turned (t' := s'.toks) (it := C) (fun b o hb e => (hsb.2 b hb).trans e) (by rw [upd_ne hCD]; exact hCn) hL (.inr hsz) hcl hpn, rfl, fin D hD⟩⟩

/-- y = [..]: the list is stored ahead of the block's end -/
theorem ps_compG {elt iter tg : Expr} {g : TG} {py : Pos} {ifs : List Expr} {pos spos : Pos} {wi : TI} {tt : TT} {te : TE} {i : Nat} {y : Str} (xs : List Str) (capt : List Nat)
    (hN : X.N.Nodup) (hiy : X.N[i]? = some y) (hy : Loc X.env.scope y)
    (hx0 : ∀ e s, ¬ X.xe e s) (hc : X.calm = true) (hi : PI X tg iter wi) (hG : ∀ C s H ex, PG (cxComp X xs capt scope C s H ex) tg g) (hgs : Shp xs.length g)
    (hT : ∀ C s H ex, PTs (cxComp X xs capt scope C s H ex) ifs tt) (hE : ∀ C s H ex, PE (cxComp X xs capt scope C s H ex) elt te)
    (hk : compOk scope X.env.scope xs (capt.map fun j => X.N.getD j "") = true) (hcap : ∀ j ∈ capt, j < X.N.length)
    (hsw : swapsWith (.ListComp elt [⟨tg, iter, ifs, 0⟩] scope pos) (some (.Name y py)) spos.line X.env = pure true)
    (hs : ∀ y, foldedSetIterable iter X.env y = pure y := by intro _; rfl) (hf : X.fn y = true ∨ X.env.scope.names.lookup y = some .local := by first | exact .inl rfl | exact .inr rfl | assumption) :
    PS X (.Assign [.Name y py] (.ListComp elt [⟨tg, iter, ifs, 0⟩] scope pos) spos) (tAsg (tCompG xs.length g capt wi tt te) (gName i)) := by
  intro pins s σ H D0 I h
  have ok := compOk.mk hk
  rw [exec_Assign_Name_used _ _ _ _ hsw]
  refine wpAny_bind (wpAny_standAt (wpAny_bind ?_))
  show wpAny _ X.A (do let _ ← comprehension (.ListComp elt [⟨tg, iter, ifs, 0⟩] scope pos) scope X.env _ (newList []) false (eval iter X.env) (some (assign (.Name y py) X.env))) _ _ s
  refine wpAny_bind (wpAny_mono (wpAny_comprehension_free (use := some (assign (.Name y py) X.env)) (cl := clOf X.env scope.names []) (Q := fun _ s' => SP X pins D0 .next s') rfl hs (closure_clOf fun n k hm hf => ?_) ok.kind ok.names (thn (hi pins s σ H _ I h) fun xv s1 h1 => thn h1 fun itv s2 h2 => ?_))
    (fun _ s' hq => wpAny_pure (wpAny_pure hq)) fun _ _ e => e)
  · obtain ⟨c, e⟩ := I.ok.has n (.inl (ok.free n k hm (by simpa using hf)))
    rw [e]; rfl
  · obtain ⟨it, fp, tn, J, H2, e, I2, T, st2, f2, hW⟩ := h2
    subst e
    refine comp_block (RR := fun acc C => compPost (model X.prog X.w) X.A X.xe (some (assign (.Name y py) X.env)) (fun _ s' => SP X pins D0 .next s') acc C) hx0 hc ok hcap hG hgs hT hE I2 T st2 f2 (fun ys H => ∀ l, H l = none → gName i (.ref l) σ (upd H l (.lst ys)) D0.nx) hW ?_
    intro D C s' ys H' oc hD fin I' hC ⟨m, hns⟩ hCD hCn hL hst hsz hcl hpn hnc
    show wpAny _ _ (assign (.Name y py) X.env (.ref D)) _ _ s'
    have hCf : C ∉ X.fs := fun z => by
      rcases I'.ok.stk with e | ⟨e, _⟩
      · exact hst (by rw [e]; exact z)
      · refine hst ?_
        rw [e]
        unfold frs
        rw [List.filterMap_cons]
        split
        · exact z
        · exact List.mem_cons_of_mem _ z
    have Ip : Inv X (pins ++ [(C, oc)]) σ (upd H' D (.lst ys)) s' := I'.pins_of fun p hp => (List.mem_append.mp hp).elim (fun z => I'.pin p (List.mem_append_right _ z)) fun z => by
      have z' : p = (C, oc) := by simpa using z
      subst z'
      exact ⟨hC, by rw [upd_ne hCD]; exact hCn, hL, hCf, hnc⟩
    have pg := pg_name (X := X) (i := i) (x := y) (pos := py) hN hiy hy hf
    refine thn (pg _ s' σ _ (.ref D) (.ref D) (fun σ' H'' => D0.nx σ' H'' ∧ H'' = upd H' D (.lst ys)) Ip rfl ⟨fin D hD, rfl⟩) fun _ s'' ⟨σ', H'', I'', q, eH⟩ => ?_
    subst eH
    have pC := I''.pin (C, oc) (by simp)
    obtain ⟨o, es, ep, ho, r⟩ := hns
    rw [hC] at ho
    cases ho
    refine ⟨m, ⟨oc, es, ep, pC.1, r⟩, fun h' hsb => ?_⟩
    have Iu : Inv X pins σ' (upd H' D (.lst ys)) s'' := I''.pins_of fun p hp => I''.pin p (List.mem_append_right _ (List.mem_append_left _ hp))
    exact ⟨σ', _, Iu.turned (t' := s''.toks) (it := C) (fun b o hb e => (hsb.2 b hb).trans e) pC.2.1 hL (.inr hsz) hcl hpn, q⟩
theorem pe_comp {elt iter : Expr} {x : Str} {px : Pos} {ifs : List Expr} {pos : Pos} {wi : TI} {tt : TT} {te : TE} (capt : List Nat)
    (hx0 : ∀ e s, ¬ X.xe e s) (hc : X.calm = true) (hi : PI X (.Name x px) iter wi)
    (hT : ∀ C s H ex, PTs (cxComp X [x] capt scope C s H ex) ifs tt) (hE : ∀ C s H ex, PE (cxComp X [x] capt scope C s H ex) elt te)
    (hk : compOk scope X.env.scope [x] (capt.map fun j => X.N.getD j "") = true) (hcap : ∀ j ∈ capt, j < X.N.length) (hnd : (x :: capt.map fun j => X.N.getD j "").Nodup)
    (hs : ∀ y, foldedSetIterable iter X.env y = pure y := by intro _; rfl) : PE X (.ListComp elt [⟨.Name x px, iter, ifs, 0⟩] scope pos) (tComp capt wi tt te) := by
  intro pins s σ H Q I h
  have ok := compOk.mk hk
  rw [eval_ListComp]
  refine wpAny_comprehension_free (use := none) (cl := clOf X.env scope.names []) rfl hs (closure_clOf fun n k hm hf => ?_) ok.kind ok.names (thn (hi pins s σ H _ I h) fun xv s1 h1 => thn h1 fun itv s2 h2 => ?_)
  · obtain ⟨c, e⟩ := I.ok.has n (.inl (ok.free n k hm (by simpa using hf)))
    rw [e]; rfl
  · obtain ⟨it, fp, tn, J, H2, e, I2, T, st2, f2, hW⟩ := h2
    subst e
    refine comp_block (RR := fun acc C => compPost (model X.prog X.w) X.A X.xe none (EP X pins σ Q) acc C) hx0 hc ok hcap (xs := [x]) (g := gName 0) (fun C s H ex => pg_name hnd rfl (.inl (lookup_relabel_local (ok.x x (by simp)))) (.inr (lookup_relabel_local (ok.x x (by simp))))) shp_name hT hE I2 T st2 f2 (fun ys H => ∀ l, H l = none → Q (.ref l) (upd H l (.lst ys))) hW.g ?_
    intro D C s' ys H' oc hD fin I' hC ⟨m, hns⟩ hCD hCn hL _ hsz hcl hpn _
    refine ⟨m, hns, fun h' hsb => ⟨.ref D, _, I'.turned (t' := s'.toks) (it := C) (fun b o hb e => (hsb.2 b hb).trans e) (by rw [upd_ne hCD]; exact hCn) hL (.inr hsz) hcl hpn, rfl, fin D hD⟩⟩

/-- y = [..]: the list is stored ahead of the block's end -/
theorem ps_comp {elt iter : Expr} {x : Str} {px : Pos} {py : Pos} {ifs : List Expr} {pos spos : Pos} {wi : TI} {tt : TT} {te : TE} {i : Nat} {y : Str} (capt : List Nat)
    (hN : X.N.Nodup) (hiy : X.N[i]? = some y) (hy : Loc X.env.scope y)
    (hx0 : ∀ e s, ¬ X.xe e s) (hc : X.calm = true) (hi : PI X (.Name x px) iter wi)
    (hT : ∀ C s H ex, PTs (cxComp X [x] capt scope C s H ex) ifs tt) (hE : ∀ C s H ex, PE (cxComp X [x] capt scope C s H ex) elt te)
    (hk : compOk scope X.env.scope [x] (capt.map fun j => X.N.getD j "") = true) (hcap : ∀ j ∈ capt, j < X.N.length) (hnd : (x :: capt.map fun j => X.N.getD j "").Nodup)
    (hsw : swapsWith (.ListComp elt [⟨.Name x px, iter, ifs, 0⟩] scope pos) (some (.Name y py)) spos.line X.env = pure true)
    (hs : ∀ y, foldedSetIterable iter X.env y = pure y := by intro _; rfl) (hf : X.fn y = true ∨ X.env.scope.names.lookup y = some .local := by first | exact .inl rfl | exact .inr rfl | assumption) :
    PS X (.Assign [.Name y py] (.ListComp elt [⟨.Name x px, iter, ifs, 0⟩] scope pos) spos) (tAsg (tComp capt wi tt te) (gName i)) := by
  intro pins s σ H D0 I h
  have ok := compOk.mk hk
  rw [exec_Assign_Name_used _ _ _ _ hsw]
  refine wpAny_bind (wpAny_standAt (wpAny_bind ?_))
  show wpAny _ X.A (do let _ ← comprehension (.ListComp elt [⟨.Name x px, iter, ifs, 0⟩] scope pos) scope X.env _ (newList []) false (eval iter X.env) (some (assign (.Name y py) X.env))) _ _ s
  refine wpAny_bind (wpAny_mono (wpAny_comprehension_free (use := some (assign (.Name y py) X.env)) (cl := clOf X.env scope.names []) (Q := fun _ s' => SP X pins D0 .next s') rfl hs (closure_clOf fun n k hm hf => ?_) ok.kind ok.names (thn (hi pins s σ H _ I h) fun xv s1 h1 => thn h1 fun itv s2 h2 => ?_))
    (fun _ s' hq => wpAny_pure (wpAny_pure hq)) fun _ _ e => e)
  · obtain ⟨c, e⟩ := I.ok.has n (.inl (ok.free n k hm (by simpa using hf)))
    rw [e]; rfl
  · obtain ⟨it, fp, tn, J, H2, e, I2, T, st2, f2, hW⟩ := h2
    subst e
    refine comp_block (RR := fun acc C => compPost (model X.prog X.w) X.A X.xe (some (assign (.Name y py) X.env)) (fun _ s' => SP X pins D0 .next s') acc C) hx0 hc ok hcap (xs := [x]) (g := gName 0) (fun C s H ex => pg_name hnd rfl (.inl (lookup_relabel_local (ok.x x (by simp)))) (.inr (lookup_relabel_local (ok.x x (by simp))))) shp_name hT hE I2 T st2 f2 (fun ys H => ∀ l, H l = none → gName i (.ref l) σ (upd H l (.lst ys)) D0.nx) hW.g ?_
    intro D C s' ys H' oc hD fin I' hC ⟨m, hns⟩ hCD hCn hL hst hsz hcl hpn hnc
    show wpAny _ _ (assign (.Name y py) X.env (.ref D)) _ _ s'
    have hCf : C ∉ X.fs := fun z => by
      rcases I'.ok.stk with e | ⟨e, _⟩
      · exact hst (by rw [e]; exact z)
      · refine hst ?_
        rw [e]
        unfold frs
        rw [List.filterMap_cons]
        split
        · exact z
        · exact List.mem_cons_of_mem _ z
    have Ip : Inv X (pins ++ [(C, oc)]) σ (upd H' D (.lst ys)) s' := I'.pins_of fun p hp => (List.mem_append.mp hp).elim (fun z => I'.pin p (List.mem_append_right _ z)) fun z => by
      have z' : p = (C, oc) := by simpa using z
      subst z'
      exact ⟨hC, by rw [upd_ne hCD]; exact hCn, hL, hCf, hnc⟩
    have pg := pg_name (X := X) (i := i) (x := y) (pos := py) hN hiy hy hf
    refine thn (pg _ s' σ _ (.ref D) (.ref D) (fun σ' H'' => D0.nx σ' H'' ∧ H'' = upd H' D (.lst ys)) Ip rfl ⟨fin D hD, rfl⟩) fun _ s'' ⟨σ', H'', I'', q, eH⟩ => ?_
    subst eH
    have pC := I''.pin (C, oc) (by simp)
    obtain ⟨o, es, ep, ho, r⟩ := hns
    rw [hC] at ho
    cases ho
    refine ⟨m, ⟨oc, es, ep, pC.1, r⟩, fun h' hsb => ?_⟩
    have Iu : Inv X pins σ' (upd H' D (.lst ys)) s'' := I''.pins_of fun p hp => I''.pin p (List.mem_append_right _ (List.mem_append_left _ hp))
    exact ⟨σ', _, Iu.turned (t' := s''.toks) (it := C) (fun b o hb e => (hsb.2 b hb).trans e) pC.2.1 hL (.inr hsz) hcl hpn, q⟩
end
end L2

set_option Elab.async false
set_option linter.all false
set_option maxRecDepth 100000
/-! More rules over the layer: texts, isinstance, all, join, is True, // by large numbers. -/
namespace L2
open PySem PySem.Spec PyProof.Rows
section
variable {X : Cx}

/-- // by any positive divisor below 2 ** 1000 -/
def bigB : Int := 1645504557321206042154969182557350504982735865633579863348609024
def CDivL (i j : Int) : Prop := 0 < j ∧ j < bigB
theorem log2_lt_of {n k : Nat} (h : n < 2 ^ k) (hk : 0 < k) : n.log2 < k := by
  by_cases h0 : n = 0
  · subst h0; simpa using hk
  · exact (Nat.log2_lt h0).mpr h
theorem op_fdivL : OpR X (binaryOp .FloorDiv) (rI CDivL fun i j => .int (i / j)) := opI fun i j _ _ _ _ _ hc q => by
  have h1 : (0 : Int) < j := hc.1
  have h2 : j < bigB := hc.2
  refine floordiv_int (by omega) (by rw [Int.fdiv_eq_ediv_of_nonneg i (by omega)]; exact q) (.inl (PyProof.noPylong_of_log2 ?_))
  have h3 : j.natAbs < 2 ^ 210 := by
    have e : (2 ^ 210 : Nat) = 1645504557321206042154969182557350504982735865633579863348609024 := by decide
    unfold bigB at h2
    rw [e]
    omega
  exact Nat.lt_of_lt_of_le (log2_lt_of h3 (by decide)) (by decide)

theorem op_le_str : OpR X (compareOp .LtE) (fun x y H Q => ∃ i j, x = .str i ∧ y = .str j ∧ Q (.bl (!decide (j.cps.toList < i.cps.toList))) H) := by
  intro pins s σ H x y v u Q I rx ry h
  obtain ⟨i, j, rfl, rfl, q⟩ := h
  obtain ⟨t, rfl⟩ := rx
  obtain ⟨t', rfl⟩ := ry
  exact PySem.P.le_str (fin_bl I q rfl)
theorem op_gt_str : OpR X (compareOp .Gt) (fun x y H Q => ∃ i j, x = .str i ∧ y = .str j ∧ Q (.bl (decide (j.cps.toList < i.cps.toList))) H) := by
  intro pins s σ H x y v u Q I rx ry h
  obtain ⟨i, j, rfl, rfl, q⟩ := h
  obtain ⟨t, rfl⟩ := rx
  obtain ⟨t', rfl⟩ := ry
  exact PySem.P.gt_str (fin_bl I q rfl)
/-- x is True, x is False: the right side a truth -/
theorem op_isB : OpR X (compareOp .Is) (fun x y H Q => ∃ k, y = .bl k ∧ (∀ a, x ≠ .ref a) ∧ (∀ n, x ≠ .ty n) ∧ Q (.bl (decide (x = .bl k))) H) := by
  intro pins s σ H x y v u Q I rx ry h
  obtain ⟨k, rfl, hr, hty, q⟩ := h
  cases ry
  cases x <;> first
    | (cases rx; refine wpAny_is_plain rfl (fin_bl I q ?_); first | rfl | (rename_i b; cases k <;> cases b <;> rfl) | (cases k <;> simp))
    | (obtain ⟨t, rfl⟩ := rx; refine wpAny_is_plain rfl (fin_bl I q ?_); first | rfl | simp)
    | exact (hr _ rfl).elim
    | exact (hty _ rfl).elim

/-- isinstance(x, T), T a built-in type -/
theorem call_isinst {T : String} : CallR X (.builtin "isinstance") (fun xs H Q => ∃ x t b, xs = [x, .ty T] ∧ TyOf X.K H x t ∧ PySem.W.kitOne X.K t (.type T) = some b ∧ Q (.bl b) H) := by
  intro pins s σ H xs us Q I r h
  obtain ⟨x, t, b, rfl, ty, e, q⟩ := h
  obtain ⟨u, w', rfl, rx, rt⟩ := vals2 r
  cases rt
  exact isinst_ok I rx ty e fun tk => ⟨.bl b, H, I.tok _, rfl, q⟩

/-- all(xs) of truths -/
theorem bools_of {bs : List Bool} : ∀ {us : List Value}, Vals (bs.map V.bl) us → us = bs.map Value.bool := by
  induction bs with
  | nil => intro us r; cases r; rfl
  | cons b bs ih =>
    intro us r
    rw [List.map_cons] at r
    cases r with
    | cons r1 r2 =>
      cases r1
      rw [ih r2, List.map_cons]
theorem call_all : CallR X (.builtin "all") (fun xs H Q => X.calm = true ∧ ∃ (p : Addr) (bs : List Bool), xs = [.ref p] ∧ SqL X.K H p (bs.map V.bl) ∧ Q (.bl (bs.all id)) H) := by
  intro pins s σ H xs us Q I r h
  obtain ⟨hc, p, bs, rfl, hp, q⟩ := h
  obtain ⟨u, rfl, ru⟩ := vals1 r
  cases ru
  obtain ⟨its, rv, pl, hz⟩ := I.list hp
  have e := bools_of rv
  subst e
  have hl := pl.isList
  have hlt : p < s.heap.objs.size := by obtain ⟨_, e, _⟩ := hl; exact Heap.lt_size e
  refine call_all_walk (wpAny_pyIter_list hl ?_)
  refine ⟨s.heap.objs.size, [s.heap.objs.size, p], [s.heap.objs.size], (bs.map Value.bool).toArray.size, _, _, fun i => (bs[i]?).getD true, rfl, Walks.list (A := X.A.in1) (I.ok.hd hc) _ p (Nat.ne_of_lt hlt) (bs.map Value.bool).toArray,
    ⟨⟨_, Heap.get?_push_size _ rfl, rfl, rfl⟩, hl.push _⟩, fun i v s' Q' E' hP hQ => ?_, fun h' tk hk => ?_⟩
  · have hP' : (bs.map Value.bool)[i]? = some v := by simpa using hP
    rw [List.getElem?_map] at hP'
    cases e : bs[i]? with
    | none => rw [e] at hP'; cases hP'
    | some b =>
      rw [e] at hP'
      have ev : Value.bool b = v := Option.some.inj hP'
      subst ev
      simp only [e, Option.getD_some] at hQ
      exact wpAny_truthy_bool hQ
  · have e : ((List.range (bs.map Value.bool).toArray.size).all fun i => (bs[i]?).getD true) = bs.all id := by
      rw [List.size_toArray, List.length_map]
      rw [Bool.eq_iff_iff, List.all_eq_true, List.all_eq_true]
      constructor
      · intro h b hb
        obtain ⟨i, hi, rfl⟩ := List.mem_iff_getElem.mp hb
        have := h i (List.mem_range.mpr hi)
        rw [List.getElem?_eq_getElem hi] at this
        exact this
      · intro h i hi
        have hi' := List.mem_range.mp hi
        rw [List.getElem?_eq_getElem hi']
        exact h _ (List.getElem_mem hi')
    rw [e]
    exact ⟨.bl _, H, I.kept (t' := tk) fun b o eb => hk b o (fun z => by rw [List.mem_singleton.mp z] at eb; exact Nat.lt_irrefl _ (Heap.lt_size eb)) (Heap.get?_push_of_some _ eb), rfl, q⟩

end

/-! ### a text's signs, one by one -/
def Its (x : Str) : It := ⟨fun i _ => i < x.cps.size, fun i H v H' => H' = H ∧ ∃ c, x.cps[i]? = some c ∧ v = .str ⟨#[c]⟩, fun i _ => i = x.cps.size⟩
theorem turn_str {P : Program} {w : World} {K : PySem.W.Frag} {tg : Expr} {it : Addr} {x : Str} {t : Tok} {T : String}
    (hT : ["enumerate", "zip", "dict_itemiterator", "dict_reverseitemiterator", "odict_iterator", "itertools.zip_longest", "itertools.pairwise"].contains T = false)
    (W : ∀ A' : Around, A'.handled = none → Walks P w A' it [it] [it] x.cps.size (SignAt x) (fun i h => h.IsStrIter it T x t i))
    (hself : ∀ (A : Around) (i : Nat) (s : Shared) (Q : Value → Shared → Prop) (E : Value → Shared → Prop), s.heap.IsStrIter it T x t i → Q (.ref it) s → wpAny (model P w) A (pyIter (.ref it)) Q E s) :
    Turn P w K tg (Its x) [it] it (fun i h => h.IsStrIter it T x t i) where
  mem := by simp
  obj := fun i h st b hb => by
    have e : b = it := by simpa using hb
    subst e
    obtain ⟨o, e, c, d⟩ := st
    exact ⟨o, e, fun v z => by rw [d] at z; cases z⟩
  keep := fun i h h' st k => by
    obtain ⟨o, e, c, d⟩ := st
    exact ⟨o, k it (by simp) o e, c, d⟩
  item := by
    intro X hP hw hK hc i pins s σ H E I hf st hg
    subst hP hw hK
    obtain ⟨f0, f1, f2, f3, f4, f5⟩ := hf it (by simp)
    refine (W X.A (I.ok.hd hc)).item i s _ E hg st fun v h' tk hv st' hk => ?_
    obtain ⟨c, u, hcx, rfl⟩ := hv
    have I1 : Inv X pins σ H { s with heap := h', toks := tk } := I.turned (t' := tk) (fun b o hb e => hk b o (by simpa using hb) e) f0 f1 f3 f4 f5
    obtain ⟨o, e, c', d⟩ := id st'
    exact ⟨_, rfl, go_of (s := { s with heap := h', toks := tk }) e c' d hT ⟨.str ⟨#[c]⟩, H, I1, ⟨u, rfl⟩, ⟨rfl, c, hcx, rfl⟩, st', fun b hb => (hf b hb).1⟩⟩
  done := by
    intro X hP hw hK hc i pins s σ H E I hf st hg
    subst hP hw hK
    obtain ⟨f0, f1, f2, f3, f4, f5⟩ := hf it (by simp)
    have hg' : i = x.cps.size := hg
    subst hg'
    exact (W X.A (I.ok.hd hc)).done s _ E st fun h' tk hk => ⟨rfl, I.turned (t' := tk) (fun b o hb e => hk b o (by simpa using hb) e) f0 f1 f3 f4 f5⟩
  self := fun A i s Q E st h => hself A i s Q E st h
def iStr (tl : TE) : TI := fun σ H R => tl σ H fun x H1 => ∃ z, x = .str z ∧ R (Its z) H1
theorem pi_str {X : Cx} {tg l : Expr} {tl : TE} (hl : PE X l tl) : PI X tg l (iStr tl) := by
  intro pins s σ H R I h
  refine thn (hl pins s σ H _ I h) fun v s1 ⟨x, H1, I1, r1, z, ex, q⟩ => ?_
  subst ex
  obtain ⟨t, rfl⟩ := r1
  have hn : H1 s1.heap.objs.size = none := I1.hok.fresh (Nat.le_refl _)
  have hfp : ∀ b ∈ [s1.heap.objs.size], FpOk X pins H1 b := fun b hb => by
    have e : b = s1.heap.objs.size := by simpa using hb
    subst e
    exact I1.fpOk (Nat.le_refl _) hn
  cases ha : z.cps.all (· < 128)
  · refine wpAny_pyIter_wide ha ?_
    exact ⟨s1.heap.objs.size, [s1.heap.objs.size], _, Its z, H1, rfl, I1.kept (t' := s1.toks) (fun b u e => Heap.get?_push_of_some _ e), turn_str (T := "str_iterator") (t := t) (by decide) (fun A' hA => Walks.strWide hA _ z t) (fun A i s Q E st hQ => wpAny_pyIter_striter_wide st hQ),
      ⟨_, Heap.get?_push_size _ rfl, rfl, rfl⟩, hfp, q⟩
  · refine wpAny_pyIter_ascii ha ?_
    exact ⟨s1.heap.objs.size, [s1.heap.objs.size], _, Its z, H1, rfl, I1.kept (t' := s1.toks) (fun b u e => Heap.get?_push_of_some _ e), turn_str (T := "str_ascii_iterator") (t := t) (by decide) (fun A' hA => Walks.strAscii hA _ z t) (fun A i s Q E st hQ => wpAny_pyIter_striter_ascii st hQ),
      ⟨_, Heap.get?_push_size _ rfl, rfl, rfl⟩, hfp, q⟩
/-- for c in text -/
theorem for_str {z : Str} {g : TG} {tb : TS} {D : Ends} {σ : St} {H : Hp} (Pv : Nat → St → Hp → Prop) (h0 : Pv 0 σ H)
    (hs : ∀ i c σ H, z.cps[i]? = some c → Pv i σ H → g (.str ⟨#[c]⟩) σ H fun σ2 H2 => tb { D with nx := Pv (i + 1), ct := Pv (i + 1), bk := D.nx } σ2 H2) (hd : ∀ σ H, Pv z.cps.size σ H → D.nx σ H) :
    ∃ W : Nat → Nat → St → Hp → Prop, (∃ m, W 0 m σ H) ∧ ∀ i m σ H, W i m σ H →
      ((Its z).stop i H ∧ D.nx σ H) ∨ ((Its z).go i H ∧ ∃ N : St → Hp → Prop, (∀ σ' H', N σ' H' → ∃ m', m' < m ∧ W (i + 1) m' σ' H') ∧ ∀ x H', (Its z).yld i H x H' → g x σ H' fun σ2 H2 => tb { D with nx := N, ct := N, bk := D.nx } σ2 H2) := by
  refine ⟨fun i m σ H => m = z.cps.size - i ∧ i ≤ z.cps.size ∧ Pv i σ H, ⟨z.cps.size, by simp, Nat.zero_le _, h0⟩, ?_⟩
  rintro i m σ H ⟨rfl, hi, p⟩
  by_cases hlt : i < z.cps.size
  · refine .inr ⟨hlt, Pv (i + 1), fun σ' H' p' => ⟨z.cps.size - (i + 1), by omega, rfl, hlt, p'⟩, fun x H' y => ?_⟩
    obtain ⟨e, c, hc, rfl⟩ := y
    subst e
    exact hs i c σ _ hc p
  · have e : i = z.cps.size := by omega
    subst e
    exact .inl ⟨rfl, hd σ H p⟩

/-! ### comprehensions by an invariant over the turn -/
section
variable {S : V → St} {tt : TT} {te : TE} {H : Hp} {Fin : List V → Hp → Prop}
theorem comp_range {lo : Int} {n : Nat} (Pv : Nat → List V → Hp → Prop) (h0 : Pv 0 [] H) (hz : ∀ i ys H, i < n → Pv i ys H → ys.length < sizeLine)
    (hs : ∀ i ys H, i < n → Pv i ys H → tt (S (.int (lo + i))) H fun b H2 => if b = true then te (S (.int (lo + i))) H2 fun y H3 => Pv (i + 1) (ys ++ [y]) H3 else Pv (i + 1) ys H2)
    (hd : ∀ ys H, Pv n ys H → Fin ys H) : CompW (Itr lo n) S tt te H Fin := by
  refine ⟨fun i m ys H => m = n - i ∧ i ≤ n ∧ Pv i ys H, ⟨n, by simp, Nat.zero_le _, h0⟩, ?_⟩
  rintro i m ys H ⟨rfl, hi, p⟩
  by_cases hlt : i < n
  · refine .inr ⟨hlt, hz i ys H hlt p, Pv (i + 1), fun ys' H' p' => ⟨n - (i + 1), by omega, rfl, hlt, p'⟩, fun x H' y => ?_⟩
    obtain ⟨e, y⟩ := y
    subst e y
    exact hs i ys _ hlt p
  · have e : i = n := by omega
    subst e
    exact .inl ⟨Nat.le_refl _, hd ys H p⟩
theorem comp_list {K : PySem.W.Frag} {a : Addr} {xs : List V} (Pv : Nat → List V → Hp → Prop) (h0 : Pv 0 [] H) (hl : ∀ i ys H, i ≤ xs.length → Pv i ys H → SqL K H a xs) (hz : ∀ i ys H, i < xs.length → Pv i ys H → ys.length < sizeLine)
    (hs : ∀ i x ys H, xs[i]? = some x → Pv i ys H → tt (S x) H fun b H2 => if b = true then te (S x) H2 fun y H3 => Pv (i + 1) (ys ++ [y]) H3 else Pv (i + 1) ys H2)
    (hd : ∀ ys H, Pv xs.length ys H → Fin ys H) : CompW (Itl K a) S tt te H Fin := by
  refine ⟨fun i m ys H => m = xs.length - i ∧ i ≤ xs.length ∧ Pv i ys H, ⟨xs.length, by simp, Nat.zero_le _, h0⟩, ?_⟩
  rintro i m ys H ⟨rfl, hi, p⟩
  have q := hl i ys H hi p
  by_cases hlt : i < xs.length
  · refine .inr ⟨⟨xs, xs[i], q, by simp [hlt]⟩, hz i ys H hlt p, Pv (i + 1), fun ys' H' p' => ⟨xs.length - (i + 1), by omega, rfl, hlt, p'⟩, fun x H' y => ?_⟩
    obtain ⟨e, y⟩ := y
    subst e
    exact hs i x ys _ (y xs q) p
  · have e : i = xs.length := by omega
    subst e
    exact .inl ⟨⟨xs, q, Nat.le_refl _⟩, hd ys H p⟩
theorem comp_tup {K : PySem.W.Frag} {a : Addr} {xs : List V} (Pv : Nat → List V → Hp → Prop) (h0 : Pv 0 [] H) (hl : ∀ i ys H, i ≤ xs.length → Pv i ys H → SqT K H a xs) (hz : ∀ i ys H, i < xs.length → Pv i ys H → ys.length < sizeLine)
    (hs : ∀ i x ys H, xs[i]? = some x → Pv i ys H → tt (S x) H fun b H2 => if b = true then te (S x) H2 fun y H3 => Pv (i + 1) (ys ++ [y]) H3 else Pv (i + 1) ys H2)
    (hd : ∀ ys H, Pv xs.length ys H → Fin ys H) : CompW (Itt K a) S tt te H Fin := by
  refine ⟨fun i m ys H => m = xs.length - i ∧ i ≤ xs.length ∧ Pv i ys H, ⟨xs.length, by simp, Nat.zero_le _, h0⟩, ?_⟩
  rintro i m ys H ⟨rfl, hi, p⟩
  have q := hl i ys H hi p
  by_cases hlt : i < xs.length
  · refine .inr ⟨⟨xs, xs[i], q, by simp [hlt]⟩, hz i ys H hlt p, Pv (i + 1), fun ys' H' p' => ⟨xs.length - (i + 1), by omega, rfl, hlt, p'⟩, fun x H' y => ?_⟩
    obtain ⟨e, y⟩ := y
    subst e
    exact hs i x ys _ (y xs q) p
  · have e : i = xs.length := by omega
    subst e
    exact .inl ⟨⟨xs, q, Nat.le_refl _⟩, hd ys H p⟩
theorem comp_str {z : Str} (Pv : Nat → List V → Hp → Prop) (h0 : Pv 0 [] H) (hz : ∀ i ys H, i < z.cps.size → Pv i ys H → ys.length < sizeLine)
    (hs : ∀ i c ys H, z.cps[i]? = some c → Pv i ys H → tt (S (.str ⟨#[c]⟩)) H fun b H2 => if b = true then te (S (.str ⟨#[c]⟩)) H2 fun y H3 => Pv (i + 1) (ys ++ [y]) H3 else Pv (i + 1) ys H2)
    (hd : ∀ ys H, Pv z.cps.size ys H → Fin ys H) : CompW (Its z) S tt te H Fin := by
  refine ⟨fun i m ys H => m = z.cps.size - i ∧ i ≤ z.cps.size ∧ Pv i ys H, ⟨z.cps.size, by simp, Nat.zero_le _, h0⟩, ?_⟩
  rintro i m ys H ⟨rfl, hi, p⟩
  by_cases hlt : i < z.cps.size
  · refine .inr ⟨hlt, hz i ys H hlt p, Pv (i + 1), fun ys' H' p' => ⟨z.cps.size - (i + 1), by omega, rfl, hlt, p'⟩, fun x H' y => ?_⟩
    obtain ⟨e, c, hc, rfl⟩ := y
    subst e
    exact hs i c ys _ hc p
  · have e : i = z.cps.size := by omega
    subst e
    exact .inl ⟨rfl, hd ys H p⟩
end

/-! ### a slice of a text -/
/-! ### a dict of the top, its keys texts -/
structure TopD (w : World) (K : PySem.W.Frag) (a : Addr) (kvs : List (Str × V)) : Prop where
  ex : ∃ es n, K.lookup a = some ⟨.type "dict", none, .dict es n, #[]⟩ ∧ PySem.W.KeysLit w.params es.toList ∧ Paired (fun (p : Str × V) (e : DictEntry) => (∃ t, e.key = .str p.1 t) ∧ RelV p.2 e.val) kvs es.toList
  lo : (a == sysModules) = false
theorem top_find {x : Str} : ∀ {kvs : List (Str × V)} {l : List DictEntry}, Paired (fun (p : Str × V) (e : DictEntry) => (∃ t, e.key = .str p.1 t) ∧ RelV p.2 e.val) kvs l →
    RelO (kvs.lookup x) ((l.find? fun e => Value.isStrOf x e.key).map (·.val))
  | _, _, .nil => trivial
  | (k, v) :: kvs, e :: l, .cons ⟨⟨t, ek⟩, rv⟩ r => by
    rw [List.lookup_cons, List.find?_cons]
    have hk : Value.isStrOf x e.key = (x == k) := by
      rw [ek]
      show (k == x) = (x == k)
      by_cases hx : x = k
      · subst hx; rfl
      · have h1 : (x == k) = false := by simpa using hx
        have h2 : (k == x) = false := by simpa using fun z => hx (Eq.symm z)
        rw [h1, h2]
    rw [hk]
    cases hx : x == k with
    | true => exact rv
    | false => exact top_find r
theorem TopD.find {w : World} {K : PySem.W.Frag} {a : Addr} {kvs : List (Str × V)} (D : TopD w K a kvs) (x : Str) : ∃ es n, K.lookup a = some ⟨.type "dict", none, .dict es n, #[]⟩ ∧ PySem.W.KeysLit w.params es.toList ∧ RelO (kvs.lookup x) (findBy Value.isStrOf es x) := by
  obtain ⟨es, n, h1, h2, h3⟩ := D.ex
  refine ⟨es, n, h1, h2, ?_⟩
  have q := top_find (x := x) h3
  unfold findBy
  rw [← Array.find?_toList]
  exact q
section
variable {X : Cx} {a : Addr} {kvs : List (Str × V)}
theorem op_in_top (D : TopD X.w X.K a kvs) : OpR X (compareOp .In) (fun x y H Q => ∃ z, x = .str z ∧ y = .ref a ∧ Q (.bl (kvs.lookup z).isSome) H) := by
  intro pins s σ H x y v u Q I rx ry h
  obtain ⟨z, rfl, rfl, q⟩ := h
  obtain ⟨t, rfl⟩ := rx
  cases ry
  obtain ⟨es, n, h1, h2, h3⟩ := D.find z
  refine wpAny_in_of (strKind_is _ _ z t) D.lo (PySem.W.mapOf_K (prog := X.prog) I.kIn h1 h2) ?_
  have e : (kvs.lookup z).isSome = (findBy Value.isStrOf es z).isSome := h3.isSome_eq
  rw [← e]
  exact ⟨.bl _, H, I.tok _, rfl, q⟩
theorem ix_top (D : TopD X.w X.K a kvs) : IxR X (fun x y H Q => ∃ z v, x = .ref a ∧ y = .str z ∧ kvs.lookup z = some v ∧ Q v H) := by
  intro value slice pins s σ H x y v u Q I rx ry h hs
  obtain ⟨z, r, rfl, rfl, hz, q⟩ := h
  cases rx
  obtain ⟨t, rfl⟩ := ry
  obtain ⟨es, n, h1, h2, h3⟩ := D.find z
  rw [hz] at h3
  obtain ⟨u, hu, ru⟩ := RelO.some_of h3
  have hm := PySem.W.mapOf_K (prog := X.prog) (w := X.w) I.kIn h1 h2
  exact tail_any hm.typeIs slot_dict_getitem.lookup (wpAny_getItem_of (strKind_is _ _ z t) hm hu ⟨r, H, I.tok _, ru, q⟩) hs
end

/-! ### a display of constants, at once -/
def constV : Expr → Option V
  | .Constant (.str x) _ _ => some (.str x)
  | .Constant (.int i) _ _ => some (.int i)
  | .Constant (.bool b) _ _ => some (.bl b)
  | .Constant .none _ _ => some .non
  | _ => none
def constsV : List Expr → Option (List V)
  | [] => some []
  | e :: r => match constV e, constsV r with
    | some v, some vs => some (v :: vs)
    | _, _ => none
def tVals (vs : List V) : TA := fun _ H Q => Q vs H
theorem pa_consts {X : Cx} : ∀ {es : List Expr} {vs : List V}, constsV es = some vs → PA X es (tVals vs)
  | [], vs, h => by
    cases h
    exact pa_nil
  | e :: r, vs, h => by
    unfold constsV at h
    cases he : constV e with
    | none => rw [he] at h; cases h
    | some v =>
      cases hr : constsV r with
      | none => rw [he, hr] at h; cases h
      | some ws =>
        rw [he, hr] at h
        have h' : v :: ws = vs := Option.some.inj h
        subst h'
        have ih := pa_consts (X := X) hr
        unfold constV at he
        split at he
        · cases he
          exact pa_cons (te := tC (.str _)) pe_str ih
        · cases he
          exact pa_cons (te := tC (.int _)) pe_int ih
        · cases he
          exact pa_cons (te := tC (.bl _)) pe_bl ih
        · cases he
          exact pa_cons (te := tC .non) pe_non ih
        · cases he

/-! ### a long display of constants: kept folded, so that no look at a goal runs it -/
@[irreducible] def bigL (es : List Expr) (pos : Pos) : Expr := .List es pos
@[irreducible] def bigT (es : List Expr) (k : Nat) (pos : Pos) : Expr := .Tuple es k pos
theorem bigL_eq (a b c d e : Expr) (es : List Expr) (pos : Pos) : Expr.List (a :: b :: c :: d :: e :: es) pos = bigL (a :: b :: c :: d :: e :: es) pos := by unfold bigL; rfl
theorem bigT_eq (a b c d e : Expr) (es : List Expr) (k : Nat) (pos : Pos) : Expr.Tuple (a :: b :: c :: d :: e :: es) k pos = bigT (a :: b :: c :: d :: e :: es) k pos := by unfold bigT; rfl
theorem pe_consts {X : Cx} {es : List Expr} {vs : List V} (h : constsV es = some vs) (pos : Pos) : PE X (.List es pos) (tLst (tVals vs)) := pe_lst (pa_consts h)
theorem pe_bigL {X : Cx} {es : List Expr} {vs : List V} {pos : Pos} (h : constsV es = some vs) : PE X (bigL es pos) (tLst (tVals vs)) := by
  unfold bigL
  exact pe_consts h pos
end L2

set_option Elab.async false
set_option linter.all false
set_option maxRecDepth 100000
/-! Equality of things built of lists and tuples, by what they read as. -/
namespace L2
open PySem PySem.Spec PyProof.Rows PySem.SeqAt

section
variable {K : PySem.W.Frag} {H H' : Hp}
end

section
variable {X : Cx} {pins : List (Addr × Obj)} {σ : St} {H : Hp} {s : Shared}
end
end L2

set_option Elab.async false
set_option linter.all false
set_option maxRecDepth 100000
/-! The rules that speak of the module's objects, for a context within another: these are the same there. -/
namespace L2
open PySem PySem.Spec PyProof.Rows
section
variable {X : Cx} {K : PySem.W.Frag} (h : X.K = K)
include h
theorem ix_tupK : IxR X (rIxT K) := by subst h; exact ix_tup
end
end L2

set_option Elab.async false
set_option linter.all false
set_option maxRecDepth 100000
/-! Works as the laws build them, lists of tuples of two numbers, rows of drawn numbers. -/
namespace L2
open PySem PySem.Spec
theorem same_new {H : Hp} {p : Addr} (h : H p = none) (o : HO) : Same H (upd H p o) := fun b u q => by rw [upd_ne (ne_of_none q h)]; exact q
/-- what came since is changed -/
theorem sameUpd {H H' : Hp} {p : Addr} (s : Same H H') (n : H p = none) (o : HO) : Same H (upd H' p o) := fun b u q => by rw [upd_ne (ne_of_none q n)]; exact s b u q
theorem small {n : Nat} (h : n ≤ 100000) : n ≤ sizeLine := Nat.le_trans h (by decide)
theorem smallL {n : Nat} (h : n ≤ 100000) : n < sizeLine := Nat.lt_of_le_of_lt h (by decide)
/-- rows of drawn numbers -/
def Drawn (rs : List Int) : Prop := ∀ r ∈ rs, 0 ≤ r ∧ r < 1000000
theorem cut_from {xs : List V} {n : Nat} (h : n ≤ xs.length) : cutV xs (some (n : Int)) none = xs.drop n := by
  unfold cutV
  rw [HT.sIx_nat, HT.sIx_none, Nat.min_eq_left h, List.take_of_length_le (by rw [List.length_drop]; omega)]
theorem cut_to {xs : List V} {n : Nat} (h : n ≤ xs.length) : cutV xs none (some (n : Int)) = xs.take n := by
  unfold cutV
  rw [HT.sIx_nat, HT.sIx_none, Nat.min_eq_left h, List.drop_zero, Nat.sub_zero]
theorem ite_f {c : Bool} {A B : Prop} (h : c = false) (q : B) : if c = true then A else B := by rw [h]; exact q
theorem ite_t {c : Bool} {A B : Prop} (h : c = true) (q : A) : if c = true then A else B := by rw [h]; exact q
end L2

set_option Elab.async false
set_option linter.all false
set_option maxRecDepth 100000
/-! Comprehensions that tell a value for each thing, and the bits of a work's knots and ends. -/
namespace L2
open PySem PySem.Spec
section
variable {K : PySem.W.Frag} {a : Addr} {S : V → St} {te : TE} {H : Hp} {Fin : List V → Hp → Prop}
end
/-! ### bits -/
def fl (h : Int) (xs : List Int) : List Int := xs.flatMap fun n => [n, Builtin.bitXor h n]
def estep (h : Int) (E : List Int) (g : Int × Int) : List Int := E ++ [Builtin.bitAnd (E.getD g.1.toNat 0) (E.getD g.2.toNat 0), Builtin.bitXor h (Builtin.bitAnd (E.getD g.1.toNat 0) (E.getD g.2.toNat 0))]
/-- what the ends have, by the numbers of ins and boxes -/
def eL (h : Int) (xs : List Int) (gs : List (Int × Int)) : List Int := gs.foldl (estep h) ([0, h] ++ fl h xs)
end L2
namespace L2
open PySem PySem.Spec
end L2

set_option Elab.async false
set_option linter.all false
set_option maxRecDepth 100000
/-! Any thing, by what it reads as. -/
namespace L2
open PySem PySem.Spec PyProof.Rows
section
variable {X : Cx}
theorem op_isnotB : OpR X (compareOp .IsNot) (fun x y H Q => ∃ k b, y = .bl k ∧ x = .bl b ∧ Q (.bl (!decide (b = k))) H) := by
  intro pins s σ H x y v u Q I rx ry h
  obtain ⟨k, b, rfl, rfl, q⟩ := h
  cases ry
  cases rx
  refine wpAny_isNot_plain rfl ?_
  refine ⟨.bl _, H, I, rfl, ?_⟩
  cases k <;> cases b <;> exact q
end
mutual
/-- a value reads as a thing, all of it in the heap -/
def Dat (H : Hp) : PyData → V → Prop
  | .none, v => v = .non
  | .bool b, v => v = .bl b
  | .int i, v => v = .int i
  | .str x, v => v = .str x
  | .list ds, v => ∃ p xs, v = .ref p ∧ H p = some (.lst xs) ∧ Dats H ds xs
  | .tuple ds, v => ∃ p xs, v = .ref p ∧ H p = some (.tup xs) ∧ Dats H ds xs
  | .dict _, _ => False
def Dats (H : Hp) : List PyData → List V → Prop
  | [], xs => xs = []
  | d :: ds, xs => ∃ x r, xs = x :: r ∧ Dat H d x ∧ Dats H ds r
end
section
variable {H H' : Hp}
mutual
theorem Dat.same (e : Same H H') : ∀ {d : PyData} {v : V}, Dat H d v → Dat H' d v
  | .none, _, h => by unfold Dat at *; exact h
  | .bool _, _, h => by unfold Dat at *; exact h
  | .int _, _, h => by unfold Dat at *; exact h
  | .str _, _, h => by unfold Dat at *; exact h
  | .list ds, _, h => by
    unfold Dat at *
    obtain ⟨p, xs, h1, h2, h3⟩ := h
    exact ⟨p, xs, h1, e _ _ h2, Dats.same e h3⟩
  | .tuple ds, _, h => by
    unfold Dat at *
    obtain ⟨p, xs, h1, h2, h3⟩ := h
    exact ⟨p, xs, h1, e _ _ h2, Dats.same e h3⟩
  | .dict _, _, h => by unfold Dat at h; exact h.elim
theorem Dats.same (e : Same H H') : ∀ {ds : List PyData} {xs : List V}, Dats H ds xs → Dats H' ds xs
  | [], _, h => by unfold Dats at *; exact h
  | d :: ds, _, h => by
    unfold Dats at *
    obtain ⟨x, r, h1, h2, h3⟩ := h
    exact ⟨x, r, h1, Dat.same e h2, Dats.same e h3⟩
end
theorem Dat.int (i : Int) : Dat H (.int i) (.int i) := by unfold Dat; rfl
theorem Dat.bl (b : Bool) : Dat H (.bool b) (.bl b) := by unfold Dat; rfl
theorem Dat.non : Dat H .none .non := by unfold Dat; rfl
theorem Dat.str (x : Str) : Dat H (.str x) (.str x) := by unfold Dat; rfl
theorem Dat.lst {ds : List PyData} {p : Addr} {xs : List V} (h : H p = some (.lst xs)) (r : Dats H ds xs) : Dat H (.list ds) (.ref p) := by unfold Dat; exact ⟨p, xs, rfl, h, r⟩
theorem Dat.tup {ds : List PyData} {p : Addr} {xs : List V} (h : H p = some (.tup xs)) (r : Dats H ds xs) : Dat H (.tuple ds) (.ref p) := by unfold Dat; exact ⟨p, xs, rfl, h, r⟩
theorem Dats.nil : Dats H [] [] := by unfold Dats; rfl
theorem Dats.cons {d : PyData} {ds : List PyData} {x : V} {xs : List V} (h : Dat H d x) (r : Dats H ds xs) : Dats H (d :: ds) (x :: xs) := by unfold Dats; exact ⟨x, xs, rfl, h, r⟩
theorem Dats.ints (ns : List Int) : Dats H (ns.map PyData.int) (ns.map V.int) := by
  induction ns with
  | nil => exact .nil
  | cons n r ih => exact .cons (.int n) ih
theorem Dats.length {ds : List PyData} {xs : List V} (a : Dats H ds xs) : ds.length = xs.length := by
  induction ds generalizing xs with
  | nil => unfold Dats at a; subst a; rfl
  | cons d r ih =>
    unfold Dats at a
    obtain ⟨x, q, rfl, h1, h2⟩ := a
    simp [ih h2]
theorem Dats.get {ds : List PyData} {xs : List V} (a : Dats H ds xs) {i : Nat} {x : V} (h : xs[i]? = some x) : ∃ d, ds[i]? = some d ∧ Dat H d x := by
  induction ds generalizing xs i with
  | nil => unfold Dats at a; subst a; simp at h
  | cons d r ih =>
    unfold Dats at a
    obtain ⟨y, q, rfl, h1, h2⟩ := a
    cases i with
    | zero => simp at h; subst h; exact ⟨d, rfl, h1⟩
    | succ k => exact ih h2 (by simpa using h)
theorem Dats.append {ds es : List PyData} {xs ys : List V} (a : Dats H ds xs) (b : Dats H es ys) : Dats H (ds ++ es) (xs ++ ys) := by
  induction ds generalizing xs with
  | nil => unfold Dats at a; subst a; exact b
  | cons d r ih =>
    unfold Dats at a
    obtain ⟨x, q, rfl, h1, h2⟩ := a
    exact .cons h1 (ih h2)
theorem Dats.take {ds : List PyData} {xs : List V} (a : Dats H ds xs) (n : Nat) : Dats H (ds.take n) (xs.take n) := by
  induction ds generalizing xs n with
  | nil => unfold Dats at a; subst a; simp; exact .nil
  | cons d r ih =>
    unfold Dats at a
    obtain ⟨x, q, rfl, h1, h2⟩ := a
    cases n with
    | zero => exact .nil
    | succ n => exact .cons h1 (ih h2 n)
theorem Dats.drop {ds : List PyData} {xs : List V} (a : Dats H ds xs) (n : Nat) : Dats H (ds.drop n) (xs.drop n) := by
  induction ds generalizing xs n with
  | nil => unfold Dats at a; subst a; simp; exact .nil
  | cons d r ih =>
    cases n with
    | zero => exact a
    | succ n =>
      unfold Dats at a
      obtain ⟨x, q, rfl, h1, h2⟩ := a
      exact ih h2 n
end
/-! ### kinds -/
def dInt : PyData → Bool
  | .int _ => true | .bool _ => true | _ => false
def dBool : PyData → Bool
  | .bool _ => true | _ => false
def dStr : PyData → Bool
  | .str _ => true | _ => false
def dTup : PyData → Bool
  | .tuple _ => true | _ => false
def dLst : PyData → Bool
  | .list _ => true | _ => false
theorem Dat.ty {K : PySem.W.Frag} {H : Hp} {d : PyData} {v : V} (h : Dat H d v) : ∃ t, TyOf K H v t ∧ PySem.W.kitOne K t (.type "int") = some (dInt d) ∧ PySem.W.kitOne K t (.type "bool") = some (dBool d) ∧ PySem.W.kitOne K t (.type "str") = some (dStr d) ∧ PySem.W.kitOne K t (.type "tuple") = some (dTup d) ∧ PySem.W.kitOne K t (.type "list") = some (dLst d) := by
  cases d with
  | none => unfold Dat at h; subst h; exact ⟨_, .non, rfl, rfl, rfl, rfl, rfl⟩
  | bool b => unfold Dat at h; subst h; exact ⟨_, .bl b, rfl, rfl, rfl, rfl, rfl⟩
  | int b => unfold Dat at h; subst h; exact ⟨_, .int b, rfl, rfl, rfl, rfl, rfl⟩
  | str b => unfold Dat at h; subst h; exact ⟨_, .str b, rfl, rfl, rfl, rfl, rfl⟩
  | list ds =>
    unfold Dat at h
    obtain ⟨p, xs, rfl, h2, _⟩ := h
    exact ⟨_, .lst h2, rfl, rfl, rfl, rfl, rfl⟩
  | tuple ds =>
    unfold Dat at h
    obtain ⟨p, xs, rfl, h2, _⟩ := h
    exact ⟨_, .tup h2, rfl, rfl, rfl, rfl, rfl⟩
  | dict _ => unfold Dat at h; exact h.elim
def wholeD : PyData → Bool
  | .int _ => true | _ => false
theorem wholeD_eq (d : PyData) : (dInt d && !dBool d) = wholeD d := by cases d <;> rfl
def betD (d : PyData) (lo hi : Int) : Bool := match d with
  | .int i => decide (lo ≤ i) && decide (i ≤ hi)
  | _ => false
def sp_whole : Sp := fun vs H Q _ => ∃ d v, vs = [v] ∧ Dat H d v ∧ Q (.bl (wholeD d)) H
def sp_between : Sp := fun vs H Q _ => ∃ d v lo hi, vs = [v, .int lo, .int hi] ∧ Dat H d v ∧ Q (.bl (betD d lo hi)) H
section
variable {K : PySem.W.Frag} {a : Addr} {S : V → St} {te : TE} {H : Hp} {Fin : List V → Hp → Prop}
/-- a truth for each thing of a list -/
theorem comp_dat {ds : List PyData} {xs : List V} (f : PyData → V) (hp : H a = some (.lst xs)) (hD : Dats H ds xs) (hz : ds.length ≤ 100000) (hs : ∀ d x, d ∈ ds → Dat H d x → ∀ N : V → Hp → Prop, N (f d) H → te (S x) H N) (hd : Fin (ds.map f) H) : CompW (Itl K a) S tYes te H Fin := by
  have hl := hD.length
  refine comp_list (xs := xs) (fun i ys H' => ys = (ds.take i).map f ∧ H = H') ⟨rfl, rfl⟩ ?_ ?_ ?_ ?_
  · rintro i ys H' _ ⟨_, rfl⟩
    exact SqL.of hp
  · rintro i ys H' hi ⟨rfl, _⟩
    rw [List.length_map, List.length_take]
    exact smallL (by omega)
  · rintro i x ys H' hx ⟨rfl, rfl⟩
    obtain ⟨d, hd1, hd2⟩ := hD.get hx
    obtain ⟨hi, he⟩ := List.getElem?_eq_some_iff.mp hd1
    unfold tYes
    dsimp only
    rw [if_pos rfl]
    refine hs d x (he ▸ List.getElem_mem hi) hd2 _ ⟨?_, rfl⟩
    rw [List.take_succ_eq_append_getElem hi, List.map_append, he]
    rfl
  · rintro ys H' ⟨rfl, rfl⟩
    rw [← hl, List.take_length]
    exact hd
theorem comp_datT {ds : List PyData} {xs : List V} (f : PyData → V) (hp : H a = some (.tup xs)) (hD : Dats H ds xs) (hz : ds.length ≤ 100000) (hs : ∀ d x, d ∈ ds → Dat H d x → ∀ N : V → Hp → Prop, N (f d) H → te (S x) H N) (hd : Fin (ds.map f) H) : CompW (Itt K a) S tYes te H Fin := by
  have hl := hD.length
  refine comp_tup (xs := xs) (fun i ys H' => ys = (ds.take i).map f ∧ H = H') ⟨rfl, rfl⟩ ?_ ?_ ?_ ?_
  · rintro i ys H' _ ⟨_, rfl⟩
    exact SqT.of hp
  · rintro i ys H' hi ⟨rfl, _⟩
    rw [List.length_map, List.length_take]
    exact smallL (by omega)
  · rintro i x ys H' hx ⟨rfl, rfl⟩
    obtain ⟨d, hd1, hd2⟩ := hD.get hx
    obtain ⟨hi, he⟩ := List.getElem?_eq_some_iff.mp hd1
    unfold tYes
    dsimp only
    rw [if_pos rfl]
    refine hs d x (he ▸ List.getElem_mem hi) hd2 _ ⟨?_, rfl⟩
    rw [List.take_succ_eq_append_getElem hi, List.map_append, he]
    rfl
  · rintro ys H' ⟨rfl, rfl⟩
    rw [← hl, List.take_length]
    exact hd
end
/-! ### works -/
theorem Dat.tupI {H : Hp} {ds : List PyData} {v : V} (h : Dat H (.tuple ds) v) : ∃ p xs, v = .ref p ∧ H p = some (.tup xs) ∧ Dats H ds xs := by unfold Dat at h; exact h
theorem Dat.intI {H : Hp} {i : Int} {v : V} (h : Dat H (.int i) v) : v = .int i := by unfold Dat at h; exact h
theorem Dats.consI {H : Hp} {d : PyData} {ds : List PyData} {xs : List V} (h : Dats H (d :: ds) xs) : ∃ x r, xs = x :: r ∧ Dat H d x ∧ Dats H ds r := by unfold Dats at h; exact h
theorem Dats.nilI {H : Hp} {xs : List V} (h : Dats H [] xs) : xs = [] := by unfold Dats at h; exact h
end L2

set_option Elab.async false
set_option linter.all false
set_option maxRecDepth 100000
/-! A bag of digits, and sayings. -/
namespace L2
open PySem PySem.Spec
def Bag (H : Hp) (l : Addr) : Prop := ∃ b0 b1 : Int, H l = some (.lst [.int b0, .int b1]) ∧ 0 ≤ b0
/-- all but the bag stays, the bag is one again -/
def Bg (l : Addr) (H H' : Hp) : Prop := (∀ b o, b ≠ l → H b = some o → H' b = some o) ∧ Bag H' l
theorem Bg.trans {l : Addr} {H H1 H2 : Hp} (a : Bg l H H1) (b : Bg l H1 H2) : Bg l H H2 := ⟨fun c o n e => b.1 c o n (a.1 c o n e), b.2⟩
theorem Bg.refl {l : Addr} {H : Hp} (b : Bag H l) : Bg l H H := ⟨fun _ _ _ e => e, b⟩
theorem Bag.ne {H : Hp} {l p : Addr} (b : Bag H l) (n : H p = none) : p ≠ l := fun e => by
  obtain ⟨_, _, h, _⟩ := b
  rw [e, h] at n; cases n
theorem Bag.neT {H : Hp} {l p : Addr} {xs : List V} (b : Bag H l) (n : H p = some (.tup xs)) : p ≠ l := fun e => by
  obtain ⟨_, _, h, _⟩ := b
  rw [e, h] at n; cases n
theorem Bg.new {l p : Addr} {H : Hp} (b : Bag H l) (n : H p = none) (o : HO) : Bg l H (upd H p o) := by
  refine ⟨fun c u _ e => by rw [upd_ne (ne_of_none e n)]; exact e, ?_⟩
  obtain ⟨b0, b1, h, h0⟩ := b
  exact ⟨b0, b1, by rw [upd_ne (ne_of_none h n)]; exact h, h0⟩
theorem Bg.put {l : Addr} {H : Hp} (b0 b1 : Int) (h0 : 0 ≤ b0) : Bg l H (upd H l (.lst [.int b0, .int b1])) :=
  ⟨fun c u n e => by rw [upd_ne n]; exact e, b0, b1, upd_same, h0⟩
theorem Bag.set {l p : Addr} {H : Hp} (b : Bag H l) (hp : p ≠ l) (o : HO) : Bag (upd H p o) l := by
  obtain ⟨b0, b1, h, h0⟩ := b
  exact ⟨b0, b1, by rw [upd_ne (Ne.symm hp)]; exact h, h0⟩
theorem Bg.set {l p : Addr} {H H' : Hp} (b : Bg l H H') (n : H p = none) (hp : p ≠ l) (o : HO) : Bg l H (upd H' p o) :=
  ⟨fun c u nc e => by rw [upd_ne (ne_of_none e n)]; exact b.1 c u nc e, b.2.set hp o⟩
theorem Bg.same {l : Addr} {H H1 H2 : Hp} (n : H l = none) (a : Same H H1) (b : Bg l H1 H2) : Same H H2 := fun c o e => b.1 c o (ne_of_none e n) (a c o e)
theorem Bag.same {H H' : Hp} {l : Addr} (b : Bag H l) (s : Same H H') : Bg l H H' := by
  obtain ⟨b0, b1, h, h0⟩ := b
  exact ⟨fun c o _ e => s c o e, b0, b1, s _ _ h, h0⟩
theorem at_any {α : Type} {xs : List α} {i : Int} (h0 : 0 ≤ i) (h : i < xs.length) : ∃ v, atI xs i = some v ∧ xs[i.toNat]? = some v := by
  obtain ⟨k, rfl⟩ := Int.eq_ofNat_of_zero_le h0
  have hk : k < xs.length := by omega
  exact ⟨xs[k], atI_nat (List.getElem?_eq_getElem hk), by rw [Int.toNat_natCast]; exact List.getElem?_eq_getElem hk⟩
theorem at_map {ns : List Int} {i : Nat} (h : i < ns.length) : ∃ v : Int, atI (ns.map V.int) (i : Int) = some (.int v) :=
  ⟨ns[i], atI_nat (by rw [List.getElem?_map, List.getElem?_eq_getElem h] <;> rfl)⟩
theorem at_mapI {ns : List Int} {i : Int} (h0 : 0 ≤ i) (h : i < ns.length) : ∃ v : Int, atI (ns.map V.int) i = some (.int v) := by
  obtain ⟨k, rfl⟩ := Int.eq_ofNat_of_zero_le h0
  exact at_map (by omega)
def sp_L_bag (K : PySem.W.Frag) : Sp := fun vs H Q _ => ∃ (a : Addr) (ns : List Int) (i : Int), vs = [.ref a, .int i] ∧ SqL K H a (ns.map V.int) ∧ ns.length ≤ 63 ∧ 0 ≤ i ∧ ∀ l b0 b1, H l = none → (0 : Int) ≤ b0 → Q (.ref l) (upd H l (.lst [.int b0, .int b1]))
def sp_L_take : Sp := fun vs H Q _ => ∃ (l : Addr) (many : Int), vs = [.ref l, .int many] ∧ Bag H l ∧ 0 < many ∧ many < bigB ∧ ∀ d H', 0 ≤ d → d < many → Bg l H H' → Q (.int d) H'
def words : List Str := ["wire", "number", "not", "and", "or", "odd", "sum", "less", "under", "same", "choice", "up", "down", "join", "cut", "table"]
/-! ### sayings -/
def formK (z : Str) : Nat := if z = "wire" then 2 else if z = "number" then 3 else if z = "up" then 2 else if z = "down" then 2 else if z = "cut" then 3 else if z = "table" then 3 else 1
def formN (z : Str) : Nat := if z = "wire" then 2 else if z = "not" then 2 else if z = "choice" then 4 else if z = "cut" then 4 else if z = "table" then 4 else 3
/-! ### things of tuples alone stay where tuples do -/
mutual
def noL : PyData → Bool
  | .list _ => false
  | .tuple ds => noLs ds
  | _ => true
def noLs : List PyData → Bool
  | [] => true
  | d :: ds => noL d && noLs ds
end
def KeepT (H H' : Hp) : Prop := ∀ p xs, H p = some (.tup xs) → H' p = some (.tup xs)
mutual
theorem Dat.keepT {H H' : Hp} (k : KeepT H H') : ∀ {d : PyData} {v : V}, noL d = true → Dat H d v → Dat H' d v
  | .none, _, _, h => by unfold Dat at *; exact h
  | .bool _, _, _, h => by unfold Dat at *; exact h
  | .int _, _, _, h => by unfold Dat at *; exact h
  | .str _, _, _, h => by unfold Dat at *; exact h
  | .list ds, _, n, h => by simp [noL] at n
  | .tuple ds, _, n, h => by
    unfold Dat at *
    obtain ⟨p, xs, h1, h2, h3⟩ := h
    exact ⟨p, xs, h1, k _ _ h2, Dats.keepT k (by simpa [noL] using n) h3⟩
  | .dict _, _, _, h => by unfold Dat at h; exact h.elim
theorem Dats.keepT {H H' : Hp} (k : KeepT H H') : ∀ {ds : List PyData} {xs : List V}, noLs ds = true → Dats H ds xs → Dats H' ds xs
  | [], _, _, h => by unfold Dats at *; exact h
  | d :: ds, _, n, h => by
    have n' : noL d = true ∧ noLs ds = true := by simpa [noLs] using n
    unfold Dats at *
    obtain ⟨x, r, h1, h2, h3⟩ := h
    exact ⟨x, r, h1, Dat.keepT k n'.1 h2, Dats.keepT k n'.2 h3⟩
end
theorem KeepT.same {H H' : Hp} (s : Same H H') : KeepT H H' := fun p xs h => s _ _ h
theorem KeepT.trans {H H1 H2 : Hp} (a : KeepT H H1) (b : KeepT H1 H2) : KeepT H H2 := fun p xs h => b _ _ (a _ _ h)
theorem Bg.keepT {l : Addr} {H H' : Hp} (b : Bag H l) (g : Bg l H H') : KeepT H H' := fun p xs h => g.1 p _ (b.neT h) h
theorem noLs_all {ds : List PyData} (h : ∀ d ∈ ds, noL d = true) : noLs ds = true := by
  induction ds with
  | nil => simp [noLs]
  | cons d r ih => simp [noLs, h d List.mem_cons_self, ih fun e he => h e (List.mem_cons_of_mem _ he)]
theorem pe_comp1 {X : Cx} {scope : Scope} {elt iter : Expr} {x : Str} {px : Pos} {c : Expr} {pos : Pos} {wi : TI} {tt : TT} {te : TE} (capt : List Nat)
    (hx0 : ∀ e s, ¬ X.xe e s) (hc : X.calm = true) (hi : PI X (.Name x px) iter wi)
    (hT : ∀ C s H ex, PT (cxComp X [x] capt scope C s H ex) c tt) (hE : ∀ C s H ex, PE (cxComp X [x] capt scope C s H ex) elt te)
    (hk : compOk scope X.env.scope [x] (capt.map fun j => X.N.getD j "") = true) (hcap : ∀ j ∈ capt, j < X.N.length) (hnd : (x :: capt.map fun j => X.N.getD j "").Nodup)
    (hs : ∀ y, foldedSetIterable iter X.env y = pure y := by intro _; rfl) : PE X (.ListComp elt [⟨.Name x px, iter, [c], 0⟩] scope pos) (tComp capt wi tt te) :=
  pe_comp capt hx0 hc hi (fun C s H ex => pts_one (hT C s H ex)) hE hk hcap hnd hs
theorem pt_truthK {X : Cx} {K : PySem.W.Frag} {a : Expr} {ta : TE} (h : X.K = K) (ha : PE X a ta) (he : ∀ whole, isTrue a X.env whole = (do let v ← whole; standAt a.pos; holding [v] (truthy v))) :
    PT X a (fun σ H Q => ta σ H fun x H' => ∃ k, TruV K x H' k ∧ Q k H') := by subst h; exact pt_truth ha he
end L2

set_option Elab.async false
set_option linter.all false
set_option maxRecDepth 100000
/-! Comprehensions whose own names stand in cells (another comprehension reads them). -/
namespace L2
open PySem PySem.Spec PyProof.Rows
section
variable {X : Cx} {pins : List (Addr × Obj)} {σ : St} {H H2 : Hp} {s s2 : Shared} {xs : List Str} {capt : List Nat} {scope : Scope} {fp : List Addr}
end
end L2

set_option Elab.async false
set_option linter.all false
set_option maxRecDepth 100000
/-! Rows of rows, and runs. -/
namespace L2
open PySem PySem.Spec
end L2

set_option Elab.async false
set_option linter.all false
set_option maxRecDepth 100000
/-! Many runs at once: the lanes of wholes. -/
namespace L2
open PySem PySem.Spec
section
variable {m r : Nat} (hr : r < m)
include hr
end
end L2

set_option Elab.async false
set_option linter.all false
set_option maxRecDepth 100000
/-! dict(d), and two dicts compared. -/
namespace L2
open PySem PySem.Spec PyProof.Rows
variable {X : Cx}
end L2
namespace L2
open PySem PySem.Spec PyProof.Rows
/-- t + u, either may be empty -/
def rCatE : R2 := fun x y H Q => ∃ a b xs ys, x = .ref a ∧ y = .ref b ∧ H a = some (.tup xs) ∧ H b = some (.tup ys) ∧ xs.length + ys.length ≤ sizeLine ∧ ∀ p H', Same H H' → H' p = some (.tup (xs ++ ys)) → Q (.ref p) H'
theorem op_catE {X : Cx} : OpR X (binaryOp .Add) rCatE := by
  intro pins s σ H x y v u Q I rx ry h
  obtain ⟨a, b, xs, ys, rfl, rfl, ha, hb, hz, q⟩ := h
  by_cases he : xs = []
  · subst he
    cases rx
    cases ry
    obtain ⟨its, r1, p1, _⟩ := I.tuple (SqT.of ha)
    obtain ⟨its2, r2, p2, _⟩ := I.tuple (SqT.of hb)
    cases r1
    obtain ⟨⟨cls, dd, data, sl⟩, ho, hc, n, hd⟩ := id p1
    obtain ⟨⟨cls2, dd2, data2, sl2⟩, ho2, hc2, n2, hd2⟩ := id p2
    simp only at hc hd hc2 hd2
    subst hc hd hc2 hd2
    exact concat_meets ⟨_, ho, rfl⟩ ⟨_, ho2, rfl⟩ noFill_tuple_add seq_tuple_add PySem.F.slot_tuple_add PySem.F.entry_tuple_add (PySem.F.args_tuple_add_2 _ _)
      (tuple_addW0 a b _ _ n n2 dd dd2 sl sl2 (by simp)) ⟨ho, ho2, ⟨.ref b, H, I, rfl, q b H (Same.refl H) hb⟩⟩
  · exact op_catT pins s σ H _ _ v u Q I rx ry ⟨a, b, xs, ys, rfl, rfl, SqT.of ha, SqT.of hb, he, hz, fun e => q a H (Same.refl H) (by rw [e, List.append_nil]; exact ha), fun _ p hp => q p _ (same_new hp _) upd_same⟩
end L2

set_option Elab.async false
set_option linter.all false
set_option maxRecDepth 100000
/-! Widths of sayings. -/
namespace L2
open PySem
end L2

set_option Elab.async false
set_option linter.all false
set_option maxRecDepth 100000
/-! Sayings of any thing. -/
namespace L2
open PySem
def letterB (c : Nat) : Bool := decide (97 ≤ c) && decide (c ≤ 122)
def nameD : PyData → Bool
  | .str z => decide (1 ≤ z.length) && decide (z.length ≤ 8) && z.cps.toList.all letterB && !decide (z ∈ words)
  | _ => false
def widD (d : PyData) : Bool := betD d 1 8
def numD (d w : PyData) : Bool := match w with
  | .int k => widD w && betD d 0 (2 ^ k.toNat - 1)
  | _ => false
def numsD (d w : PyData) : Bool := match d with
  | .tuple ds => (decide (ds.length = 2) || decide (ds.length = 4) || decide (ds.length = 8) || decide (ds.length = 16)) && ds.all fun x => numD x w
  | _ => false
def restD (z : Str) (r : List PyData) : Bool :=
  if z = "wire" then nameD (r.getD 0 .none) else if z = "number" then numD (r.getD 0 .none) (r.getD 1 .none) else if z = "up" ∨ z = "down" then betD (r.getD 0 .none) 0 8
  else if z = "cut" then betD (r.getD 0 .none) 0 7 && widD (r.getD 1 .none) else if z = "table" then numsD (r.getD 1 .none) (r.getD 0 .none) else true
def formD : PyData → Bool
  | .tuple (.str z :: r) => decide (z ∈ words) && decide (r.length + 1 = formN z) && restD z r
  | _ => false
def subD : PyData → List PyData
  | .tuple (.str z :: r) => r.drop (formK z - 1)
  | _ => []
/-- the program's walk, level by level -/
def bfs : Nat → List PyData → Nat → Bool
  | _, [], _ => true
  | 0, _ :: _, _ => false
  | n + 1, x :: r, p => decide (p + (x :: r).length ≤ 40) && (x :: r).all formD && bfs n ((x :: r).flatMap subD) (p + (x :: r).length)
/-- the pieces, as the law counts them: none where it is no saying -/
def pcs : Nat → PyData → Nat
  | 0, _ => 0
  | n + 1, d => if formD d && (subD d).all (fun x => decide (0 < pcs n x)) then 1 + ((subD d).map (pcs n)).sum else 0
theorem pcs_pos {n : Nat} {d : PyData} : 0 < pcs (n + 1) d ↔ formD d = true ∧ ∀ x ∈ subD d, 0 < pcs n x := by
  show 0 < (if (formD d && (subD d).all (fun x => decide (0 < pcs n x))) = true then 1 + ((subD d).map (pcs n)).sum else 0) ↔ _
  by_cases h : (formD d && (subD d).all (fun x => decide (0 < pcs n x))) = true
  · rw [if_pos h]
    have h' := Bool.and_eq_true_iff.mp h
    refine ⟨fun _ => ⟨h'.1, fun x hx => of_decide_eq_true (List.all_eq_true.mp h'.2 x hx)⟩, fun _ => by omega⟩
  · rw [if_neg h]
    refine ⟨fun h => absurd h (by omega), fun ⟨h1, h2⟩ => absurd ?_ h⟩
    rw [h1, Bool.true_and]
    exact List.all_eq_true.mpr fun x hx => decide_eq_true (h2 x hx)
theorem pcs_val {n : Nat} {d : PyData} (h : 0 < pcs (n + 1) d) : pcs (n + 1) d = 1 + ((subD d).map (pcs n)).sum := by
  have e : pcs (n + 1) d = if (formD d && (subD d).all (fun x => decide (0 < pcs n x))) = true then 1 + ((subD d).map (pcs n)).sum else 0 := rfl
  rw [e] at h ⊢
  split at h
  · rename_i q; rw [if_pos q]
  · omega
theorem pcs_sum {n : Nat} : ∀ {L : List PyData}, (∀ x ∈ L, 0 < pcs (n + 1) x) → (L.map (pcs (n + 1))).sum = L.length + ((L.flatMap subD).map (pcs n)).sum
  | [], _ => rfl
  | x :: r, h => by
    have ih := pcs_sum (n := n) (L := r) fun y hy => h y (List.mem_cons_of_mem _ hy)
    rw [List.map_cons, List.sum_cons, ih, pcs_val (h x List.mem_cons_self), List.flatMap_cons, List.map_append, List.sum_append, List.length_cons]
    omega
theorem bfs_iff : ∀ {n : Nat} {L : List PyData} {p : Nat}, p ≤ 40 → (bfs n L p = true ↔ (∀ x ∈ L, 0 < pcs n x) ∧ p + (L.map (pcs n)).sum ≤ 40)
  | n, [], p, hp => by
    have : bfs n [] p = true := by cases n <;> rfl
    simp [this]
    exact hp
  | 0, x :: r, p, hp => by
    refine ⟨(fun h => nomatch (show false = true from h)), fun h => ?_⟩
    have := h.1 x List.mem_cons_self
    exact absurd this (by show ¬ 0 < 0; omega)
  | n + 1, x :: r, p, hp => by
    show (decide (p + (x :: r).length ≤ 40) && (x :: r).all formD && bfs n ((x :: r).flatMap subD) (p + (x :: r).length)) = true ↔ _
    rw [Bool.and_eq_true_iff, Bool.and_eq_true_iff]
    constructor
    · rintro ⟨⟨h1, h2⟩, h3⟩
      have h1 := of_decide_eq_true h1
      obtain ⟨q1, q2⟩ := (bfs_iff h1).mp h3
      have good : ∀ y ∈ x :: r, 0 < pcs (n + 1) y := fun y hy => pcs_pos.mpr ⟨List.all_eq_true.mp h2 y hy, fun t ht => q1 t (List.mem_flatMap.mpr ⟨y, hy, ht⟩)⟩
      refine ⟨good, ?_⟩
      rw [pcs_sum good]
      omega
    · rintro ⟨good, hs⟩
      rw [pcs_sum good] at hs
      have h1 : p + (x :: r).length ≤ 40 := by omega
      refine ⟨⟨decide_eq_true h1, List.all_eq_true.mpr fun y hy => (pcs_pos.mp (good y hy)).1⟩, (bfs_iff h1).mpr ⟨fun t ht => ?_, by omega⟩⟩
      obtain ⟨y, hy, ht'⟩ := List.mem_flatMap.mp ht
      exact (pcs_pos.mp (good y hy)).2 t ht'
def sayB (d : PyData) : Bool := decide (0 < pcs 6 d ∧ pcs 6 d ≤ 40)
theorem bfs_say (d : PyData) : bfs 6 [d] 0 = sayB d := by
  have h := bfs_iff (n := 6) (L := [d]) (p := 0) (by decide)
  simp at h
  unfold sayB
  by_cases q : bfs 6 [d] 0 = true
  · rw [q, decide_eq_true (h.mp q)]
  · rw [Bool.eq_false_iff.mpr q, decide_eq_false (fun w => q (h.mpr w))]
/-- texts are short -/
def szD : PyData → Bool
  | .str z => decide (z.length ≤ 100)
  | .tuple ds => decide (ds.length ≤ 100) && szDs ds
  | .list ds => szDs ds
  | _ => true
where szDs : List PyData → Bool
  | [] => true
  | d :: r => szD d && szDs r
theorem szDs_all {ds : List PyData} : szD.szDs ds = true ↔ ∀ d ∈ ds, szD d = true := by
  induction ds with
  | nil => simp [szD.szDs]
  | cons d r ih => simp [szD.szDs, ih]
theorem szD_tup {ds : List PyData} : szD (.tuple ds) = true ↔ ds.length ≤ 100 ∧ ∀ d ∈ ds, szD d = true := by
  simp only [szD, Bool.and_eq_true, decide_eq_true_eq, szDs_all]
def sp_is_word : Sp := fun vs H Q _ => ∃ d v, vs = [v] ∧ Dat H d v ∧ Q (.bl (match d with | .str z => decide (z ∈ words) | _ => false)) H
def sp_is_name : Sp := fun vs H Q _ => ∃ d v, vs = [v] ∧ Dat H d v ∧ szD d = true ∧ ∀ H', Same H H' → Q (.bl (nameD d)) H'
def sp_is_width : Sp := fun vs H Q _ => ∃ d v, vs = [v] ∧ Dat H d v ∧ Q (.bl (widD d)) H
def sp_is_number : Sp := fun vs H Q _ => ∃ d v e u, vs = [v, u] ∧ Dat H d v ∧ Dat H e u ∧ Q (.bl (numD d e)) H
def sp_are_numbers : Sp := fun vs H Q _ => ∃ d v e u, vs = [v, u] ∧ Dat H d v ∧ Dat H e u ∧ ∀ H', Same H H' → Q (.bl (numsD d e)) H'
def sp_formed : Sp := fun vs H Q _ => ∃ d v, vs = [v] ∧ Dat H d v ∧ szD d = true ∧ ∀ H', Same H H' → Q (.bl (formD d)) H'
def sp_subs : Sp := fun vs H Q _ => ∃ (p0 : Addr) (z : Str) (r0 : List V), vs = [.ref p0] ∧ H p0 = some (.tup (.str z :: r0)) ∧ z ∈ words ∧ formK z ≤ r0.length + 1 ∧ ∀ p H', Same H H' → H' p = some (.tup (r0.drop (formK z - 1))) → Q (.ref p) H'
def sp_saying : Sp := fun vs H Q _ => ∃ d v, vs = [v] ∧ Dat H d v ∧ szD d = true ∧ ∀ H', Same H H' → Q (.bl (sayB d)) H'
end L2

set_option Elab.async false
set_option linter.all false
set_option maxRecDepth 100000
namespace L2
open PySem PySem.Spec PyProof.Rows
theorem ext_tup (D T : Addr) (xs ys : Array Value) (k j : Nat) (dd : Option Addr) (sl : Array (Option Value)) (h0 : ¬(!xs.isEmpty && Builtin.List.listTooLong (xs.size + ys.size)) = true) (h1 : xs.size ≤ sizeLine) (h2 : xs.size + ys.size ≤ sizeLine + 1) :
    Meets (Builtin.«list.extend» ⟨[.ref D, .ref T], []⟩) (fun _ R s => s.heap.get? D = some { cls := .type "list", dict := none, data := .seq xs k, slots := #[] } ∧ s.heap.get? T = some { cls := .type "tuple", dict := dd, data := .seq ys j, slots := sl } ∧
      R (.ok (.ret Value.none)) { s with heap := s.heap.update D (Obj.mapSeq fun x => x ++ ys), toks := s.toks }) :=
  .of_wp fun prog w A R s h => by
    obtain ⟨hp, g, d, tk, os⟩ := s
    obtain ⟨hD, hT, h⟩ := h
    have f1 := AutoSeq1.idx_int
    have f2 := AutoSeq1.sub_tuple_tuple
    have f3 := AutoSeq1.sub_list_list
    have f4 := AutoSeq1.sub_tuple_list
    have f5 := AutoSeq1.sub_list_tuple
    have hz' : (xs ++ ys).size ≤ sizeLine + 1 := by rw [Array.size_append]; exact h2
    wp_walk using (wpAny_updateSeq hD rfl (hz := h1) (_hz' := hz')), wpAny_loadPart' hD, wpAny_loadPart' hT
    exact ⟨_, rfl, h⟩
def rExtendT : V → List V → Hp → VK → Prop := fun x vs H Q => ∃ l b xs zs, x = .ref l ∧ vs = [.ref b] ∧ H l = some (.lst xs) ∧ H b = some (.tup zs) ∧ xs.length + zs.length ≤ sizeLine ∧ Q .non (upd H l (.lst (xs ++ zs)))
theorem mt_extendT {X : Cx} : MtM X "list.extend" rExtendT := by
  intro pins s σ H x vs v us Q I rx rv h
  obtain ⟨l, b, xs, zs, rfl, rfl, hH, hB, hz, q⟩ := h
  cases rx
  obtain ⟨u, rfl, ru⟩ := rv.one
  cases ru
  obtain ⟨z, its, n, r, hl, e⟩ := I.lstM hH
  obtain ⟨its2, r2, p2, _⟩ := I.tuple (SqT.of hB)
  have hl2 := r2.length
  obtain ⟨⟨cls, dd, data, sl⟩, ho, hc, n2, hd⟩ := id p2
  simp only at hc hd
  subst hc hd
  have hsz : its.toArray.size + its2.toArray.size ≤ sizeLine := by rw [List.size_toArray, List.size_toArray]; omega
  have hlong : ¬ (!its.toArray.isEmpty && Builtin.List.listTooLong (its.toArray.size + its2.toArray.size)) = true := by
    rw [notLongL hsz, Bool.and_false]; exact Bool.false_ne_true
  refine call_meets PySem.F.slot_list_extend ⟨_, e, rfl⟩ PySem.F.entry_list_extend (PySem.F.args_list_extend_2 _ _)
    (ext_tup l b its.toArray its2.toArray n n2 dd sl hlong (by rw [List.size_toArray]; omega) (by omega)) ⟨e, ho, ?_⟩
  refine ⟨.non, _, I.lset (its' := its ++ its2) hH e (by simp) (r.append r2) ?_, rfl, q⟩
  rw [List.length_append]; omega
end L2
namespace HT
open PySem PyProof.Rows
section
variable {prog : Program} {w : World} {A : Around} {s : Shared} {E : Value → Shared → Prop}
theorem getItem_tuple_whole {t sl : Addr} {items : Array Value} {vl vu : Value} {lo hi : Option Int} {Q : Value → Shared → Prop} (ht : IsTup s.heap t items) (hs : s.heap.IsSliceOf sl vl vu .none) (pl : IsPart vl lo) (pu : IsPart vu hi)
    (hw : sIx items.size 0 lo = 0 ∧ sIx items.size items.size hi = items.size) (h : Q (.ref t) s) : wpAny (model prog w) A (getItem (.ref t) (.ref sl)) Q E s := by
  obtain ⟨os, hos, hcs, hds⟩ := id hs
  have hTs : s.TypeIs (.ref sl) "slice" := ⟨os, hos, hcs⟩
  unfold getItem
  try with_reducible refine wpAny_holding ?_
  first | refine wpAny_bind (wpAny_pure ?_) | skip
  refine wpAny_bind (wpAny_sequenceKey ht.typeIs (by decide) ?_)
  refine wpAny_bind (wpAny_callSpecial?_slot (name := Str.ofString "__getitem__") ht.typeIs PyProof.Rows.slot_tuple_getitem
    (wpAny_call_entry PyProof.Rows.slot_tuple_getitem ht.typeIs entry_tuple_getitem ?_ (args_tuple_getitem _ _)))
  show wpAny _ _ (Builtin.Tuple.tupleItemsOf (.ref t) >>= _) _ _ s
  refine wpAny_bind (tupleItemsOf_ ht ?_)
  refine wpAny_bind (wpAny_typeOf hTs ?_)
  rw [if_pos (by decide)]
  refine wpAny_bind (sliceApplied_gen hs pl pu ?_)
  have hyes : ((((sIx items.size 0 lo : Nat) : Int) == 0 && (1 : Int) == 1 && (sIx items.size items.size hi - sIx items.size 0 lo) == items.size) = true) := by
    rw [hw.1, hw.2]
    simp
  show wpAny _ _ (if (((sIx items.size 0 lo : Nat) : Int) == 0 && (1 : Int) == 1 && (sIx items.size items.size hi - sIx items.size 0 lo) == items.size) = true then _ else _) _ _ s
  rw [if_pos hyes]
  refine wpAny_bind (m := Builtin.Tuple.tupleIsExact _) (wpAny_bind (wpAny_typeOf ht.typeIs (wpAny_pure ?_)))
  rw [if_pos (by decide)]
  exact wpAny_bind (wpAny_rule (wpAny_pure ⟨_, rfl, wpAny_pure h⟩))
end
end HT
namespace L2
open PySem PySem.Spec PyProof.Rows
def rSlE : V → Option Int → Option Int → Hp → VK → Prop := fun x lo hi H Q => ∃ a xs, x = .ref a ∧ H a = some (.tup xs) ∧ ∀ p H', Same H H' → H' p = some (.tup (cutV xs lo hi)) → Q (.ref p) H'
theorem sl_tupE {X : Cx} : SlR X rSlE := by
  intro pins s σ H x v vl vu lo hi sl Q I rx hs pl pu h
  obtain ⟨a, xs, rfl, hx, q⟩ := h
  by_cases hw : HT.sIx xs.length 0 lo = 0 ∧ HT.sIx xs.length xs.length hi = xs.length
  · cases rx
    obtain ⟨its, r, ht, hz⟩ := I.tuple (SqT.of hx)
    have hlen : its.toArray.size = xs.length := by rw [List.size_toArray]; exact r.length.symm
    refine ⟨"tuple", _, PyProof.Rows.slot_tuple_getitem.lookup, ht.typeIs, ?_⟩
    refine HT.getItem_tuple_whole ht hs pl pu (by rw [hlen]; exact hw) ?_
    refine ⟨.ref a, H, I, rfl, q a H (Same.refl H) ?_⟩
    have : cutV xs lo hi = xs := by
      unfold cutV
      rw [hw.1, hw.2]
      simp
    rw [this]
    exact hx
  · exact sl_tup pins s σ H _ v vl vu lo hi sl Q I rx hs pl pu ⟨a, xs, rfl, SqT.of hx, hw, fun p hp => q p _ (same_new hp _) upd_same⟩
end L2

namespace L2
open PySem PySem.Spec PyProof.Rows
/-! ### a display of things that are written out, at once -/
def allSome {α : Type} : List (Option α) → Option (List α)
  | [] => some []
  | some a :: r => (allSome r).map (a :: ·)
  | none :: _ => none
def datE : Nat → Expr → Option PyData
  | 0, _ => none
  | n + 1, e => match e with
    | .Constant (.str x) _ _ => some (.str x)
    | .Constant (.int i) _ _ => some (.int i)
    | .Constant (.bool b) _ _ => some (.bool b)
    | .Constant .none _ _ => some .none
    | .UnaryOp .USub (.Constant (.int i) _ _) _ => some (.int (-i))
    | .BinOp (.Constant (.int i) _ _) .Pow (.Constant (.int j) _ _) _ => if decide (0 ≤ j) && decide (j ≤ 1000) && decide (i.natAbs < 1000) then some (.int (i ^ j.toNat)) else none
    | .Tuple es _ _ => if es.length ≤ 1000 then (allSome (es.map (datE n))).map .tuple else none
    | .List es _ => if es.length ≤ 1000 then (allSome (es.map (datE n))).map .list else none
    | _ => none
/-- the objects of H' that are not of H -/
def newO (H H' : Hp) : Hp := fun a => if H a = none then H' a else none
theorem newO_at {H H' : Hp} {a : Addr} {o : HO} (h : H a = none) (h' : H' a = some o) : newO H H' a = some o := by unfold newO; rw [if_pos h]; exact h'
theorem newO_same {H H1 H2 : Hp} (s : Same H1 H2) : Same (newO H H1) (newO H H2) := fun a o h => by
  unfold newO at *
  by_cases e : H a = none
  · rw [if_pos e] at h ⊢; exact s _ _ h
  · rw [if_neg e] at h; cases h
theorem newO_sub {H H1 H2 : Hp} (s : Same H H1) : Same (newO H1 H2) (newO H H2) := fun a o h => by
  unfold newO at *
  by_cases e : H1 a = none
  · rw [if_pos e] at h
    rw [if_pos (s.free e)]
    exact h
  · rw [if_neg e] at h; cases h
def tDat (d : PyData) : TE := fun _ H Q => ∀ v H', Same H H' → Dat (newO H H') d v → Q v H'
def tDats (ds : List PyData) : TA := fun _ H Q => ∀ xs H', Same H H' → Dats (newO H H') ds xs → Q xs H'
theorem PE.weak {X : Cx} {e : Expr} {t t' : TE} (h : PE X e t) (w : ∀ σ H Q, t' σ H Q → t σ H Q) : PE X e t' := fun pins s σ H Q I q => h pins s σ H Q I (w σ H Q q)
theorem PA.weak {X : Cx} {e : List Expr} {t t' : TA} (h : PA X e t) (w : ∀ σ H Q, t' σ H Q → t σ H Q) : PA X e t' := fun pos pins s σ H Q I q => h pos pins s σ H Q I (w σ H Q q)
theorem datE_star {n : Nat} {e : Expr} {d : PyData} {es : List Expr} {env : Env} (h : datE n e = some d) : starEach (e :: es) env = (false, eval e env) :: starEach es env := by
  cases n with
  | zero => cases h
  | succ n =>
    cases e <;> first | rfl | (exfalso; simp [datE] at h)
theorem pa_datF {X : Cx} {n : Nat} (ih : ∀ {e : Expr} {d : PyData}, datE n e = some d → PE X e (tDat d)) : ∀ {es : List Expr} {ds : List PyData}, allSome (es.map (datE n)) = some ds → PA X es (tDats ds)
  | [], ds, h => by
    have h := Option.some.inj h
    subst h
    exact pa_nil.weak fun σ H Q q => q [] H (Same.refl H) .nil
  | e :: r, ds, h => by
    rw [List.map_cons] at h
    cases he : datE n e with
    | none => rw [he] at h; cases h
    | some d =>
      rw [he] at h
      have h : (allSome (r.map (datE n))).map (d :: ·) = some ds := h
      cases hr : allSome (r.map (datE n)) with
      | none => rw [hr] at h; cases h
      | some dr =>
        rw [hr] at h
        have h := Option.some.inj h
        subst h
        refine (pa_cons (ih he) (pa_datF ih hr) (datE_star he)).weak fun σ H Q q => ?_
        intro v H1 s1 D1 xs H2 s2 D2
        exact q (v :: xs) H2 (s1.trans s2) (.cons (D1.same (newO_same s2)) (D2.same (newO_sub s1)))
theorem allSome_len {α : Type} : ∀ {l : List (Option α)} {r : List α}, allSome l = some r → r.length = l.length
  | [], r, h => by have h := Option.some.inj h; subst h; rfl
  | some a :: l, r, h => by
    have h : (allSome l).map (a :: ·) = some r := h
    cases hl : allSome l with
    | none => rw [hl] at h; cases h
    | some q =>
      rw [hl] at h
      have h := Option.some.inj h
      subst h
      simp [allSome_len hl]
  | none :: l, r, h => by cases h
theorem pe_datF {X : Cx} : ∀ (n : Nat) {e : Expr} {d : PyData}, datE n e = some d → PE X e (tDat d)
  | 0, e, d, h => by cases h
  | n + 1, e, d, h => by
    unfold datE at h
    split at h
    · cases h; exact pe_str.weak fun σ H Q q => q _ H (Same.refl H) (.str _)
    · cases h; exact pe_int.weak fun σ H Q q => q _ H (Same.refl H) (.int _)
    · cases h; exact pe_bl.weak fun σ H Q q => q _ H (Same.refl H) (.bl _)
    · cases h; exact pe_non.weak fun σ H Q q => q _ H (Same.refl H) .non
    · cases h; exact (pe_un un_neg pe_int).weak fun σ H Q q => ⟨_, rfl, q _ H (Same.refl H) (.int _)⟩
    · split at h
      · rename_i hc
        cases h
        rw [Bool.and_eq_true, Bool.and_eq_true, decide_eq_true_eq, decide_eq_true_eq, decide_eq_true_eq] at hc
        exact (pe_op op_pow pe_int pe_int).weak fun σ H Q q => ⟨_, _, rfl, rfl, ⟨hc.1.1, by omega, by omega⟩, q _ H (Same.refl H) (.int _)⟩
      · cases h
    · split at h
      · rename_i es _ _ hl
        cases hr : allSome (es.map (datE n)) with
        | none => rw [hr] at h; cases h
        | some ds =>
          rw [hr] at h
          cases h
          have hlen := allSome_len hr
          rw [List.length_map] at hlen
          refine (pe_tup (pa_datF (fun {e d} h => pe_datF n h) hr)).weak fun σ H Q q => ?_
          intro xs H1 s1 D1
          refine ⟨by rw [← D1.length, hlen]; exact small (by omega), fun p hp => q _ _ (s1.trans (same_new hp _)) (.tup (newO_at (s1.free hp) upd_same) (D1.same (newO_same (same_new hp _))))⟩
      · cases h
    · split at h
      · rename_i es _ hl
        cases hr : allSome (es.map (datE n)) with
        | none => rw [hr] at h; cases h
        | some ds =>
          rw [hr] at h
          cases h
          have hlen := allSome_len hr
          rw [List.length_map] at hlen
          refine (pe_lst (pa_datF (fun {e d} h => pe_datF n h) hr)).weak fun σ H Q q => ?_
          intro xs H1 s1 D1
          refine ⟨by rw [← D1.length, hlen]; exact small (by omega), fun p hp => q _ _ (s1.trans (same_new hp _)) (.lst (newO_at (s1.free hp) upd_same) (D1.same (newO_same (same_new hp _))))⟩
      · cases h
    · cases h
theorem pa_dats {X : Cx} {es : List Expr} {ds : List PyData} (h : allSome (es.map (datE 5)) = some ds) : PA X es (tDats ds) := pa_datF (fun {e d} h => pe_datF 5 h) h
end L2

set_option Elab.async false
set_option linter.all false
set_option maxRecDepth 100000
set_option maxHeartbeats 4000000
namespace K02
open PySem L2
def top (i : Nat) : Stmt := PySem.Challenge.pw_lampforge_k02_sayings_of_any_thing.main.body.getD i (.Pass ⟨0, 0, 0, 0⟩)
abbrev s_is_whole : Stmt := top 4
abbrev s_is_between : Stmt := top 5
abbrev s_is_word : Stmt := top 6
abbrev s_is_name : Stmt := top 7
abbrev s_is_width : Stmt := top 8
abbrev s_two_to : Stmt := top 9
abbrev s_is_number : Stmt := top 10
abbrev s_is_saying : Stmt := top 17
abbrev s_is_formed : Stmt := top 18
abbrev s_are_numbers : Stmt := top 19
abbrev s_sayings_in : Stmt := top 20
abbrev s_L_bag : Stmt := top 22
abbrev s_L_take : Stmt := top 23
abbrev s_L_name : Stmt := top 24
abbrev s_L_rooms : Stmt := top 25
abbrev s_L_any : Stmt := top 26
abbrev s_L_odd : Stmt := top 27
abbrev s_L_spoilt : Stmt := top 28
abbrev s_L_other : Stmt := top 29
abbrev s_L_from : Stmt := top 30
abbrev s_L_is_name : Stmt := top 31
abbrev s_L_begin : Stmt := top 32
abbrev s_L_pieces : Stmt := top 33
abbrev s_L_of_pieces : Stmt := top 34
abbrev s_L_at_bounds : Stmt := top 35
abbrev s_L_truth : Stmt := top 36
abbrev s_law : Stmt := top 37
theorem sc_is_whole : FnScope ["thing"] ["thing"] (defScope s_is_whole) := ⟨rfl, rfl, rfl, by decide +kernel, rfl, by decide +kernel, by decide +kernel⟩
theorem sc_is_between : FnScope ["thing", "low", "high"] ["thing", "low", "high"] (defScope s_is_between) := ⟨rfl, rfl, rfl, by decide +kernel, rfl, by decide +kernel, by decide +kernel⟩
theorem sc_is_word : FnScope ["thing"] ["thing"] (defScope s_is_word) := ⟨rfl, rfl, rfl, by decide +kernel, rfl, by decide +kernel, by decide +kernel⟩
theorem sc_is_name : FnScope ["thing"] ["thing"] (defScope s_is_name) := ⟨rfl, rfl, rfl, by decide +kernel, rfl, by decide +kernel, by decide +kernel⟩
theorem sc_is_width : FnScope ["thing"] ["thing"] (defScope s_is_width) := ⟨rfl, rfl, rfl, by decide +kernel, rfl, by decide +kernel, by decide +kernel⟩
theorem sc_two_to : FnScope ["many", "power", "step"] ["many"] (defScope s_two_to) := ⟨rfl, rfl, rfl, by decide +kernel, rfl, by decide +kernel, by decide +kernel⟩
theorem sc_is_number : FnScope ["thing", "width"] ["thing", "width"] (defScope s_is_number) := ⟨rfl, rfl, rfl, by decide +kernel, rfl, by decide +kernel, by decide +kernel⟩
theorem sc_is_saying : FnScope ["thing", "level", "deep", "pieces", "below", "piece"] ["thing"] (defScope s_is_saying) := ⟨rfl, rfl, rfl, by decide +kernel, rfl, by decide +kernel, by decide +kernel⟩
theorem sc_is_formed : FnScope ["thing", "word"] ["thing"] (defScope s_is_formed) := ⟨rfl, rfl, rfl, by decide +kernel, rfl, by decide +kernel, by decide +kernel⟩
theorem sc_are_numbers : FnScope ["thing", "width"] ["thing", "width"] (defScope s_are_numbers) := ⟨rfl, rfl, rfl, by decide +kernel, rfl, by decide +kernel, by decide +kernel⟩
theorem sc_sayings_in : FnScope ["saying"] ["saying"] (defScope s_sayings_in) := ⟨rfl, rfl, rfl, by decide +kernel, rfl, by decide +kernel, by decide +kernel⟩
theorem sc_L_bag : FnScope ["_law_script", "_law_at", "_law_cell", "_law_mix", "_law_k"] ["_law_script", "_law_at"] (defScope s_L_bag) := ⟨rfl, rfl, rfl, by decide +kernel, rfl, by decide +kernel, by decide +kernel⟩
theorem sc_L_take : FnScope ["_law_bag_here", "_law_many", "_law_digit"] ["_law_bag_here", "_law_many"] (defScope s_L_take) := ⟨rfl, rfl, rfl, by decide +kernel, rfl, by decide +kernel, by decide +kernel⟩
theorem sc_L_name : FnScope ["_law_bag_here", "_law_name_here", "_law_k"] ["_law_bag_here"] (defScope s_L_name) := ⟨rfl, rfl, rfl, by decide +kernel, rfl, by decide +kernel, by decide +kernel⟩
theorem sc_L_rooms : FnScope ["_law_bag_here", "_law_room", "_law_many", "_law_left", "_law_rooms_here", "_law_k", "_law_more"] ["_law_bag_here", "_law_room", "_law_many"] (defScope s_L_rooms) := ⟨rfl, rfl, rfl, by decide +kernel, rfl, by decide +kernel, by decide +kernel⟩
theorem sc_L_any : FnScope ["_law_bag_here", "_law_deep", "_law_room", "_law_words", "_law_at", "_law_many", "_law_width", "_law_parts", "_law_numbers"] ["_law_bag_here", "_law_deep", "_law_room"] (defScope s_L_any) := ⟨rfl, rfl, rfl, by decide +kernel, rfl, by decide +kernel, by decide +kernel⟩
theorem sc_L_odd : FnScope ["_law_bag_here", "_law_some"] ["_law_bag_here"] (defScope s_L_odd) := ⟨rfl, rfl, rfl, by decide +kernel, rfl, by decide +kernel, by decide +kernel⟩
theorem sc_L_spoilt : FnScope ["_law_thing", "_law_bag_here", "_law_at", "_law_way"] ["_law_thing", "_law_bag_here"] (defScope s_L_spoilt) := ⟨rfl, rfl, rfl, by decide +kernel, rfl, by decide +kernel, by decide +kernel⟩
theorem sc_L_other : FnScope ["_law_thing", "_law_bag_here", "_law_way", "_law_k"] ["_law_thing", "_law_bag_here"] (defScope s_L_other) := ⟨rfl, rfl, rfl, by decide +kernel, rfl, by decide +kernel, by decide +kernel⟩
theorem sc_L_from : FnScope ["_law_thing", "_law_least", "_law_most"] ["_law_thing", "_law_least", "_law_most"] (defScope s_L_from) := ⟨rfl, rfl, rfl, by decide +kernel, rfl, by decide +kernel, by decide +kernel⟩
theorem sc_L_is_name : FnScope ["_law_thing", "_law_words"] ["_law_thing"] (defScope s_L_is_name) := ⟨rfl, rfl, rfl, by decide +kernel, rfl, by decide +kernel, by decide +kernel⟩
theorem sc_L_begin : FnScope ["_law_thing", "_law_word", "_law_good"] ["_law_thing"] (defScope s_L_begin) := ⟨rfl, rfl, rfl, by decide +kernel, rfl, by decide +kernel, by decide +kernel⟩
theorem sc_L_pieces : FnScope ["_law_thing", "_law_deep", "_law_begin_here", "_law_many", "_law_part", "_law_more"] ["_law_thing", "_law_deep"] (defScope s_L_pieces) := ⟨rfl, rfl, rfl, by decide +kernel, rfl, by decide +kernel, by decide +kernel⟩
theorem sc_L_of_pieces : FnScope ["_law_many", "_law_left", "_law_one"] ["_law_many"] (defScope s_L_of_pieces) := ⟨rfl, rfl, rfl, by decide +kernel, rfl, by decide +kernel, by decide +kernel⟩
theorem sc_L_at_bounds : FnScope ["_law_bag_here", "_law_many", "_law_thing", "_law_deep"] ["_law_bag_here"] (defScope s_L_at_bounds) := ⟨rfl, rfl, rfl, by decide +kernel, rfl, by decide +kernel, by decide +kernel⟩
theorem sc_L_truth : FnScope ["_law_found", "_law_due"] ["_law_found", "_law_due"] (defScope s_L_truth) := ⟨rfl, rfl, rfl, by decide +kernel, rfl, by decide +kernel, by decide +kernel⟩
theorem sc_law : FnScope ["_law_script", "_law_bag_here", "_law_thing", "_law_at", "_law_other_here"] ["_law_script"] (defScope s_law) := ⟨rfl, rfl, rfl, by decide +kernel, rfl, by decide +kernel, by decide +kernel⟩
/-- where the top's defs and tables stand -/
structure Ad where
  a_is_whole : Addr
  d_is_whole : FuncData
  a_is_between : Addr
  d_is_between : FuncData
  a_is_word : Addr
  d_is_word : FuncData
  a_is_name : Addr
  d_is_name : FuncData
  a_is_width : Addr
  d_is_width : FuncData
  a_two_to : Addr
  d_two_to : FuncData
  a_is_number : Addr
  d_is_number : FuncData
  a_is_saying : Addr
  d_is_saying : FuncData
  a_is_formed : Addr
  d_is_formed : FuncData
  a_are_numbers : Addr
  d_are_numbers : FuncData
  a_sayings_in : Addr
  d_sayings_in : FuncData
  a_L_bag : Addr
  d_L_bag : FuncData
  a_L_take : Addr
  d_L_take : FuncData
  a_L_name : Addr
  d_L_name : FuncData
  a_L_rooms : Addr
  d_L_rooms : FuncData
  a_L_any : Addr
  d_L_any : FuncData
  a_L_odd : Addr
  d_L_odd : FuncData
  a_L_spoilt : Addr
  d_L_spoilt : FuncData
  a_L_other : Addr
  d_L_other : FuncData
  a_L_from : Addr
  d_L_from : FuncData
  a_L_is_name : Addr
  d_L_is_name : FuncData
  a_L_begin : Addr
  d_L_begin : FuncData
  a_L_pieces : Addr
  d_L_pieces : FuncData
  a_L_of_pieces : Addr
  d_L_of_pieces : FuncData
  a_L_at_bounds : Addr
  d_L_at_bounds : FuncData
  a_L_truth : Addr
  d_L_truth : FuncData
  a_law : Addr
  d_law : FuncData
  a_FORMS : Addr
  a_TABLE_SIZES : Addr
def sp_two_to : Sp := fun vs H Q _ => ∃ m : Int, vs = [.int m] ∧ 0 ≤ m ∧ m ≤ 100 ∧ Q (.int (2 ^ m.toNat)) H
theorem lookup_mem {kvs : List (Str × V)} {z : Str} : (kvs.lookup z).isSome = decide (z ∈ kvs.map (·.1)) := by
  induction kvs with
  | nil => rfl
  | cons p r ih =>
    obtain ⟨k, v⟩ := p
    rw [List.lookup_cons]
    by_cases h : z = k
    · subst h; simp
    · have h1 : (z == k) = false := by simpa using h
      rw [h1]
      show (r.lookup z).isSome = _
      rw [ih]
      simp [h]
theorem lt_one (a b : Nat) : decide (([a] : List Nat) < [b]) = decide (a < b) := by
  rw [decide_eq_decide]
  simp [List.cons_lt_cons_iff]
theorem betD_int {d : PyData} {lo hi : Int} (h : betD d lo hi = true) : ∃ k : Int, d = .int k ∧ lo ≤ k ∧ k ≤ hi := by
  unfold betD at h
  cases d with
  | int k => simp at h; exact ⟨k, rfl, h.1, h.2⟩
  | _ => cases h
theorem szD_str {z : Str} (h : szD (.str z) = true) : z.length ≤ 100 := by
  simp only [szD] at h
  exact of_decide_eq_true h
theorem formD_shape {d : PyData} (h : formD d = true) : ∃ z dr, d = .tuple (.str z :: dr) ∧ z ∈ words ∧ dr.length + 1 = formN z := by
  unfold formD at h
  split at h
  · rename_i z r
    simp only [Bool.and_eq_true, decide_eq_true_eq] at h
    exact ⟨z, r, rfl, h.1.1, h.1.2⟩
  · cases h
theorem formK_le (z : Str) (h : z ∈ words) : formK z ≤ formN z ∧ 1 ≤ formK z ∧ formN z ≤ formK z + 3 := by
  have : ∀ z ∈ words, formK z ≤ formN z ∧ 1 ≤ formK z ∧ formN z ≤ formK z + 3 := by decide
  exact this z h
theorem sub_len {d : PyData} (h : formD d = true) : (subD d).length ≤ 3 := by
  obtain ⟨z, dr, rfl, hz, hn⟩ := formD_shape h
  have := formK_le z hz
  simp only [subD, List.length_drop]
  omega
theorem flat_le {L : List PyData} : ∀ {i : Nat}, (L.take i).all formD = true → ((L.take i).flatMap subD).length ≤ 3 * L.length := by
  intro i h
  have key : ∀ M : List PyData, M.all formD = true → (M.flatMap subD).length ≤ 3 * M.length := by
    intro M
    induction M with
    | nil => simp
    | cons x r ih =>
      intro h
      rw [List.all_cons, Bool.and_eq_true] at h
      rw [List.flatMap_cons, List.length_append, List.length_cons]
      have := sub_len h.1
      have := ih h.2
      omega
  have := key _ h
  rw [List.length_take] at this
  omega
theorem sub_sz {d e : PyData} (h : szD d = true) (he : e ∈ subD d) : szD e = true := by
  unfold subD at he
  split at he
  · rename_i z r
    have hs := (szD_tup.mp h).2
    exact hs e (List.mem_cons_of_mem _ (List.mem_of_mem_drop he))
  · cases he
theorem fn_none {P : Program} {w : World} {K : PySem.W.Frag} {mg : Str → Option Value} {base : Heap} {k : Nat} {f : Addr} {fd : FuncData} {ps : List Str} {sp : Sp} (h : ∀ vs H Q E, ¬ sp vs H Q E) : FnOk P w K mg base CX0 k f fd ps sp :=
  ⟨fun vs H Q E q => (h _ _ _ _ q).elim, fun _ _ _ _ _ _ _ _ _ _ _ _ _ q => (h _ _ _ _ q).elim⟩
def sp_law (K : PySem.W.Frag) : Sp := fun vs H Q _ => ∃ (a : Addr) (ns : List Int), vs = [.ref a] ∧ SqL K H a (ns.map V.int) ∧ ns.length ≤ 63 ∧ ∀ H', Q (.bl true) H'
theorem inV_strs (z : Str) (ws : List Str) : inV (V.str z) (ws.map V.str) = decide (z ∈ ws) := by
  induction ws with
  | nil => rfl
  | cons w r ih =>
    show (eqV (.str w) (.str z) || inV (V.str z) (r.map V.str)) = _
    rw [ih]
    show ((w == z) || _) = _
    by_cases h : z = w
    · subst h; simp
    · have h2 : ¬ w = z := fun e => h e.symm
      simp [h, h2]
def del (H : Hp) (l : Addr) : Hp := fun a => if a = l then none else H a
theorem _root_.L2.Same.del {l : Addr} {H H' : Hp} (s : Same H H') : Same (del H l) (del H' l) := fun a o h => by
  unfold K02.del at *
  by_cases e : a = l
  · rw [if_pos e] at h; cases h
  · rw [if_neg e] at h ⊢; exact s _ _ h
theorem del_at {l p : Addr} {H : Hp} {o : HO} (n : p ≠ l) (f : H p = some o) : del H l p = some o := by unfold del; rw [if_neg n]; exact f
theorem _root_.L2.Bg.del {l : Addr} {H H' : Hp} (g : Bg l H H') : Same (del H l) H' := fun a o h => by
  unfold K02.del at h
  by_cases e : a = l
  · rw [if_pos e] at h; cases h
  · rw [if_neg e] at h; exact g.1 _ _ e h
theorem newO_del {l : Addr} {H H' : Hp} {o : HO} (h : H l = some o) : Same (newO H H') (del H' l) := fun a u e => by
  unfold newO at e
  by_cases c : H a = none
  · rw [if_pos c] at e
    exact del_at (fun q => by rw [q, h] at c; cases c) e
  · rw [if_neg c] at e; cases e
theorem bag_some {H : Hp} {l : Addr} (b : Bag H l) : H l = some (.lst [.int b.choose, .int b.choose_spec.choose]) := b.choose_spec.choose_spec.1
/-- tuples that lie at most so deep, and are not long -/
def dpt : Nat → PyData → Bool
  | 0, .tuple _ => false
  | n + 1, .tuple ds => decide (ds.length ≤ 20) && ds.all (dpt n)
  | _, _ => true
theorem dpt_flat {n : Nat} {d : PyData} (h : dTup d = false) : dpt n d = true := by
  cases n <;> cases d <;> first | rfl | cases h
theorem dpt_tup {n : Nat} {ds : List PyData} (h : dpt n (.tuple ds) = true) : ∃ m, n = m + 1 ∧ ds.length ≤ 20 ∧ ∀ d ∈ ds, dpt m d = true := by
  cases n with
  | zero => cases h
  | succ m =>
    have h : (decide (ds.length ≤ 20) && ds.all (dpt m)) = true := h
    rw [Bool.and_eq_true] at h
    exact ⟨m, rfl, of_decide_eq_true h.1, List.all_eq_true.mp h.2⟩
theorem dpt_mk {n : Nat} {ds : List PyData} (h1 : ds.length ≤ 20) (h2 : ∀ d ∈ ds, dpt n d = true) : dpt (n + 1) (.tuple ds) = true := by
  show (decide (ds.length ≤ 20) && ds.all (dpt n)) = true
  rw [decide_eq_true h1, List.all_eq_true.mpr h2]
  rfl
theorem noL_tup {ds : List PyData} : noL (.tuple ds) = true ↔ ∀ d ∈ ds, noL d = true := by
  simp only [noL]
  refine ⟨fun h => ?_, noLs_all⟩
  induction ds with
  | nil => intro d hd; cases hd
  | cons x r ih =>
    have n' : noL x = true ∧ noLs r = true := by simpa [noLs] using h
    intro d hd
    rcases List.mem_cons.mp hd with rfl | h2
    · exact n'.1
    · exact ih n'.2 d h2
theorem formD_eq (z : Str) (dr : List PyData) : formD (.tuple (.str z :: dr)) = (decide (z ∈ words) && decide (dr.length + 1 = formN z) && restD z dr) := rfl
theorem pcs_mk {n : Nat} {z : Str} {hd ds : List PyData} (hz : z ∈ words) (hn : hd.length + ds.length + 1 = formN z) (hk : formK z = hd.length + 1) (hr : restD z (hd ++ ds) = true) (hs : ∀ x ∈ ds, 0 < pcs n x) : pcs (n + 1) (.tuple (.str z :: (hd ++ ds))) = 1 + (ds.map (pcs n)).sum := by
  have hsub : subD (.tuple (.str z :: (hd ++ ds))) = ds := by
    show (hd ++ ds).drop (formK z - 1) = ds
    rw [hk, Nat.add_sub_cancel, List.drop_left]
  have hf : formD (.tuple (.str z :: (hd ++ ds))) = true := by
    rw [formD_eq, hr, decide_eq_true hz, decide_eq_true (by rw [List.length_append]; exact hn)]
    rfl
  have hp : 0 < pcs (n + 1) (.tuple (.str z :: (hd ++ ds))) := pcs_pos.mpr ⟨hf, by rw [hsub]; exact hs⟩
  rw [pcs_val hp, hsub]
def GoodD (n : Nat) (d : PyData) (room : Int) : Prop := noL d = true ∧ szD d = true ∧ dpt n d = true ∧ 0 < pcs n d ∧ ((pcs n d : Nat) : Int) ≤ room
theorem word_len {z : Str} (h : z ∈ words) : z.length ≤ 100 := by
  have : ∀ z ∈ words, z.length ≤ 100 := by decide
  exact this z h
theorem good_mk {n : Nat} {z : Str} {hd ds : List PyData} {room : Int} (hz : z ∈ words) (hn : hd.length + ds.length + 1 = formN z) (hk : formK z = hd.length + 1) (hr : restD z (hd ++ ds) = true)
    (hh : ∀ d ∈ hd, noL d = true ∧ szD d = true ∧ dpt n d = true) (hs : ∀ d ∈ ds, noL d = true ∧ szD d = true ∧ dpt n d = true ∧ 0 < pcs n d) (hsum : (((ds.map (pcs n)).sum : Nat) : Int) + 1 ≤ room) : GoodD (n + 1) (.tuple (.str z :: (hd ++ ds))) room := by
  have hall : ∀ d ∈ PyData.str z :: (hd ++ ds), noL d = true ∧ szD d = true ∧ dpt n d = true := fun d hd' => by
    rcases List.mem_cons.mp hd' with rfl | h
    · exact ⟨by simp [noL], by simp only [szD]; exact decide_eq_true (word_len hz), dpt_flat rfl⟩
    · rcases List.mem_append.mp h with h | h
      · exact hh d h
      · exact ⟨(hs d h).1, (hs d h).2.1, (hs d h).2.2.1⟩
  have hp := pcs_mk (n := n) hz hn hk hr fun x hx => (hs x hx).2.2.2
  have hfn : formN z ≤ 4 := by unfold formN; repeat (first | omega | split)
  refine ⟨noL_tup.mpr fun d h => (hall d h).1, szD_tup.mpr ⟨by rw [List.length_cons, List.length_append]; omega, fun d h => (hall d h).2.1⟩, dpt_mk (by rw [List.length_cons, List.length_append]; omega) fun d h => (hall d h).2.2, by rw [hp]; omega, by rw [hp]; omega⟩
def sp_L_name : Sp := fun vs H Q _ => ∃ (l : Addr), vs = [.ref l] ∧ Bag H l ∧ ∀ (z : Str) H', nameD (.str z) = true → Bg l H H' → Q (.str z) H'
def sp_L_rooms : Sp := fun vs H Q _ => ∃ (l : Addr) (room many : Int), vs = [.ref l, .int room, .int many] ∧ Bag H l ∧ 0 ≤ many ∧ many ≤ 3 ∧ many ≤ room ∧ room ≤ 1000 ∧ ∀ p (rs : List Int) H', H p = none → p ≠ l → Bg l H H' → H' p = some (.lst (rs.map V.int)) → (rs.length : Int) = many → (∀ r ∈ rs, 1 ≤ r ∧ r ≤ 1001) → rs.sum ≤ room → Q (.ref p) H'
def sp_any (n : Nat) : Sp := fun vs H Q _ => ∃ (l : Addr) (room : Int), vs = [.ref l, .int n, .int room] ∧ 1 ≤ n ∧ Bag H l ∧ 1 ≤ room ∧ room ≤ 1001 ∧ ∀ d v H', GoodD n d room → Dat H' d v → Bg l H H' → Q v H'
def sp_L_odd : Sp := fun vs H Q _ => ∃ (l : Addr), vs = [.ref l] ∧ Bag H l ∧ ∀ d v H', szD d = true → Dat H' d v → Bg l H H' → Q v H'
def sp_spoilt (n : Nat) : Sp := fun vs H Q _ => ∃ (m : Nat) (d : PyData) (v : V) (l : Addr), n = m + 1 ∧ vs = [v, .ref l] ∧ Bag H l ∧ Dat H d v ∧ noL d = true ∧ szD d = true ∧ dpt m d = true ∧ ∀ d v H', szD d = true → Dat H' d v → Bg l H H' → Q v H'
def sp_L_other : Sp := fun vs H Q _ => ∃ (d : PyData) (v : V) (l : Addr), vs = [v, .ref l] ∧ Bag H l ∧ Dat H d v ∧ noL d = true ∧ szD d = true ∧ dpt 6 d = true ∧ ∀ d v H', szD d = true → Dat H' d v → Bg l H H' → Q v H'
def sp_L_begin : Sp := fun vs H Q _ => ∃ (p : Addr) (z : Str) (dr : List PyData) (r0 : List V), vs = [.ref p] ∧ H p = some (.tup (.str z :: r0)) ∧ Dats H dr r0 ∧ (∀ d ∈ dr, szD d = true) ∧ 1 ≤ dr.length ∧ z ≠ "wire" ∧ z ≠ "number" ∧ ∀ H', Same H H' → Q (.int (if formD (.tuple (.str z :: dr)) = true then ((formK z : Nat) : Int) else 0)) H'
def sp_pieces (n : Nat) : Sp := fun vs H Q _ => ∃ (m : Nat) (d : PyData) (v : V), n = m + 1 ∧ vs = [v, .int m] ∧ m ≤ 6 ∧ Dat H d v ∧ szD d = true ∧ ∀ H', Same H H' → Q (.int ((pcs m d : Nat) : Int)) H'
def ofp : Nat → Nat → PyData
  | 0, _ => .none
  | n + 1, k => if k < 3 then (if k = 2 then .tuple [.str "not", .tuple [.str "number", .int 0, .int 1]] else .tuple [.str "number", .int 1, .int 1])
    else if k % 2 = 0 then .tuple [.str "choice", .tuple [.str "number", .int 1, .int 1], ofp n ((k - 2 + k % 2) / 4 * 2 + 1), ofp n (k - 2 + k % 2 - ((k - 2 + k % 2) / 4 * 2 + 1))]
    else .tuple [.str "and", ofp n ((k - 2 + k % 2) / 4 * 2 + 1), ofp n (k - 2 + k % 2 - ((k - 2 + k % 2) / 4 * 2 + 1))]
def sp_ofp (n : Nat) : Sp := fun vs H Q _ => ∃ (m k : Nat), n = m + 1 ∧ vs = [.int k] ∧ 1 ≤ k ∧ k ≤ 2 ^ m + 1 ∧ ∀ v H', Dat H' (ofp n k) v → Same H H' → Q v H'
def sp_L_bounds : Sp := fun vs H Q _ => ∃ (l : Addr), vs = [.ref l] ∧ Bag H l ∧ ∀ H', Bg l H H' → Q (.bl true) H'
def sp_L_truth : Sp := fun vs H Q _ => ∃ a b : Bool, vs = [.bl a, .bl b] ∧ Q (.bl (decide (a = b))) H
theorem ofp_say : ∀ k, 38 ≤ k → k < 43 → sayB (ofp 7 k) = decide (k < 41) ∧ szD (ofp 7 k) = true := by
  intro k h1 h2
  have : k = 38 ∨ k = 39 ∨ k = 40 ∨ k = 41 ∨ k = 42 := by omega
  rcases this with rfl | rfl | rfl | rfl | rfl <;> exact ⟨by decide, by decide⟩
/-- a chain of words, so many deep -/
def Chn (k : Nat) (d : PyData) : Prop := 1 ≤ k ∧ ∀ n, pcs n d = if k ≤ n then k else 0
theorem Chn.wrap {k : Nat} {d : PyData} {z : Str} {hd : List PyData} (c : Chn k d) (hz : z ∈ words) (hn : hd.length + 1 + 1 = formN z) (hk : formK z = hd.length + 1) (hr : restD z (hd ++ [d]) = true) : Chn (k + 1) (.tuple (.str z :: (hd ++ [d]))) := by
  refine ⟨by omega, fun n => ?_⟩
  cases n with
  | zero => rw [if_neg (by omega)]; rfl
  | succ n =>
    have hc := c.2 n
    have h1 := c.1
    by_cases h : k ≤ n
    · rw [if_pos h] at hc
      rw [if_pos (by omega), pcs_mk hz hn hk hr fun x hx => by rw [List.mem_singleton.mp hx, hc]; omega]
      simp [hc]
      omega
    · rw [if_neg h] at hc
      rw [if_neg (by omega)]
      have hsub : subD (.tuple (.str z :: (hd ++ [d]))) = [d] := by
        show (hd ++ [d]).drop (formK z - 1) = [d]
        rw [hk, Nat.add_sub_cancel, List.drop_left]
      have : ¬ 0 < pcs (n + 1) (.tuple (.str z :: (hd ++ [d]))) := fun q => by
        have := (pcs_pos.mp q).2 d (by rw [hsub]; simp)
        omega
      omega
theorem Chn.say {k : Nat} {d : PyData} (c : Chn k d) (h : k ≤ 9) : sayB d = decide (k < 7) := by
  unfold sayB
  rw [c.2 6]
  have := c.1
  by_cases h : k ≤ 6
  · rw [if_pos h, decide_eq_true (by omega), decide_eq_true (by omega)]
  · rw [if_neg h, decide_eq_false (by omega), decide_eq_false (by omega)]
theorem pcs_leaf {n : Nat} {d : PyData} (hf : formD d = true) (hs : subD d = []) : pcs (n + 1) d = 1 := by
  have hp : 0 < pcs (n + 1) d := pcs_pos.mpr ⟨hf, by rw [hs]; intro x hx; cases hx⟩
  rw [pcs_val hp, hs]
  rfl
theorem nameD_len {z : Str} (h : nameD (.str z) = true) : z.length ≤ 8 := by
  simp only [nameD, Bool.and_eq_true, decide_eq_true_eq] at h
  exact h.1.1.2
theorem good_wire {n : Nat} {z : Str} {room : Int} (h : nameD (.str z) = true) (hr : 1 ≤ room) : GoodD (n + 1) (.tuple [.str "wire", .str z]) room := by
  have hf : formD (.tuple [.str "wire", .str z]) = true := by
    rw [formD_eq]
    show (decide (("wire" : Str) ∈ words) && decide (1 + 1 = formN "wire") && nameD (.str z)) = true
    rw [h]
    decide
  have hp := pcs_leaf (n := n) hf rfl
  have hz := nameD_len h
  refine ⟨by simp [noL, noLs], szD_tup.mpr ⟨(by show 2 ≤ 100; decide), fun d hd => ?_⟩, dpt_mk (by show 2 ≤ 20; decide) fun d hd => ?_, by rw [hp]; omega, by rw [hp]; omega⟩
  · simp only [List.mem_cons, List.not_mem_nil, or_false] at hd
    rcases hd with rfl | rfl <;> simp only [szD]
    · decide
    · exact decide_eq_true (by omega)
  · simp only [List.mem_cons, List.not_mem_nil, or_false] at hd
    rcases hd with rfl | rfl <;> exact dpt_flat rfl
theorem numD_int {i w : Int} (h1 : 1 ≤ w) (h8 : w ≤ 8) (h0 : 0 ≤ i) (h : i < 2 ^ w.toNat) : numD (.int i) (.int w) = true := by
  show (betD (.int w) 1 8 && betD (.int i) 0 (2 ^ w.toNat - 1)) = true
  show ((decide (1 ≤ w) && decide (w ≤ 8)) && (decide (0 ≤ i) && decide (i ≤ 2 ^ w.toNat - 1))) = true
  rw [decide_eq_true h1, decide_eq_true h8, decide_eq_true h0, decide_eq_true (by omega)]
  rfl
theorem good_num {n : Nat} {i w : Int} {room : Int} (h1 : 1 ≤ w) (h8 : w ≤ 8) (h0 : 0 ≤ i) (h : i < 2 ^ w.toNat) (hr : 1 ≤ room) : GoodD (n + 1) (.tuple [.str "number", .int i, .int w]) room := by
  have hf : formD (.tuple [.str "number", .int i, .int w]) = true := by
    rw [formD_eq]
    show (decide (("number" : Str) ∈ words) && decide (2 + 1 = formN "number") && numD (.int i) (.int w)) = true
    rw [numD_int h1 h8 h0 h]
    decide
  have hp := pcs_leaf (n := n) hf rfl
  refine ⟨by simp [noL, noLs], szD_tup.mpr ⟨(by show 3 ≤ 100; decide), fun d hd => ?_⟩, dpt_mk (by show 3 ≤ 20; decide) fun d hd => ?_, by rw [hp]; omega, by rw [hp]; omega⟩
  · simp only [List.mem_cons, List.not_mem_nil, or_false] at hd
    rcases hd with rfl | rfl | rfl <;> simp only [szD]
    decide
  · simp only [List.mem_cons, List.not_mem_nil, or_false] at hd
    rcases hd with rfl | rfl | rfl <;> exact dpt_flat rfl
def manyL : List Int := [1, 2, 2, 2, 2, 2, 2, 2, 2, 3, 1, 1, 1, 1, 0, 0, 0, 0]
def wordL : List Str := ["not", "and", "or", "odd", "sum", "less", "under", "same", "join", "choice", "up", "down", "cut", "table"]
theorem many_at {k : Nat} (h : k < 18) : (manyL.map V.int)[k]? = some (.int (manyL.getD k 0)) := by
  have h' : k < manyL.length := h
  rw [List.getElem?_map, List.getElem?_eq_getElem h', List.getD_eq_getElem?_getD, List.getElem?_eq_getElem h']
  rfl
theorem many_in : ∀ k, k < 18 → 0 ≤ manyL.getD k 0 ∧ manyL.getD k 0 ≤ 3 := by decide
theorem word_at {k : Nat} (h : k < 14) : (wordL.map V.str)[k]? = some (.str (wordL.getD k "")) := by
  have h' : k < wordL.length := h
  rw [List.getElem?_map, List.getElem?_eq_getElem h', List.getD_eq_getElem?_getD, List.getElem?_eq_getElem h']
  rfl
theorem word_in : ∀ k, k < 14 → wordL.getD k "" ∈ words ∧ ((formN (wordL.getD k "") : Nat) : Int) = manyL.getD k 0 + ((formK (wordL.getD k "") : Nat) : Int) ∧ formK (wordL.getD k "") = (if k = 10 ∨ k = 11 then 2 else if k = 12 ∨ k = 13 then 3 else 1) ∧ (k = 12 → wordL.getD k "" = "cut") ∧ (k = 13 → wordL.getD k "" = "table") ∧ (k = 10 → wordL.getD k "" = "up") ∧ (k = 11 → wordL.getD k "" = "down") := by decide
theorem cut_ne : ∀ k, k < 14 → k ≠ 12 → wordL.getD k "" ≠ "cut" := by decide
theorem tab_ne : ∀ k, k < 14 → k ≠ 13 → wordL.getD k "" ≠ "table" := by decide
theorem up_ne : ∀ k, k < 14 → k ≠ 10 → k ≠ 11 → ¬ (wordL.getD k "" = "up" ∨ wordL.getD k "" = "down") := by decide
theorem wn_ne : ∀ k, k < 14 → wordL.getD k "" ≠ "wire" ∧ wordL.getD k "" ≠ "number" := by decide
theorem sh_lt {c e : Int} (c1 : 0 < c) (c2 : c ≤ 2) (h : e ≤ 12) : 0 < c * 2 ^ e.toNat ∧ c * 2 ^ e.toNat ≤ 8192 := by
  have h1 : e.toNat ≤ 12 := by omega
  have h2 : (2 : Nat) ^ e.toNat ≤ 4096 := Nat.pow_le_pow_right (n := 2) (by decide) h1
  have h3 : 0 < (2 : Nat) ^ e.toNat := Nat.pow_pos (by decide)
  have h4 : ((2 : Int) ^ e.toNat) = (((2 : Nat) ^ e.toNat : Nat) : Int) := by rw [Int.natCast_pow]; rfl
  rw [h4]
  generalize (2 : Nat) ^ e.toNat = N at h2 h3
  have : c = 1 ∨ c = 2 := by omega
  rcases this with rfl | rfl <;> omega
theorem tab_len {e : Int} (h0 : 0 ≤ e) (h : e < 4) : (2 : Int) * 2 ^ e.toNat = 2 ∨ (2 : Int) * 2 ^ e.toNat = 4 ∨ (2 : Int) * 2 ^ e.toNat = 8 ∨ (2 : Int) * 2 ^ e.toNat = 16 := by
  have : e = 0 ∨ e = 1 ∨ e = 2 ∨ e = 3 := by omega
  rcases this with rfl | rfl | rfl | rfl
  · exact .inl (by decide)
  · exact .inr (.inl (by decide))
  · exact .inr (.inr (.inl (by decide)))
  · exact .inr (.inr (.inr (by decide)))
def w13 : List Str := ["wire", "number", "not", "and", "or", "odd", "sum", "less", "under", "same", "choice", "up", "down"]
def w3 : List Str := ["join", "cut", "table"]
def w8 : List Str := ["and", "or", "odd", "sum", "less", "under", "same", "join"]
theorem words_eq : words = w13 ++ w3 := rfl
theorem w8_iff {z : Str} (h1 : z ≠ "wire") (h2 : z ≠ "number") (h3 : z ≠ "up") (h4 : z ≠ "down") (h5 : z ≠ "cut") (h6 : z ≠ "table") (h7 : z ≠ "not") (h8 : z ≠ "choice") : z ∈ words ↔ z ∈ w8 := by
  simp only [words, w8, List.mem_cons, List.not_mem_nil, or_false, h1, h2, h3, h4, h5, h6, h7, h8, false_or]
theorem abc_letter : ∀ c ∈ ("abcdefghijklmnopqrstuvwxyz" : Str).cps.toList, letterB c = true := by decide
theorem pcs_no {n : Nat} {d : PyData} (h : formD d = false) : pcs n d = 0 := by
  cases n with
  | zero => rfl
  | succ n =>
    have : ¬ 0 < pcs (n + 1) d := fun q => by rw [(pcs_pos.mp q).1] at h; cases h
    omega
theorem numD_no {d w : PyData} (h : widD w = false) : numD d w = false := by unfold numD; split <;> simp_all
theorem formN_two (z : Str) : 2 ≤ formN z := by unfold formN; repeat (first | decide | split)
theorem form_one {d : PyData} : formD (.tuple [d]) = false := by
  cases d with
  | str z =>
    show (decide (z ∈ words) && decide (0 + 1 = formN z) && _) = false
    have := formN_two z
    rw [decide_eq_false (by omega : ¬ 0 + 1 = formN z)]
    simp
  | _ => rfl
theorem form_short {ds : List PyData} (h : ds.length < 2) : formD (.tuple ds) = false := by
  match ds, h with
  | [], _ => rfl
  | [_], _ => exact form_one
theorem nums_no {d w : PyData} (h : widD w = false) : numsD d w = false := by
  cases d with
  | tuple ds =>
    have e : numsD (.tuple ds) w = ((decide (ds.length = 2) || decide (ds.length = 4) || decide (ds.length = 8) || decide (ds.length = 16)) && ds.all fun x => numD x w) := rfl
    rw [e]
    cases ds with
    | nil => rfl
    | cons x r =>
      have : numD x w = false := by unfold numD; split <;> simp_all
      simp [this]
  | _ => rfl
theorem inV_len (n : Nat) : inV (V.int ((n : Nat) : Int)) [.int 2, .int 4, .int 8, .int 16] = (decide (n = 2) || decide (n = 4) || decide (n = 8) || decide (n = 16)) := by
  simp only [inV, eqV, List.any_cons, List.any_nil, Bool.or_false]
  have e : ∀ k : Nat, (((k : Nat) : Int) == ((n : Nat) : Int)) = decide (n = k) := fun k => by
    by_cases h : n = k
    · rw [decide_eq_true h, h]; simp
    · rw [decide_eq_false h]; simp; omega
  have e2 : ((2 : Int) == ((n : Nat) : Int)) = decide (n = 2) := e 2
  have e4 : ((4 : Int) == ((n : Nat) : Int)) = decide (n = 4) := e 4
  have e8 : ((8 : Int) == ((n : Nat) : Int)) = decide (n = 8) := e 8
  have e16 : ((16 : Int) == ((n : Nat) : Int)) = decide (n = 16) := e 16
  rw [e2, e4, e8, e16]
  simp only [Bool.or_assoc]
theorem num_bet {d : PyData} {k : Int} (h : widD (.int k) = true) : numD d (.int k) = betD d 0 (2 ^ k.toNat - 1) := by
  simp only [numD, h, Bool.true_and]

/-- what the top has written -/
structure Tx (w : World) (K : PySem.W.Frag) (mg : Str → Option Value) (A : Ad) : Prop where
  abs : mg "abs" = none
  all : mg "all" = none
  bool : mg "bool" = none
  int : mg "int" = none
  isinstance : mg "isinstance" = none
  len : mg "len" = none
  max : mg "max" = none
  min : mg "min" = none
  range : mg "range" = none
  str : mg "str" = none
  tuple : mg "tuple" = none
  g_MOST_LETTERS : ∃ t, mg "MOST_LETTERS" = some (.int 8 t)
  g_MOST_WIDTH : ∃ t, mg "MOST_WIDTH" = some (.int 8 t)
  g_FORMS : mg "FORMS" = some (.ref A.a_FORMS)
  D_FORMS : ∃ kvs, TopD w K A.a_FORMS kvs ∧ kvs.map (·.1) = words ∧ ∀ z ∈ words, ∃ p, kvs.lookup z = some (.ref p) ∧ ∀ H, SqT K H p [.int (formN z), .int (formK z)]
  g_MOST_PIECES : ∃ t, mg "MOST_PIECES" = some (.int 40 t)
  g_MOST_DEEP : ∃ t, mg "MOST_DEEP" = some (.int 6 t)
  g_MOST_SHIFT : ∃ t, mg "MOST_SHIFT" = some (.int 8 t)
  g_MOST_LOW : ∃ t, mg "MOST_LOW" = some (.int 7 t)
  g_TABLE_SIZES : mg "TABLE_SIZES" = some (.ref A.a_TABLE_SIZES)
  D_TABLE_SIZES : ∀ H, SqT K H A.a_TABLE_SIZES [.int 2, .int 4, .int 8, .int 16]
  F_is_whole : Fun K "is_whole" "is_whole" s_is_whole A.a_is_whole A.d_is_whole
  B_is_whole : Binds K A.d_is_whole ["thing"] []
  M_is_whole : mg "is_whole" = some (.ref A.a_is_whole)
  F_is_between : Fun K "is_between" "is_between" s_is_between A.a_is_between A.d_is_between
  B_is_between : Binds K A.d_is_between ["thing", "low", "high"] []
  M_is_between : mg "is_between" = some (.ref A.a_is_between)
  F_is_word : Fun K "is_word" "is_word" s_is_word A.a_is_word A.d_is_word
  B_is_word : Binds K A.d_is_word ["thing"] []
  M_is_word : mg "is_word" = some (.ref A.a_is_word)
  F_is_name : Fun K "is_name" "is_name" s_is_name A.a_is_name A.d_is_name
  B_is_name : Binds K A.d_is_name ["thing"] []
  M_is_name : mg "is_name" = some (.ref A.a_is_name)
  F_is_width : Fun K "is_width" "is_width" s_is_width A.a_is_width A.d_is_width
  B_is_width : Binds K A.d_is_width ["thing"] []
  M_is_width : mg "is_width" = some (.ref A.a_is_width)
  F_two_to : Fun K "two_to" "two_to" s_two_to A.a_two_to A.d_two_to
  B_two_to : Binds K A.d_two_to ["many"] []
  M_two_to : mg "two_to" = some (.ref A.a_two_to)
  F_is_number : Fun K "is_number" "is_number" s_is_number A.a_is_number A.d_is_number
  B_is_number : Binds K A.d_is_number ["thing", "width"] []
  M_is_number : mg "is_number" = some (.ref A.a_is_number)
  F_is_saying : Fun K "is_saying" "is_saying" s_is_saying A.a_is_saying A.d_is_saying
  B_is_saying : Binds K A.d_is_saying ["thing"] []
  M_is_saying : mg "is_saying" = some (.ref A.a_is_saying)
  F_is_formed : Fun K "is_formed" "is_formed" s_is_formed A.a_is_formed A.d_is_formed
  B_is_formed : Binds K A.d_is_formed ["thing"] []
  M_is_formed : mg "is_formed" = some (.ref A.a_is_formed)
  F_are_numbers : Fun K "are_numbers" "are_numbers" s_are_numbers A.a_are_numbers A.d_are_numbers
  B_are_numbers : Binds K A.d_are_numbers ["thing", "width"] []
  M_are_numbers : mg "are_numbers" = some (.ref A.a_are_numbers)
  F_sayings_in : Fun K "sayings_in" "sayings_in" s_sayings_in A.a_sayings_in A.d_sayings_in
  B_sayings_in : Binds K A.d_sayings_in ["saying"] []
  M_sayings_in : mg "sayings_in" = some (.ref A.a_sayings_in)
  F_L_bag : Fun K "_law_bag" "_law_bag" s_L_bag A.a_L_bag A.d_L_bag
  B_L_bag : Binds K A.d_L_bag ["_law_script", "_law_at"] []
  M_L_bag : mg "_law_bag" = some (.ref A.a_L_bag)
  F_L_take : Fun K "_law_take" "_law_take" s_L_take A.a_L_take A.d_L_take
  B_L_take : Binds K A.d_L_take ["_law_bag_here", "_law_many"] []
  M_L_take : mg "_law_take" = some (.ref A.a_L_take)
  F_L_name : Fun K "_law_name" "_law_name" s_L_name A.a_L_name A.d_L_name
  B_L_name : Binds K A.d_L_name ["_law_bag_here"] []
  M_L_name : mg "_law_name" = some (.ref A.a_L_name)
  F_L_rooms : Fun K "_law_rooms" "_law_rooms" s_L_rooms A.a_L_rooms A.d_L_rooms
  B_L_rooms : Binds K A.d_L_rooms ["_law_bag_here", "_law_room", "_law_many"] []
  M_L_rooms : mg "_law_rooms" = some (.ref A.a_L_rooms)
  F_L_any : Fun K "_law_any" "_law_any" s_L_any A.a_L_any A.d_L_any
  B_L_any : Binds K A.d_L_any ["_law_bag_here", "_law_deep", "_law_room"] []
  M_L_any : mg "_law_any" = some (.ref A.a_L_any)
  F_L_odd : Fun K "_law_odd" "_law_odd" s_L_odd A.a_L_odd A.d_L_odd
  B_L_odd : Binds K A.d_L_odd ["_law_bag_here"] []
  M_L_odd : mg "_law_odd" = some (.ref A.a_L_odd)
  F_L_spoilt : Fun K "_law_spoilt" "_law_spoilt" s_L_spoilt A.a_L_spoilt A.d_L_spoilt
  B_L_spoilt : Binds K A.d_L_spoilt ["_law_thing", "_law_bag_here"] []
  M_L_spoilt : mg "_law_spoilt" = some (.ref A.a_L_spoilt)
  F_L_other : Fun K "_law_other" "_law_other" s_L_other A.a_L_other A.d_L_other
  B_L_other : Binds K A.d_L_other ["_law_thing", "_law_bag_here"] []
  M_L_other : mg "_law_other" = some (.ref A.a_L_other)
  F_L_from : Fun K "_law_from" "_law_from" s_L_from A.a_L_from A.d_L_from
  B_L_from : Binds K A.d_L_from ["_law_thing", "_law_least", "_law_most"] []
  M_L_from : mg "_law_from" = some (.ref A.a_L_from)
  F_L_is_name : Fun K "_law_is_name" "_law_is_name" s_L_is_name A.a_L_is_name A.d_L_is_name
  B_L_is_name : Binds K A.d_L_is_name ["_law_thing"] []
  M_L_is_name : mg "_law_is_name" = some (.ref A.a_L_is_name)
  F_L_begin : Fun K "_law_begin" "_law_begin" s_L_begin A.a_L_begin A.d_L_begin
  B_L_begin : Binds K A.d_L_begin ["_law_thing"] []
  M_L_begin : mg "_law_begin" = some (.ref A.a_L_begin)
  F_L_pieces : Fun K "_law_pieces" "_law_pieces" s_L_pieces A.a_L_pieces A.d_L_pieces
  B_L_pieces : Binds K A.d_L_pieces ["_law_thing", "_law_deep"] []
  M_L_pieces : mg "_law_pieces" = some (.ref A.a_L_pieces)
  F_L_of_pieces : Fun K "_law_of_pieces" "_law_of_pieces" s_L_of_pieces A.a_L_of_pieces A.d_L_of_pieces
  B_L_of_pieces : Binds K A.d_L_of_pieces ["_law_many"] []
  M_L_of_pieces : mg "_law_of_pieces" = some (.ref A.a_L_of_pieces)
  F_L_at_bounds : Fun K "_law_at_bounds" "_law_at_bounds" s_L_at_bounds A.a_L_at_bounds A.d_L_at_bounds
  B_L_at_bounds : Binds K A.d_L_at_bounds ["_law_bag_here"] []
  M_L_at_bounds : mg "_law_at_bounds" = some (.ref A.a_L_at_bounds)
  F_L_truth : Fun K "_law_truth" "_law_truth" s_L_truth A.a_L_truth A.d_L_truth
  B_L_truth : Binds K A.d_L_truth ["_law_found", "_law_due"] []
  M_L_truth : mg "_law_truth" = some (.ref A.a_L_truth)
  F_law : Fun K "law" "law" s_law A.a_law A.d_law
  B_law : Binds K A.d_law ["_law_script"] []
  M_law : mg "law" = some (.ref A.a_law)
section
variable {P : Program} {w : World} {K : PySem.W.Frag} {mg : Str → Option Value} {base : Heap} {A : Ad}
seal L2.PE L2.PA L2.PT L2.PS L2.PSs
theorem ok_is_whole (T : Tx w K mg A) : FnOk P w K mg base CX0 1 A.a_is_whole A.d_is_whole ["thing"] sp_whole := by
  refine T.F_is_whole.ok sc_is_whole (fun vs H Q E h => ?_) (fun cdv A' outer s H vs Q E hr h => ?_)
  · obtain ⟨d, v, rfl, hD, q⟩ := h
    rfl
  obtain ⟨d, v, rfl, hD, q⟩ := h
  refine ⟨_, (pss_one (ps_ret (pe_and (pe_callB (call_isinst (T := "int")) rfl T.isinstance PyProof.Rows.boot_isinstance (pa_cons (pv 0) (pa_cons (pe_bltn (v := .ty "int") rfl T.int PyProof.Rows.boot_int rfl) pa_nil))) (pe_one (pe_not (pe_callB (call_isinst (T := "bool")) rfl T.isinstance PyProof.Rows.boot_isinstance (pa_cons (pv 0) (pa_cons (pe_bltn (v := .ty "bool") rfl T.bool PyProof.Rows.boot_bool rfl) pa_nil)))))))), ?_⟩
  obtain ⟨t, ty, k1, k2, _⟩ := hD.ty (K := K)
  rw [← wholeD_eq] at q
  refine ⟨_, rfl, v, t, _, rfl, ty, k1, _, rfl, ?_⟩
  cases hI : dInt d with
  | true =>
    rw [hI] at q
    exact iteT ⟨_, rfl, v, t, _, rfl, ty, k2, _, rfl, q⟩
  | false =>
    rw [hI] at q
    exact iteF q
theorem ok_is_between (T : Tx w K mg A) (G_is_whole : FnOk P w K mg base CX0 1 A.a_is_whole A.d_is_whole ["thing"] sp_whole) : FnOk P w K mg base CX0 2 A.a_is_between A.d_is_between ["thing", "low", "high"] sp_between := by
  refine T.F_is_between.ok sc_is_between (fun vs H Q E h => ?_) (fun cdv A' outer s H vs Q E hr h => ?_)
  · obtain ⟨d, v, lo, hi, rfl, hD, q⟩ := h
    rfl
  obtain ⟨d, v, lo, hi, rfl, hD, q⟩ := h
  refine ⟨_, (pss_one (ps_ret (pe_and (pe_call G_is_whole (hr.mono (by first | decide | omega)) rfl T.M_is_whole T.F_is_whole.kp T.B_is_whole .nil pass0 (pa_cons (pv 0) pa_nil)) (pe_one (pe_chain op_le op_le (pv 1) (pv 0) (pv 2)))))), ?_⟩
  refine ⟨_, rfl, d, v, rfl, hD, _, rfl, ?_⟩
  cases d with
  | int i =>
    have e := hD.intI
    subst e
    refine iteT ⟨_, rfl, _, rfl, _, _, rfl, rfl, _, rfl, ?_⟩
    have q : Q (.bl (decide (lo ≤ i) && decide (i ≤ hi))) H := q
    by_cases h : lo ≤ i
    · rw [decide_eq_true h, Bool.true_and] at q
      exact ite_t (decide_eq_true h) ⟨_, rfl, _, _, rfl, rfl, q⟩
    · rw [decide_eq_false h, Bool.false_and] at q
      exact ite_f (decide_eq_false h) q
  | _ => exact iteF q
theorem ok_is_word (T : Tx w K mg A) : FnOk P w K mg base CX0 1 A.a_is_word A.d_is_word ["thing"] sp_is_word := by
  refine T.F_is_word.ok sc_is_word (fun vs H Q E h => ?_) (fun cdv A' outer s H vs Q E hr h => ?_)
  · obtain ⟨d, v, rfl, hD, q⟩ := h
    rfl
  obtain ⟨d, v, rfl, hD, q⟩ := h
  obtain ⟨kvs, D_FORMS, hkeys, hkvs⟩ := T.D_FORMS
  refine ⟨_, (pss_one (ps_ret (pe_and (pe_callB (call_isinst (T := "str")) rfl T.isinstance PyProof.Rows.boot_isinstance (pa_cons (pv 0) (pa_cons (pe_bltn (v := .ty "str") rfl T.str PyProof.Rows.boot_str rfl) pa_nil))) (pe_one (pe_cmpR (op_in_top D_FORMS) (pv 0) (pe_glob (v := .ref A.a_FORMS) rfl T.g_FORMS rfl) rfl))))), ?_⟩
  obtain ⟨t, ty, _, _, k3, _⟩ := hD.ty (K := K)
  refine ⟨_, rfl, v, t, _, rfl, ty, k3, _, rfl, ?_⟩
  cases d with
  | str z =>
    have ev : v = .str z := by unfold Dat at hD; exact hD
    subst ev
    refine iteT ⟨_, rfl, z, rfl, rfl, ?_⟩
    rw [lookup_mem, hkeys]
    exact q
  | _ => exact iteF q
theorem ok_is_name (T : Tx w K mg A) (G_is_word : FnOk P w K mg base CX0 1 A.a_is_word A.d_is_word ["thing"] sp_is_word) : FnOk P w K mg base CX0 2 A.a_is_name A.d_is_name ["thing"] sp_is_name := by
  refine T.F_is_name.ok sc_is_name (fun vs H Q E h => ?_) (fun cdv A' outer s H vs Q E hr h => ?_)
  · obtain ⟨d, v, rfl, hD, hsz, q⟩ := h
    rfl
  obtain ⟨d, v, rfl, hD, hsz, q⟩ := h
  obtain ⟨t_MOST_LETTERS, g_MOST_LETTERS⟩ := T.g_MOST_LETTERS
  refine ⟨_, (pss_cons (ps_if (PW.pt (pw_or (pt_not (pt_truth (pe_callB (call_isinst (T := "str")) rfl T.isinstance PyProof.Rows.boot_isinstance (pa_cons (pv 0) (pa_cons (pe_bltn (v := .ty "str") rfl T.str PyProof.Rows.boot_str rfl) pa_nil))) (fun _ => rfl))) (pw_or1 (pt_truth (pe_call G_is_word (hr.mono (by first | decide | omega)) rfl T.M_is_word T.F_is_word.kp T.B_is_word .nil pass0 (pa_cons (pv 0) pa_nil)) (fun _ => rfl))))) (pss_one (ps_ret pe_bl)) pss_nil)
    (pss_one (ps_ret (pe_and (pe_chain op_le op_le pe_int (pe_callB call_len rfl T.len PySem.boot_len (pa_cons (pv 0) pa_nil)) (pe_glob (v := .int 8) rfl g_MOST_LETTERS ⟨_, rfl⟩)) (pe_one (pe_callB call_all rfl T.all PyProof.Rows.boot_all (pa_cons (pe_comp [] (fun _ _ h => h) rfl (pi_str (pv 0)) (fun _ _ _ _ => pts_nil) (fun _ _ _ _ => (pe_chain op_le_str op_le_str pe_str (pv 0) pe_str)) rfl (show ∀ j ∈ ([] : List Nat), j < 1 by decide) (show (["sign"] : List Str).Nodup by decide +kernel)) pa_nil))))))), ?_⟩
  obtain ⟨t, ty, _, _, k3, _⟩ := hD.ty (K := K)
  refine ⟨_, rfl, v, t, _, rfl, ty, k3, _, rfl, ?_⟩
  cases d with
  | str z =>
    have ev : v = .str z := by unfold Dat at hD; exact hD
    subst ev
    refine iteF ⟨_, rfl, .str z, _, rfl, Dat.str z, _, rfl, ?_⟩
    have hz : z.length ≤ 100 := szD_str hsz
    by_cases hw : z ∈ words
    · refine ite_t (decide_eq_true hw) ?_
      have e : nameD (.str z) = false := by simp [nameD, hw]
      rw [e] at q
      exact q H (Same.refl H)
    · refine ite_f (decide_eq_false hw) ?_
      refine ⟨_, rfl, _, _, rfl, ⟨small (by omega), rfl⟩, _, _, rfl, rfl, _, rfl, ?_⟩
      refine ite2 (fun c => ?_) (fun c => ?_)
      · have c1 : 1 ≤ z.length := by have := of_decide_eq_true c; omega
        refine ⟨_, _, rfl, rfl, _, rfl, ?_⟩
        refine ite2 (fun c => ?_) (fun c => ?_)
        · have c2 : z.length ≤ 8 := by have := of_decide_eq_true c; omega
          refine ⟨_, rfl, z, rfl, comp_str (fun i ys H' => ys = ((z.cps.toList.take i).map fun c => V.bl (letterB c)) ∧ H' = H) ⟨by simp, rfl⟩ ?_ ?_ ?_⟩
          · rintro i ys H' hi ⟨rfl, rfl⟩
            refine smallL ?_
            have hz' : z.cps.size = z.length := rfl
            simp only [List.length_map, List.length_take]
            omega
          · rintro i c ys H' hc ⟨rfl, rfl⟩
            unfold tYes
            refine iteT ⟨_, rfl, _, _, rfl, rfl, _, rfl, ?_⟩
            have htake : z.cps.toList.take (i + 1) = z.cps.toList.take i ++ [c] := by
              have hi : z.cps.toList[i]? = some c := by rw [Array.getElem?_toList]; exact hc
              obtain ⟨hlt, he⟩ := List.getElem?_eq_some_iff.mp hi
              rw [List.take_succ_eq_append_getElem hlt, he]
            have e1 : (!decide ((⟨#[c]⟩ : Str).cps.toList < ("a" : Str).cps.toList)) = decide (97 ≤ c) := by
              have : decide ((⟨#[c]⟩ : Str).cps.toList < ("a" : Str).cps.toList) = decide (c < 97) := lt_one c 97
              rw [this]
              by_cases h : 97 ≤ c
              · simp [h]
              · simp [h]; omega
            rw [e1]
            refine ite2 (fun h1 => ?_) (fun h1 => ?_)
            · have h97 : 97 ≤ c := of_decide_eq_true h1
              refine ⟨_, _, rfl, rfl, ?_⟩
              have e2 : (!decide (("z" : Str).cps.toList < (⟨#[c]⟩ : Str).cps.toList)) = letterB c := by
                have : decide (("z" : Str).cps.toList < (⟨#[c]⟩ : Str).cps.toList) = decide (122 < c) := lt_one 122 c
                rw [this]
                unfold letterB
                rw [decide_eq_true h97, Bool.true_and]
                by_cases h : c ≤ 122
                · simp [h]
                · simp [h]; omega
              rw [e2]
              exact ⟨by rw [htake, List.map_append]; rfl, rfl⟩
            · have h97 : ¬ 97 ≤ c := of_decide_eq_false (Bool.eq_false_iff.mpr h1)
              have e2 : letterB c = false := by simp [letterB, h97]
              exact ⟨by rw [htake, List.map_append, List.map_singleton, e2], rfl⟩
          · rintro ys H' ⟨rfl, rfl⟩ p hp
            refine ⟨rfl, p, z.cps.toList.map letterB, rfl, SqL.of ?_, ?_⟩
            · rw [upd_same, List.map_map]
              have : z.cps.toList.take z.cps.size = z.cps.toList := List.take_of_length_le (by simp)
              rw [this]
              rfl
            · have e : nameD (.str z) = (z.cps.toList.map letterB).all id := by
                rw [List.all_map]
                simp [nameD, hw, c1, c2]
              rw [← e]
              exact q _ (same_new hp _)
        · have c2 : ¬ z.length ≤ 8 := by have := of_decide_eq_false (Bool.eq_false_iff.mpr c); omega
          have e : nameD (.str z) = false := by simp [nameD, c2]
          rw [e] at q
          exact q H (Same.refl H)
      · have c1 : ¬ 1 ≤ z.length := by have := of_decide_eq_false (Bool.eq_false_iff.mpr c); omega
        refine ⟨_, rfl, iteF ?_⟩
        have e : nameD (.str z) = false := by simp [nameD, c1]
        rw [e] at q
        exact q H (Same.refl H)
  | _ => exact iteT (iteT (q H (Same.refl H)))
theorem ok_is_width (T : Tx w K mg A) (G_is_between : FnOk P w K mg base CX0 2 A.a_is_between A.d_is_between ["thing", "low", "high"] sp_between) : FnOk P w K mg base CX0 3 A.a_is_width A.d_is_width ["thing"] sp_is_width := by
  refine T.F_is_width.ok sc_is_width (fun vs H Q E h => ?_) (fun cdv A' outer s H vs Q E hr h => ?_)
  · obtain ⟨d, v, rfl, hD, q⟩ := h
    rfl
  obtain ⟨d, v, rfl, hD, q⟩ := h
  obtain ⟨t_MOST_WIDTH, g_MOST_WIDTH⟩ := T.g_MOST_WIDTH
  refine ⟨_, (pss_one (ps_ret (pe_call G_is_between (hr.mono (by first | decide | omega)) rfl T.M_is_between T.F_is_between.kp T.B_is_between .nil pass0 (pa_cons (pv 0) (pa_cons pe_int (pa_cons (pe_glob (v := .int 8) rfl g_MOST_WIDTH ⟨_, rfl⟩) pa_nil)))))), ?_⟩
  exact ⟨_, rfl, d, v, 1, 8, rfl, hD, q⟩
theorem ok_two_to (T : Tx w K mg A) : FnOk P w K mg base CX0 1 A.a_two_to A.d_two_to ["many"] sp_two_to := by
  refine T.F_two_to.ok sc_two_to (fun vs H Q E h => ?_) (fun cdv A' outer s H vs Q E hr h => ?_)
  · obtain ⟨m, rfl, m0, m1, q⟩ := h
    rfl
  obtain ⟨m, rfl, m0, m1, q⟩ := h
  refine ⟨_, (pss_cons (ps_set (i := 1) sc_two_to.nd rfl (Or.inl rfl) pe_int)
    (pss_cons (ps_for PassesOwn.never rfl (pi_range1 rfl T.range (pa_cons (pv 0) pa_nil)) (pg_name (i := 2) sc_two_to.nd rfl (Or.inl rfl))
        (pss_one (ps_set (i := 1) sc_two_to.nd rfl (Or.inl rfl) (pe_op op_mul (pv 1) pe_int))))
    (pss_one (ps_ret (pv 1))))), ?_⟩
  obtain ⟨m, rfl⟩ := Int.eq_ofNat_of_zero_le m0
  refine ⟨_, rfl, _, rfl, by omega, by omega, for_range (lo := 0) (fun i σ H' => ∃ x, σ = [some (.int m), some (.int (2 ^ i)), x] ∧ H = H') ⟨_, rfl, rfl⟩ ?_ ?_⟩
  · rintro i σ H' hi ⟨x, rfl, rfl⟩
    refine ⟨_, rfl, _, _, rfl, rfl, .inr ⟨by decide, by decide⟩, ?_⟩
    exact ⟨some (.int (0 + (i : Int))), (show [some (V.int m), some (.int ((2 : Int) ^ i * 2)), some (.int (0 + (i : Int)))] = _ by rw [← Int.pow_succ]), rfl⟩
  · rintro σ H' ⟨x, rfl, rfl⟩
    exact ⟨_, rfl, q⟩
theorem ok_is_number (T : Tx w K mg A) (G_is_width : FnOk P w K mg base CX0 3 A.a_is_width A.d_is_width ["thing"] sp_is_width) (G_is_between : FnOk P w K mg base CX0 2 A.a_is_between A.d_is_between ["thing", "low", "high"] sp_between) (G_two_to : FnOk P w K mg base CX0 1 A.a_two_to A.d_two_to ["many"] sp_two_to) : FnOk P w K mg base CX0 4 A.a_is_number A.d_is_number ["thing", "width"] sp_is_number := by
  refine T.F_is_number.ok sc_is_number (fun vs H Q E h => ?_) (fun cdv A' outer s H vs Q E hr h => ?_)
  · obtain ⟨d, v, e, u, rfl, hD, hE, q⟩ := h
    rfl
  obtain ⟨d, v, e, u, rfl, hD, hE, q⟩ := h
  refine ⟨_, (pss_one (ps_ret (pe_and (pe_call G_is_width (hr.mono (by first | decide | omega)) rfl T.M_is_width T.F_is_width.kp T.B_is_width .nil pass0 (pa_cons (pv 1) pa_nil)) (pe_one (pe_call G_is_between (hr.mono (by first | decide | omega)) rfl T.M_is_between T.F_is_between.kp T.B_is_between .nil pass0 (pa_cons (pv 0) (pa_cons pe_int (pa_cons (pe_op op_sub (pe_call G_two_to (hr.mono (by first | decide | omega)) rfl T.M_two_to T.F_two_to.kp T.B_two_to .nil pass0 (pa_cons (pv 1) pa_nil)) pe_int) pa_nil)))))))), ?_⟩
  refine ⟨_, rfl, e, u, rfl, hE, _, rfl, ?_⟩
  cases hw : widD e with
  | false =>
    have e1 : numD d e = false := by unfold numD; split <;> simp_all
    rw [e1] at q
    exact iteF q
  | true =>
    obtain ⟨k, rfl, k1, k8⟩ := betD_int hw
    have eu := hE.intI
    subst eu
    refine iteT ⟨_, rfl, _, rfl, k, rfl, by omega, by omega, _, _, rfl, rfl, d, v, 0, _, rfl, hD, ?_⟩
    have e1 : numD d (.int k) = betD d 0 (2 ^ k.toNat - 1) := by simp only [numD, hw, Bool.true_and]
    rw [e1] at q
    exact q
theorem ok_are_numbers (T : Tx w K mg A) (G_is_number : FnOk P w K mg base CX0 4 A.a_is_number A.d_is_number ["thing", "width"] sp_is_number) : FnOk P w K mg base CX0 5 A.a_are_numbers A.d_are_numbers ["thing", "width"] sp_are_numbers := by
  refine T.F_are_numbers.ok sc_are_numbers (fun vs H Q E h => ?_) (fun cdv A' outer s H vs Q E hr h => ?_)
  · obtain ⟨d, v, e, u, rfl, hD, hE, q⟩ := h
    rfl
  obtain ⟨d, v, e, u, rfl, hD, hE, q⟩ := h
  refine ⟨_, (pss_cons (ps_if (PW.pt (pw_or (pt_not (pt_truth (pe_callB (call_isinst (T := "tuple")) rfl T.isinstance PyProof.Rows.boot_isinstance (pa_cons (pv 0) (pa_cons (pe_bltn (v := .ty "tuple") rfl T.tuple PyProof.Rows.boot_tuple rfl) pa_nil))) (fun _ => rfl))) (pw_or1 (pt_cmpR op_notIn_seq (pe_callB call_len rfl T.len PySem.boot_len (pa_cons (pv 0) pa_nil)) (pe_glob (v := .ref A.a_TABLE_SIZES) rfl T.g_TABLE_SIZES rfl) rfl)))) (pss_one (ps_ret pe_bl)) pss_nil)
    (pss_one (ps_ret (pe_callB call_all rfl T.all PyProof.Rows.boot_all (pa_cons (pe_comp [1] (fun _ _ h => h) rfl (pi_tup (pv 0)) (fun _ _ _ _ => pts_nil) (fun _ _ _ _ => (pe_call G_is_number (hr.mono (by first | decide | omega)) rfl T.M_is_number T.F_is_number.kp T.B_is_number .nil pass0 (pa_cons (pv 0) (pa_cons (pv 1) pa_nil)))) rfl (show ∀ j ∈ ([1] : List Nat), j < 2 by decide) (show (["number", "width"] : List Str).Nodup by decide +kernel)) pa_nil))))), ?_⟩
  obtain ⟨t, ty, _, _, _, kT, _⟩ := hD.ty (K := K)
  refine ⟨_, rfl, v, t, _, rfl, ty, kT, _, rfl, ?_⟩
  cases d with
  | tuple ds =>
    obtain ⟨p, xs, rfl, hp, hxs⟩ := hD.tupI
    have hl := hxs.length
    refine ite_f rfl ⟨_, rfl, _, _, rfl, .inr ⟨_, SqT.of hp, rfl⟩, A.a_TABLE_SIZES, _, rfl, .inr (T.D_TABLE_SIZES H), rfl, rfl, _, rfl, ?_⟩
    have hin : inV (V.int (xs.length : Nat)) [.int 2, .int 4, .int 8, .int 16] = (decide (ds.length = 2) || decide (ds.length = 4) || decide (ds.length = 8) || decide (ds.length = 16)) := by
      rw [← hl]
      simp only [inV, eqV, List.any_cons, List.any_nil, Bool.or_false]
      have e : ∀ k : Nat, (((k : Nat) : Int) == ((ds.length : Nat) : Int)) = decide (ds.length = k) := fun k => by
        by_cases h : ds.length = k
        · rw [decide_eq_true h, h]; simp
        · rw [decide_eq_false h]; simp; omega
      have e2 : ((2 : Int) == ((ds.length : Nat) : Int)) = decide (ds.length = 2) := e 2
      have e4 : ((4 : Int) == ((ds.length : Nat) : Int)) = decide (ds.length = 4) := e 4
      have e8 : ((8 : Int) == ((ds.length : Nat) : Int)) = decide (ds.length = 8) := e 8
      have e16 : ((16 : Int) == ((ds.length : Nat) : Int)) = decide (ds.length = 16) := e 16
      rw [e2, e4, e8, e16]
      simp only [Bool.or_assoc]
    cases hsz : (decide (ds.length = 2) || decide (ds.length = 4) || decide (ds.length = 8) || decide (ds.length = 16)) with
    | false =>
      have e1 : numsD (.tuple ds) e = false := by simp only [numsD, hsz, Bool.false_and]
      rw [e1] at q
      refine ite_t ?_ (q H (Same.refl H))
      show (!inV (V.int (xs.length : Nat)) [.int 2, .int 4, .int 8, .int 16]) = true
      rw [hin, hsz]
      rfl
    | true =>
      have hl16 : ds.length ≤ 16 := by simp at hsz; omega
      have e1 : numsD (.tuple ds) e = ds.all fun x => numD x e := by simp only [numsD, hsz, Bool.true_and]
      rw [e1] at q
      refine ite_f ?_ ?_
      · show (!inV (V.int (xs.length : Nat)) [.int 2, .int 4, .int 8, .int 16]) = false
        rw [hin, hsz]
        rfl
      refine ⟨_, rfl, p, rfl, ⟨_, SqT.of hp⟩, comp_datT (fun d => .bl (numD d e)) hp hxs (by omega) (fun d x hd' hx N hN => ⟨_, rfl, _, rfl, d, x, e, u, rfl, hx, hE, hN⟩) fun pl hpl => ?_⟩
      refine ⟨rfl, pl, ds.map (fun d => numD d e), rfl, SqL.of (by rw [upd_same, List.map_map]; rfl), ?_⟩
      have e2 : (ds.map fun d => numD d e).all id = ds.all fun x => numD x e := by rw [List.all_map]; rfl
      rw [e2]
      exact q _ (same_new hpl _)
  | _ => exact ite_t rfl (iteT (q H (Same.refl H)))
theorem ok_is_formed (T : Tx w K mg A) (G_is_name : FnOk P w K mg base CX0 2 A.a_is_name A.d_is_name ["thing"] sp_is_name) (G_is_number : FnOk P w K mg base CX0 4 A.a_is_number A.d_is_number ["thing", "width"] sp_is_number) (G_is_between : FnOk P w K mg base CX0 2 A.a_is_between A.d_is_between ["thing", "low", "high"] sp_between) (G_are_numbers : FnOk P w K mg base CX0 5 A.a_are_numbers A.d_are_numbers ["thing", "width"] sp_are_numbers) (G_is_word : FnOk P w K mg base CX0 1 A.a_is_word A.d_is_word ["thing"] sp_is_word) (G_is_width : FnOk P w K mg base CX0 3 A.a_is_width A.d_is_width ["thing"] sp_is_width) : FnOk P w K mg base CX0 6 A.a_is_formed A.d_is_formed ["thing"] sp_formed := by
  refine T.F_is_formed.ok sc_is_formed (fun vs H Q E h => ?_) (fun cdv A' outer s H vs Q E hr h => ?_)
  · obtain ⟨d, v, rfl, hD, hsz, q⟩ := h
    rfl
  obtain ⟨d, v, rfl, hD, hsz, q⟩ := h
  obtain ⟨kvs, D_FORMS, hkeys, hkvs⟩ := T.D_FORMS
  obtain ⟨t_MOST_SHIFT, g_MOST_SHIFT⟩ := T.g_MOST_SHIFT
  obtain ⟨t_MOST_LOW, g_MOST_LOW⟩ := T.g_MOST_LOW
  refine ⟨_, (pss_cons (ps_if (PW.pt (pw_or (pt_not (pt_truth (pe_callB (call_isinst (T := "tuple")) rfl T.isinstance PyProof.Rows.boot_isinstance (pa_cons (pv 0) (pa_cons (pe_bltn (v := .ty "tuple") rfl T.tuple PyProof.Rows.boot_tuple rfl) pa_nil))) (fun _ => rfl))) (pw_or (pt_cmpR op_eq (pe_callB call_len rfl T.len PySem.boot_len (pa_cons (pv 0) pa_nil)) pe_int (nomark _)) (pw_or1 (pt_not (pt_truth (pe_call G_is_word (hr.mono (by first | decide | omega)) rfl T.M_is_word T.F_is_word.kp T.B_is_word .nil pass0 (pa_cons (pe_ix ix_tup (pv 0) pe_int (fun _ _ => rfl)) pa_nil)) (fun _ => rfl))))))) (pss_one (ps_ret pe_bl)) pss_nil)
    (pss_cons (ps_set (i := 1) sc_is_formed.nd rfl (Or.inl rfl) (pe_ix ix_tup (pv 0) pe_int (fun _ _ => rfl)))
    (pss_cons (ps_if (pt_cmpR op_ne (pe_callB call_len rfl T.len PySem.boot_len (pa_cons (pv 0) pa_nil)) (pe_ix ix_tup (pe_ix (ix_top D_FORMS) (pe_glob (v := .ref A.a_FORMS) rfl T.g_FORMS rfl) (pv 1) (fun _ _ => rfl)) pe_int (fun _ _ => rfl)) (nomark _)) (pss_one (ps_ret pe_bl)) pss_nil)
    (pss_cons (ps_if (pt_cmpR op_eq (pv 1) pe_str (nomark _)) (pss_one (ps_ret (pe_call G_is_name (hr.mono (by first | decide | omega)) rfl T.M_is_name T.F_is_name.kp T.B_is_name .nil pass0 (pa_cons (pe_ix ix_tup (pv 0) pe_int (fun _ _ => rfl)) pa_nil)))) pss_nil)
    (pss_cons (ps_if (pt_cmpR op_eq (pv 1) pe_str (nomark _)) (pss_one (ps_ret (pe_call G_is_number (hr.mono (by first | decide | omega)) rfl T.M_is_number T.F_is_number.kp T.B_is_number .nil pass0 (pa_cons (pe_ix ix_tup (pv 0) pe_int (fun _ _ => rfl)) (pa_cons (pe_ix ix_tup (pv 0) pe_int (fun _ _ => rfl)) pa_nil))))) pss_nil)
    (pss_cons (ps_if (pt_cmpR op_in_seq (pv 1) (pe_tup (pa_cons pe_str (pa_cons pe_str pa_nil))) rfl) (pss_one (ps_ret (pe_call G_is_between (hr.mono (by first | decide | omega)) rfl T.M_is_between T.F_is_between.kp T.B_is_between .nil pass0 (pa_cons (pe_ix ix_tup (pv 0) pe_int (fun _ _ => rfl)) (pa_cons pe_int (pa_cons (pe_glob (v := .int 8) rfl g_MOST_SHIFT ⟨_, rfl⟩) pa_nil)))))) pss_nil)
    (pss_cons (ps_if (pt_cmpR op_eq (pv 1) pe_str (nomark _)) (pss_one (ps_ret (pe_and (pe_call G_is_between (hr.mono (by first | decide | omega)) rfl T.M_is_between T.F_is_between.kp T.B_is_between .nil pass0 (pa_cons (pe_ix ix_tup (pv 0) pe_int (fun _ _ => rfl)) (pa_cons pe_int (pa_cons (pe_glob (v := .int 7) rfl g_MOST_LOW ⟨_, rfl⟩) pa_nil)))) (pe_one (pe_call G_is_width (hr.mono (by first | decide | omega)) rfl T.M_is_width T.F_is_width.kp T.B_is_width .nil pass0 (pa_cons (pe_ix ix_tup (pv 0) pe_int (fun _ _ => rfl)) pa_nil)))))) pss_nil)
    (pss_cons (ps_if (pt_cmpR op_eq (pv 1) pe_str (nomark _)) (pss_one (ps_ret (pe_call G_are_numbers (hr.mono (by first | decide | omega)) rfl T.M_are_numbers T.F_are_numbers.kp T.B_are_numbers .nil pass0 (pa_cons (pe_ix ix_tup (pv 0) pe_int (fun _ _ => rfl)) (pa_cons (pe_ix ix_tup (pv 0) pe_int (fun _ _ => rfl)) pa_nil))))) pss_nil)
    (pss_one (ps_ret pe_bl)))))))))), ?_⟩
  obtain ⟨t, ty, _, _, _, kT, _⟩ := hD.ty (K := K)
  refine ⟨_, rfl, v, t, _, rfl, ty, kT, _, rfl, ?_⟩
  cases d with
  | tuple ds =>
    obtain ⟨p, xs, rfl, hp, hxs⟩ := hD.tupI
    refine ite_f rfl ⟨_, rfl, _, _, rfl, .inr ⟨_, SqT.of hp, rfl⟩, rfl, _, rfl, ?_⟩
    cases ds with
    | nil =>
      have e := hxs.nilI
      subst e
      exact ite_t (by decide) (iteT (q H (Same.refl H)))
    | cons d0 dr =>
      obtain ⟨x0, r0, rfl, h0, hr0⟩ := hxs.consI
      have hl := hr0.length
      refine ite_f (decide_eq_false (by intro e; injection e with e; rw [List.length_cons] at e; omega)) ⟨_, rfl, p, _, _, _, rfl, rfl, SqT.of hp, (show atI _ ((0 : Nat) : Int) = _ from atI_nat rfl), d0, x0, rfl, h0, _, rfl, ?_⟩
      cases d0 with
      | str z =>
        have e0 : x0 = .str z := by unfold Dat at h0; exact h0
        subst e0
        have hsd := (szD_tup.mp hsz).2
        by_cases hz : z ∈ words
        · refine ite_f (by show (!decide (z ∈ words)) = false; rw [decide_eq_true hz]; rfl) ?_
          refine ⟨_, rfl, p, _, _, _, rfl, rfl, SqT.of hp, (show atI _ ((0 : Nat) : Int) = _ from atI_nat rfl), ?_⟩
          obtain ⟨pf, hlk, hpf⟩ := hkvs z hz
          refine ⟨_, rfl, _, _, rfl, .inr ⟨_, SqT.of hp, rfl⟩, _, rfl, _, _, rfl, rfl, hlk, pf, _, _, _, rfl, rfl, hpf H, rfl, rfl, _, rfl, ?_⟩
          by_cases hn : dr.length + 1 = formN z
          · have ef : formD (.tuple (.str z :: dr)) = restD z dr := by simp only [formD, decide_eq_true hz, decide_eq_true hn, Bool.true_and]
            rw [ef] at q
            refine ite_f (by rw [decide_eq_true (congrArg V.int (show (((V.str z :: r0).length : Nat) : Int) = ((formN z : Nat) : Int) by rw [List.length_cons, ← hl, hn]))]; rfl) ?_
            refine ⟨_, rfl, rfl, _, rfl, ?_⟩
            by_cases z1 : z = "wire"
            · subst z1
              obtain ⟨d1, rfl⟩ : ∃ d1, dr = [d1] := by
                match dr, (show dr.length = 1 by have h9 : formN "wire" = 2 := (by decide); omega) with
                | [x], _ => exact ⟨x, rfl⟩
              obtain ⟨x1, r1, rfl, h1, _⟩ := hr0.consI
              refine ite_t (by decide) ?_
              exact ⟨_, rfl, p, _, _, _, rfl, rfl, SqT.of hp, (show atI _ ((1 : Nat) : Int) = _ from atI_nat rfl), d1, x1, rfl, h1, hsd d1 (by simp), q⟩
            refine ite_f (decide_eq_false fun h => z1 (by injection h)) ⟨_, rfl, rfl, _, rfl, ?_⟩
            by_cases z2 : z = "number"
            · subst z2
              obtain ⟨d1, d2, rfl⟩ : ∃ d1 d2, dr = [d1, d2] := by
                match dr, (show dr.length = 2 by have h9 : formN "number" = 3 := (by decide); omega) with
                | [x, y], _ => exact ⟨x, y, rfl⟩
              obtain ⟨x1, r1, rfl, h1, hr1⟩ := hr0.consI
              obtain ⟨x2, r2, rfl, h2, _⟩ := hr1.consI
              refine ite_t (by decide) ?_
              exact ⟨_, rfl, p, _, _, _, rfl, rfl, SqT.of hp, (show atI _ ((1 : Nat) : Int) = _ from atI_nat rfl), _, rfl, p, _, _, _, rfl, rfl, SqT.of hp, (show atI _ ((2 : Nat) : Int) = _ from atI_nat rfl), d1, x1, d2, x2, rfl, h1, h2, q H (Same.refl H)⟩
            refine ite_f (decide_eq_false fun h => z2 (by injection h)) ?_
            refine ⟨_, rfl, (by show 2 ≤ sizeLine; decide), fun p2 hp2 => ?_⟩
            have t2 := same_new hp2 (.tup [.str "up", .str "down"])
            have hp' := t2 _ _ hp
            refine ⟨p2, _, rfl, .inr (SqT.of upd_same), rfl, rfl, _, rfl, ?_⟩
            generalize upd H p2 (.tup [.str "up", .str "down"]) = H2 at t2 hp' ⊢
            by_cases z3 : z = "up" ∨ z = "down"
            · obtain ⟨d1, d2, rfl⟩ : ∃ d1 d2, dr = [d1, d2] := by
                match dr, (show dr.length = 2 by rcases z3 with e | e <;> (rw [e] at hn; have h8 : formN "up" = 3 := (by decide); have h9 : formN "down" = 3 := (by decide); omega)) with
                | [x, y], _ => exact ⟨x, y, rfl⟩
              obtain ⟨x1, r1, rfl, h1, hr1⟩ := hr0.consI
              have er : restD z [d1, d2] = betD d1 0 8 := by unfold restD; rw [if_neg z1, if_neg z2, if_pos z3]; rfl
              rw [er] at q
              refine ite_t (by rcases z3 with e | e <;> (rw [e]; decide)) ?_
              exact ⟨_, rfl, p, _, _, _, rfl, rfl, SqT.of hp', (show atI _ ((1 : Nat) : Int) = _ from atI_nat rfl), d1, x1, 0, 8, rfl, h1.same t2, q H2 t2⟩
            have hnoin : inV (V.str z) [.str "up", .str "down"] = false := by
              simp [inV, eqV]
              exact ⟨fun h => z3 (.inl h.symm), fun h => z3 (.inr h.symm)⟩
            refine ite_f hnoin ⟨_, rfl, rfl, _, rfl, ?_⟩
            by_cases z4 : z = "cut"
            · subst z4
              obtain ⟨d1, d2, d3, rfl⟩ : ∃ d1 d2 d3, dr = [d1, d2, d3] := by
                match dr, (show dr.length = 3 by have h9 : formN "cut" = 4 := (by decide); omega) with
                | [x, y, w], _ => exact ⟨x, y, w, rfl⟩
              obtain ⟨x1, r1, rfl, h1, hr1⟩ := hr0.consI
              obtain ⟨x2, r2, rfl, h2, _⟩ := hr1.consI
              have er : restD "cut" [d1, d2, d3] = (betD d1 0 7 && widD d2) := rfl
              rw [er] at q
              refine ite_t (by decide) ?_
              refine ⟨_, rfl, p, _, _, _, rfl, rfl, SqT.of hp', (show atI _ ((1 : Nat) : Int) = _ from atI_nat rfl), d1, x1, 0, 7, rfl, h1.same t2, _, rfl, ?_⟩
              cases hb : betD d1 0 7 with
              | false => rw [hb] at q; exact iteF (q H2 t2)
              | true => rw [hb] at q; exact iteT ⟨_, rfl, p, _, _, _, rfl, rfl, SqT.of hp', (show atI _ ((2 : Nat) : Int) = _ from atI_nat rfl), d2, x2, rfl, h2.same t2, q H2 t2⟩
            refine ite_f (decide_eq_false fun h => z4 (by injection h)) ⟨_, rfl, rfl, _, rfl, ?_⟩
            by_cases z5 : z = "table"
            · subst z5
              obtain ⟨d1, d2, d3, rfl⟩ : ∃ d1 d2 d3, dr = [d1, d2, d3] := by
                match dr, (show dr.length = 3 by have h9 : formN "table" = 4 := (by decide); omega) with
                | [x, y, w], _ => exact ⟨x, y, w, rfl⟩
              obtain ⟨x1, r1, rfl, h1, hr1⟩ := hr0.consI
              obtain ⟨x2, r2, rfl, h2, _⟩ := hr1.consI
              refine ite_t (by decide) ?_
              exact ⟨_, rfl, p, _, _, _, rfl, rfl, SqT.of hp', (show atI _ ((2 : Nat) : Int) = _ from atI_nat rfl), _, rfl, p, _, _, _, rfl, rfl, SqT.of hp', (show atI _ ((1 : Nat) : Int) = _ from atI_nat rfl), d2, x2, d1, x1, rfl, h2.same t2, h1.same t2, fun H3 t3 => q H3 (t2.trans t3)⟩
            refine ite_f (decide_eq_false fun h => z5 (by injection h)) ?_
            have er : restD z dr = true := by unfold restD; rw [if_neg z1, if_neg z2, if_neg z3, if_neg z4, if_neg z5]
            rw [er] at q
            exact q H2 t2
          · have ef : formD (.tuple (.str z :: dr)) = false := by simp only [formD, decide_eq_false hn, Bool.and_false, Bool.false_and]
            rw [ef] at q
            refine ite_t ?_ (q H (Same.refl H))
            rw [decide_eq_false (by intro e; injection e with e; rw [List.length_cons] at e; omega)]
            rfl
        · have ef : formD (.tuple (.str z :: dr)) = false := by simp only [formD, decide_eq_false hz, Bool.false_and]
          rw [ef] at q
          exact ite_t (by show (!decide (z ∈ words)) = true; rw [decide_eq_false hz]; rfl) (q H (Same.refl H))
      | _ => exact ite_t rfl (q H (Same.refl H))
  | _ => exact ite_t rfl (iteT (q H (Same.refl H)))
theorem ok_sayings_in (T : Tx w K mg A) : FnOk P w K mg base CX0 1 A.a_sayings_in A.d_sayings_in ["saying"] sp_subs := by
  refine T.F_sayings_in.ok sc_sayings_in (fun vs H Q E h => ?_) (fun cdv A' outer s H vs Q E hr h => ?_)
  · obtain ⟨p, z, r0, rfl, hp, hz, hk, q⟩ := h
    rfl
  obtain ⟨p, z, r0, rfl, hp, hz, hk, q⟩ := h
  obtain ⟨kvs, D_FORMS, hkeys, hkvs⟩ := T.D_FORMS
  refine ⟨_, (pss_one (ps_ret (pe_slice sl_tupE (pv 0) (po_some (pe_ix ix_tup (pe_ix (ix_top D_FORMS) (pe_glob (v := .ref A.a_FORMS) rfl T.g_FORMS rfl) (pe_ix ix_tup (pv 0) pe_int (fun _ _ => rfl)) (fun _ _ => rfl)) pe_int (fun _ _ => rfl))) po_none))), ?_⟩
  obtain ⟨pf, hlk, hpf⟩ := hkvs z hz
  have hk1 : 1 ≤ formK z := by
    unfold formK
    repeat' split
    all_goals decide
  refine ⟨_, rfl, _, rfl, p, _, _, _, rfl, rfl, SqT.of hp, (show atI _ ((0 : Nat) : Int) = _ from atI_nat rfl), _, _, rfl, rfl, hlk, pf, _, _, _, rfl, rfl, hpf H, rfl, _, rfl, p, _, rfl, hp, fun p2 H2 s2 f2 => ?_⟩
  have hcut : cutV (V.str z :: r0) (some ((formK z : Nat) : Int)) none = r0.drop (formK z - 1) := by
    rw [cut_from (by rw [List.length_cons]; omega)]
    obtain ⟨k, hk'⟩ : ∃ k, formK z = k + 1 := ⟨formK z - 1, by omega⟩
    rw [hk']
    rfl
  rw [hcut] at f2
  exact q p2 _ s2 f2
theorem ok_is_saying (T : Tx w K mg A) (G_is_formed : FnOk P w K mg base CX0 6 A.a_is_formed A.d_is_formed ["thing"] sp_formed) (G_sayings_in : FnOk P w K mg base CX0 1 A.a_sayings_in A.d_sayings_in ["saying"] sp_subs) : FnOk P w K mg base CX0 7 A.a_is_saying A.d_is_saying ["thing"] sp_saying := by
  refine T.F_is_saying.ok sc_is_saying (fun vs H Q E h => ?_) (fun cdv A' outer s H vs Q E hr h => ?_)
  · obtain ⟨d, v, rfl, hD, hsz, q⟩ := h
    rfl
  obtain ⟨d, v, rfl, hD, hsz, q⟩ := h
  obtain ⟨t_MOST_PIECES, g_MOST_PIECES⟩ := T.g_MOST_PIECES
  obtain ⟨t_MOST_DEEP, g_MOST_DEEP⟩ := T.g_MOST_DEEP
  refine ⟨_, (pss_cons (ps_set (i := 1) sc_is_saying.nd rfl (Or.inl rfl) (pe_lst (pa_cons (pv 0) pa_nil)))
    (pss_cons (ps_set (i := 2) sc_is_saying.nd rfl (Or.inl rfl) pe_int)
    (pss_cons (ps_set (i := 3) sc_is_saying.nd rfl (Or.inl rfl) pe_int)
    (pss_cons (ps_while PassesOwn.never (pt_cmpR op_gt (pe_callB call_len rfl T.len PySem.boot_len (pa_cons (pv 1) pa_nil)) pe_int (nomark _))
        (pss_cons (ps_set (i := 2) sc_is_saying.nd rfl (Or.inl rfl) (pe_op op_add (pv 2) pe_int))
    (pss_cons (ps_set (i := 3) sc_is_saying.nd rfl (Or.inl rfl) (pe_op op_add (pv 3) (pe_callB call_len rfl T.len PySem.boot_len (pa_cons (pv 1) pa_nil))))
    (pss_cons (ps_if (PW.pt (pw_or (pt_cmpR op_gt (pv 2) (pe_glob (v := .int 6) rfl g_MOST_DEEP ⟨_, rfl⟩) (nomark _)) (pw_or1 (pt_cmpR op_gt (pv 3) (pe_glob (v := .int 40) rfl g_MOST_PIECES ⟨_, rfl⟩) (nomark _))))) (pss_one (ps_ret pe_bl)) pss_nil)
    (pss_cons (ps_set (i := 4) sc_is_saying.nd rfl (Or.inl rfl) (pe_lst pa_nil))
    (pss_cons (ps_for PassesOwn.never rfl (pi_list (pv 1)) (pg_name (i := 5) sc_is_saying.nd rfl (Or.inl rfl))
        (pss_cons (ps_if (pt_not (pt_truth (pe_call G_is_formed (hr.mono (by first | decide | omega)) rfl T.M_is_formed T.F_is_formed.kp T.B_is_formed .nil pass0 (pa_cons (pv 5) pa_nil)) (fun _ => rfl))) (pss_one (ps_ret pe_bl)) pss_nil)
    (pss_one (ps_expr (pe_bm PySem.F.plainAttrs_list PySem.F.slot_list_extend PySem.F.type_list_extend mt_extendT (pv 4) (pa_cons (pe_call G_sayings_in (hr.mono (by first | decide | omega)) rfl T.M_sayings_in T.F_sayings_in.kp T.B_sayings_in .nil pass0 (pa_cons (pv 5) pa_nil)) pa_nil))))))
    (pss_one (ps_set (i := 1) sc_is_saying.nd rfl (Or.inl rfl) (pv 4)))))))))
    (pss_one (ps_ret pe_bl)))))), ?_⟩
  refine ⟨_, rfl, (by show 1 ≤ sizeLine; decide), fun lv0 hlv0 => ?_⟩
  have s1 := same_new hlv0 (.lst [v])
  have f1 := upd_same (H := H) (a := lv0) (o := .lst [v])
  generalize upd H lv0 (.lst [v]) = H1 at s1 f1 ⊢
  show tSeq _ _ _ _ H1
  let WI : Nat → St → Hp → Prop := fun m σ Ha => ∃ (n dp pc : Nat) (L : List PyData) (lv : Addr) (xs : List V) (x4 x5 : Option V), σ = [some v, some (.ref lv), some (.int (dp : Int)), some (.int (pc : Int)), x4, x5] ∧ m = n ∧ dp + n = 6 ∧ pc ≤ 40 ∧ Same H Ha ∧ Ha lv = some (.lst xs) ∧ Dats Ha L xs ∧ (∀ e ∈ L, szD e = true) ∧ L.length ≤ 200 ∧ bfs n L pc = sayB d
  refine ⟨WI, ⟨6, 6, 0, 0, [d], lv0, [v], none, none, rfl, rfl, rfl, by decide, s1, f1, .cons (hD.same s1) .nil, fun e he => by rw [List.mem_singleton.mp he]; exact hsz, (by show 1 ≤ 200; decide), bfs_say d⟩, ?_⟩
  rintro m σ Ha ⟨n, dp, pc, L, lv, xs, x4, x5, rfl, rfl, hdn, hpc, sa, fa, hxs, hsL, hL200, hb⟩
  have hxl := hxs.length
  refine ⟨_, rfl, _, _, rfl, .inl ⟨_, SqL.of fa, rfl⟩, _, _, rfl, rfl, _, rfl, ?_⟩
  cases L with
  | nil =>
    have e := hxs.nilI
    subst e
    refine ite_f (by decide) ?_
    have hb' : sayB d = true := by rw [← hb]; cases m <;> rfl
    rw [hb'] at q
    exact q Ha sa
  | cons y rest =>
    refine ite_t (decide_eq_true (by rw [← hxl, List.length_cons]; omega)) ?_
    refine ⟨fun σ' H' => ∃ m', m' < m ∧ WI m' σ' H', fun _ _ h => h, ?_⟩
    refine ⟨_, rfl, _, _, rfl, rfl, ?_⟩
    refine ⟨_, rfl, _, rfl, _, _, rfl, .inl ⟨_, SqL.of fa, rfl⟩, _, _, rfl, rfl, ?_⟩
    have no : sayB d = false → Q (.bl false) Ha := fun e => by rw [e] at q; exact q Ha sa
    refine ⟨_, rfl, _, _, rfl, rfl, _, rfl, ?_⟩
    cases m with
    | zero =>
      refine ite_t (decide_eq_true (by omega)) (iteT ?_)
      exact no (by rw [← hb]; rfl)
    | succ n =>
      refine ite_f (decide_eq_false (by omega)) ?_
      refine ⟨_, rfl, _, _, rfl, rfl, _, rfl, ?_⟩
      by_cases hp40 : pc + (y :: rest).length ≤ 40
      · refine ite_f (decide_eq_false (by rw [← hxl]; omega)) ?_
        have hbE : bfs (n + 1) (y :: rest) pc = (((y :: rest).all formD) && bfs n ((y :: rest).flatMap subD) (pc + (y :: rest).length)) := by
          show (decide (pc + (y :: rest).length ≤ 40) && (y :: rest).all formD && _) = _
          rw [decide_eq_true hp40, Bool.true_and]
        rw [hbE] at hb
        generalize hL : y :: rest = L at *
        refine ⟨(by show 0 ≤ sizeLine; decide), fun bl hbl => ?_⟩
        have nlb : lv ≠ bl := ne_of_none fa hbl
        have s2 := same_new hbl (.lst [])
        refine ⟨_, rfl, lv, rfl, ⟨_, SqL.of (s2 _ _ fa)⟩, for_list (xs := xs) (fun i σ H' => ∃ (z5 : Option V) (ys : List V), σ = [some v, some (.ref lv), some (.int ((dp : Int) + 1)), some (.int ((pc : Int) + ((xs.length : Nat) : Int))), some (.ref bl), z5] ∧ Same Ha H' ∧ H' bl = some (.lst ys) ∧ Dats Ha ((L.take i).flatMap subD) ys ∧ (L.take i).all formD = true) ⟨_, [], rfl, s2, upd_same, (by simp; exact Dats.nil), by simp⟩ ?_ ?_ ?_⟩
        · rintro i σ H' _ ⟨_, _, _, s', _⟩
          exact SqL.of (s' _ _ fa)
        · rintro i x σ H' hx ⟨z5, ys, rfl, s', fb, hys, hall⟩
          obtain ⟨e, he, hex⟩ := hxs.get hx
          have hi := (List.getElem?_eq_some_iff.mp he).1
          have hem : e ∈ L := List.mem_of_getElem? he
          have htk : L.take (i + 1) = L.take i ++ [e] := by rw [List.take_add_one, he]; rfl
          refine ⟨_, rfl, e, x, rfl, hex.same s', hsL e hem, fun H2 t2 => ⟨_, rfl, ?_⟩⟩
          cases hf : formD e with
          | false =>
            refine ite_t rfl ?_
            have e1 : L.all formD = false := by
              rw [List.all_eq_false]
              exact ⟨e, hem, by rw [hf]; decide⟩
            rw [e1, Bool.false_and] at hb
            rw [← hb] at q
            exact q H2 (sa.trans (s'.trans t2))
          | true =>
            refine ite_f rfl ?_
            obtain ⟨z, dr, rfl, hz, hn⟩ := formD_shape hf
            obtain ⟨p0, qs, rfl, hp0, hqs⟩ := hex.tupI
            obtain ⟨x0, r0, rfl, h0, hr0⟩ := hqs.consI
            have e0 : x0 = .str z := by unfold Dat at h0; exact h0
            subst e0
            have hr0l := hr0.length
            have hkn := formK_le z hz
            have hyl := hys.length
            have hfl : ((L.take i).flatMap subD).length ≤ 3 * L.length := flat_le hall
            have hs2 := s'.trans t2
            refine ⟨_, rfl, .inl ⟨rfl, _, SqL.of (t2 _ _ fb)⟩, _, rfl, p0, z, r0, rfl, hs2 _ _ hp0, hz, by omega, fun p3 H3 t3 f3 => ?_⟩
            refine ⟨bl, p3, _, _, rfl, rfl, t3 _ _ (t2 _ _ fb), f3, small (by rw [List.length_drop]; omega), ?_⟩
            refine ⟨_, _, rfl, sameUpd (hs2.trans t3) hbl _, upd_same, ?_, by rw [htk, List.all_append, hall]; simp [hf]⟩
            rw [htk, List.flatMap_append]
            refine hys.append ?_
            have : ([PyData.tuple (PyData.str z :: dr)].flatMap subD) = dr.drop (formK z - 1) := by simp [subD]
            rw [this]
            exact hr0.drop _
        · rintro σ H' ⟨z5, ys, rfl, s', fb, hys, hall⟩
          have htk : L.take xs.length = L := by rw [← hxl]; exact List.take_length
          rw [htk] at hys hall
          rw [hall, Bool.true_and] at hb
          refine ⟨_, rfl, ?_⟩
          refine ⟨n, by omega, n, dp + 1, pc + L.length, L.flatMap subD, bl, ys, some (.ref bl), z5, ?_, rfl, by omega, hp40, sa.trans s', fb, hys.same s', fun e he => ?_, ?_, hb⟩
          · rw [show ((dp + 1 : Nat) : Int) = (dp : Int) + 1 by omega, show ((pc + L.length : Nat) : Int) = (pc : Int) + ((xs.length : Nat) : Int) by rw [← hxl]; omega]
            rfl
          · obtain ⟨y', hy', hey⟩ := List.mem_flatMap.mp he
            exact sub_sz (hsL y' hy') hey
          · have h7 := flat_le (L := L) (i := L.length) (by rw [List.take_length]; exact hall)
            rw [List.take_length] at h7
            omega
      · refine ite_t (decide_eq_true (by rw [← hxl]; omega)) ?_
        exact no (by rw [← hb]; show (decide (pc + (y :: rest).length ≤ 40) && _ && _) = false; rw [decide_eq_false hp40]; rfl)
theorem ok_L_bag (T : Tx w K mg A) : FnOk P w K mg base CX0 1 A.a_L_bag A.d_L_bag ["_law_script", "_law_at"] (sp_L_bag K) := by
  refine T.F_L_bag.ok sc_L_bag (fun vs H Q E h => ?_) (fun cdv A' outer s H vs Q E hr h => ?_)
  · obtain ⟨a, ns, i, rfl, hS, h63, hi, q⟩ := h
    rfl
  obtain ⟨a, ns, i, rfl, hS, h63, hi, q⟩ := h
  refine ⟨_, (pss_cons (ps_set (i := 2) sc_L_bag.nd rfl (Or.inl rfl) pe_int)
    (pss_cons (ps_if (pt_cmpR op_lt (pv 1) (pe_callB call_len rfl T.len PySem.boot_len (pa_cons (pv 0) pa_nil)) (nomark _)) (pss_one (ps_set (i := 2) sc_L_bag.nd rfl (Or.inl rfl) (pe_callB call_abs rfl T.abs PyProof.Rows.boot_abs (pa_cons (pe_ix ix_list (pv 0) (pv 1) (fun _ _ => rfl)) pa_nil)))) pss_nil)
    (pss_cons (ps_set (i := 3) sc_L_bag.nd rfl (Or.inl rfl) (pe_op op_add (pe_op op_mul pe_int (pv 1)) pe_int))
    (pss_cons (ps_for PassesOwn.never rfl (pi_range1 rfl T.range (pa_cons (pe_callB (call_min2 rfl) rfl T.min PyProof.Rows.boot_min (pa_cons (pe_callB call_len rfl T.len PySem.boot_len (pa_cons (pv 0) pa_nil)) (pa_cons pe_int pa_nil))) pa_nil)) (pg_name (i := 4) sc_L_bag.nd rfl (Or.inl rfl))
        (pss_one (ps_set (i := 3) sc_L_bag.nd rfl (Or.inl rfl) (pe_op op_mod (pe_op op_add (pe_op op_add (pe_op op_mul (pv 3) pe_int) (pe_op op_mod (pe_ix ix_list (pv 0) (pv 4) (fun _ _ => rfl)) pe_int)) (pe_op op_mul pe_int (pv 4))) pe_int))))
    (pss_one (ps_ret (pe_lst (pa_cons (pe_callB (call_max2 rfl) rfl T.max PyProof.Rows.boot_max (pa_cons pe_int (pa_cons (pe_op op_sub (pv 2) (pe_op op_pow pe_int pe_int)) pa_nil))) (pa_cons (pe_op op_add (pv 3) pe_int) pa_nil))))))))), ?_⟩
  have hl : (ns.map V.int).length = ns.length := List.length_map _
  refine ⟨_, rfl, _, rfl, _, _, rfl, .inl ⟨_, hS, rfl⟩, _, _, rfl, rfl, _, rfl, ?_⟩
  refine ite2 (fun c => ?_) (fun c => ?_)
  · have c' : i < (((ns.map V.int).length : Nat) : Int) := of_decide_eq_true c
    rw [hl] at c'
    obtain ⟨v, hv⟩ := at_mapI hi c'
    refine ⟨_, rfl, _, rfl, a, _, _, _, rfl, rfl, hS, hv, _, rfl, ?_⟩
    refine ⟨_, rfl, _, _, rfl, rfl, .inl ⟨by decide, by decide⟩, _, _, rfl, rfl, ?_⟩
    refine ⟨_, rfl, _, _, rfl, .inl ⟨_, hS, rfl⟩, _, _, rfl, _, rfl, ?_, ?_, for_range (lo := 0) (fun k σ H' => ∃ (m : Int) (x : Option V), σ = [some (.ref a), some (.int i), some (.int (if v < 0 then -v else v)), some (.int m), x] ∧ H' = H) ⟨_, _, rfl, rfl⟩ ?_ ?_⟩
    · split <;> omega
    · split <;> omega
    · rintro k σ H' hk ⟨m, x, rfl, rfl⟩
      have hk' : k < ns.length := by
        rw [hl] at hk
        split at hk <;> omega
      obtain ⟨u, hu⟩ := at_map (ns := ns) hk'
      refine ⟨_, rfl, _, _, rfl, rfl, .inr ⟨by decide, by decide⟩, _, rfl, _, rfl, a, _, _, _, rfl, rfl, hS, (by rw [Int.zero_add]; exact hu), _, _, rfl, rfl, (by show (0 : Int) < 2147483647; decide), _, _, rfl, rfl, _, rfl, _, _, rfl, rfl, .inl ⟨by decide, by decide⟩, _, _, rfl, rfl, _, _, rfl, rfl, (by show (0 : Int) < 2147483629; decide), ?_⟩
      exact ⟨_, _, rfl, rfl⟩
    · rintro σ H' ⟨m, x, rfl, rfl⟩
      refine ⟨_, rfl, _, _, rfl, rfl, ⟨by decide, by decide, by decide⟩, _, _, rfl, rfl, _, _, rfl, _, rfl, _, _, rfl, rfl, (by show 2 ≤ sizeLine; decide), fun l hl' => ?_⟩
      exact q l _ _ hl' (by split <;> omega)
  · refine ⟨_, rfl, _, _, rfl, rfl, .inl ⟨by decide, by decide⟩, _, _, rfl, rfl, ?_⟩
    refine ⟨_, rfl, _, _, rfl, .inl ⟨_, hS, rfl⟩, _, _, rfl, _, rfl, ?_, ?_, for_range (lo := 0) (fun k σ H' => ∃ (m : Int) (x : Option V), σ = [some (.ref a), some (.int i), some (.int 0), some (.int m), x] ∧ H' = H) ⟨_, _, rfl, rfl⟩ ?_ ?_⟩
    · split <;> omega
    · split <;> omega
    · rintro k σ H' hk ⟨m, x, rfl, rfl⟩
      have hk' : k < ns.length := by
        rw [hl] at hk
        split at hk <;> omega
      obtain ⟨u, hu⟩ := at_map (ns := ns) hk'
      refine ⟨_, rfl, _, _, rfl, rfl, .inr ⟨by decide, by decide⟩, _, rfl, _, rfl, a, _, _, _, rfl, rfl, hS, (by rw [Int.zero_add]; exact hu), _, _, rfl, rfl, (by show (0 : Int) < 2147483647; decide), _, _, rfl, rfl, _, rfl, _, _, rfl, rfl, .inl ⟨by decide, by decide⟩, _, _, rfl, rfl, _, _, rfl, rfl, (by show (0 : Int) < 2147483629; decide), ?_⟩
      exact ⟨_, _, rfl, rfl⟩
    · rintro σ H' ⟨m, x, rfl, rfl⟩
      refine ⟨_, rfl, _, _, rfl, rfl, ⟨by decide, by decide, by decide⟩, _, _, rfl, rfl, _, _, rfl, _, rfl, _, _, rfl, rfl, (by show 2 ≤ sizeLine; decide), fun l hl' => ?_⟩
      exact q l _ _ hl' (by split <;> omega)
theorem ok_L_take (T : Tx w K mg A) : FnOk P w K mg base CX0 1 A.a_L_take A.d_L_take ["_law_bag_here", "_law_many"] sp_L_take := by
  refine T.F_L_take.ok sc_L_take (fun vs H Q E h => ?_) (fun cdv A' outer s H vs Q E hr h => ?_)
  · obtain ⟨l, many, rfl, ⟨b0, b1, hl, hb0⟩, h0, hbig, q⟩ := h
    rfl
  obtain ⟨l, many, rfl, ⟨b0, b1, hl, hb0⟩, h0, hbig, q⟩ := h
  refine ⟨_, (pss_cons (ps_if (pt_cmpR op_gt (pe_ix ix_list (pv 0) pe_int (fun _ _ => rfl)) pe_int (nomark _)) (pss_cons (ps_set (i := 2) sc_L_take.nd rfl (Or.inl rfl) (pe_op op_mod (pe_ix ix_list (pv 0) pe_int (fun _ _ => rfl)) (pv 1)))
    (pss_cons (ps_asg (pe_op op_fdivL (pe_ix ix_list (pv 0) pe_int (fun _ _ => rfl)) (pv 1)) (pg_sub (pv 0) pe_int set_list))
    (pss_one (ps_ret (pv 2))))) pss_nil)
    (pss_cons (ps_asg (pe_op op_mod (pe_op op_add (pe_op op_mul (pe_ix ix_list (pv 0) pe_int (fun _ _ => rfl)) pe_int) pe_int) pe_int) (pg_sub (pv 0) pe_int set_list))
    (pss_one (ps_ret (pe_op op_mod (pe_op op_mod (pe_op op_mul (pe_op op_fdivL (pe_ix ix_list (pv 0) pe_int (fun _ _ => rfl)) pe_int) pe_int) pe_int) (pv 1)))))), ?_⟩
  refine ⟨_, rfl, l, _, 0, _, rfl, rfl, SqL.of hl, rfl, _, _, rfl, rfl, _, rfl, ?_⟩
  refine ite2 (fun c => ?_) (fun c => ?_)
  · have c' : 0 < b0 := of_decide_eq_true c
    refine ⟨_, rfl, l, _, 0, _, rfl, rfl, SqL.of hl, rfl, _, rfl, _, _, rfl, rfl, h0, ?_⟩
    refine ⟨_, rfl, l, _, 0, _, rfl, rfl, SqL.of hl, rfl, _, rfl, _, _, rfl, rfl, ⟨h0, hbig⟩, _, rfl, l, _, 0, 0, rfl, rfl, hl, rfl, ?_⟩
    refine ⟨_, rfl, ?_⟩
    exact q _ _ (Int.emod_nonneg _ (by omega)) (Int.emod_lt_of_pos _ h0) (Bg.put _ _ (Int.ediv_nonneg hb0 (by omega)))
  · refine ⟨_, rfl, l, _, 1, _, rfl, rfl, SqL.of hl, rfl, _, _, rfl, rfl, .inr ⟨by decide, by decide⟩, _, _, rfl, rfl, _, _, rfl, rfl, (by show (0 : Int) < 2147483647; decide), _, rfl, l, _, 1, 1, rfl, rfl, hl, rfl, ?_⟩
    refine ⟨_, rfl, l, _, 1, _, rfl, rfl, SqL.of upd_same, rfl, _, _, rfl, rfl, ⟨by decide, by decide⟩, _, _, rfl, rfl, .inr ⟨by decide, by decide⟩, _, _, rfl, rfl, (by show (0 : Int) < 2147483629; decide), _, rfl, _, _, rfl, rfl, h0, ?_⟩
    exact q _ _ (Int.emod_nonneg _ (by omega)) (Int.emod_lt_of_pos _ h0) (Bg.put _ _ hb0)
theorem ok_L_name (T : Tx w K mg A) (G_L_take : FnOk P w K mg base CX0 1 A.a_L_take A.d_L_take ["_law_bag_here", "_law_many"] sp_L_take) : FnOk P w K mg base CX0 2 A.a_L_name A.d_L_name ["_law_bag_here"] sp_L_name := by
  refine T.F_L_name.ok sc_L_name (fun vs H Q E h => ?_) (fun cdv A' outer s H vs Q E hr h => ?_)
  · obtain ⟨l, rfl, hb, q⟩ := h
    rfl
  obtain ⟨l, rfl, hb, q⟩ := h
  conv in (defBody _) => whnf
  simp only [bigL_eq, bigT_eq]
  refine ⟨_, (pss_cons (ps_set (i := 1) sc_L_name.nd rfl (Or.inl rfl) pe_str)
    (pss_cons (ps_for PassesOwn.never rfl (pi_range1 rfl T.range (pa_cons (pe_op op_add pe_int (pe_call G_L_take (hr.mono (by first | decide | omega)) rfl T.M_L_take T.F_L_take.kp T.B_L_take .nil pass0 (pa_cons (pv 0) (pa_cons pe_int pa_nil)))) pa_nil)) (pg_name (i := 2) sc_L_name.nd rfl (Or.inl rfl))
        (pss_one (ps_set (i := 1) sc_L_name.nd rfl (Or.inl rfl) (pe_op op_add_str (pv 1) (pe_ix ix_str pe_str (pe_call G_L_take (hr.mono (by first | decide | omega)) rfl T.M_L_take T.F_L_take.kp T.B_L_take .nil pass0 (pa_cons (pv 0) (pa_cons pe_int pa_nil))) (fun _ _ => rfl))))))
    (pss_cons (ps_if (pt_cmpR op_in_seq (pv 1) (pe_bigL rfl) (by unfold bigL; rfl)) (pss_one (ps_ret pe_str)) pss_nil)
    (pss_cons (ps_if (pt_cmpR op_in_seq (pv 1) (pe_lst (pa_consts rfl)) rfl) (pss_one (ps_ret pe_str)) pss_nil)
    (pss_one (ps_ret (pv 1))))))), ?_⟩
  refine ⟨_, rfl, l, 8, rfl, hb, by decide, by decide, fun d H1 d0 d1 hb1 => ?_⟩
  refine ⟨_, _, rfl, rfl, _, rfl, by omega, by omega, for_range (lo := 0) (fun i σ H' => ∃ (z : Str) (x : Option V), σ = [some (.ref l), some (.str z), x] ∧ z.length = i ∧ z.cps.toList.all letterB = true ∧ Bg l H H') ⟨_, none, rfl, rfl, rfl, hb1⟩ ?_ ?_⟩
  · rintro i σ H2 hi ⟨z, x, rfl, hz, hza, hb2⟩
    refine ⟨_, rfl, _, rfl, l, 26, rfl, hb2.2, by decide, by decide, fun e H3 e0 e1 hb3 => ?_⟩
    obtain ⟨c, hc, hc2⟩ := at_any (xs := ("abcdefghijklmnopqrstuvwxyz" : Str).cps.toList) e0 (show e < 26 from e1)
    refine ⟨_, _, c, rfl, rfl, (by decide), hc, _, _, rfl, rfl, small (by show z.length + 1 ≤ 100000; omega), ?_⟩
    refine ⟨z ++ ⟨#[c]⟩, _, rfl, ?_, ?_, hb2.trans hb3⟩
    · rw [Str.length_append, hz]
      rfl
    · have hcl := abc_letter c (List.mem_of_getElem? hc2)
      show (z.cps ++ #[c]).toList.all letterB = true
      rw [Array.toList_append, List.all_append, hza]
      simp [hcl]
  · rintro σ H2 ⟨z, x, rfl, hz, hza, hb2⟩
    have hz8 : z.length ≤ 8 := by omega
    have hz1 : 1 ≤ z.length := by omega
    refine ⟨_, rfl, (by show 13 ≤ sizeLine; decide), fun p hp => ?_⟩
    have hb3 := fun o => hb2.trans (Bg.new hb2.2 hp o)
    refine ⟨p, _, rfl, .inl (SqL.of upd_same), rfl, (by decide), _, rfl, ?_⟩
    refine ite2 (fun c => ?_) (fun c => ?_)
    · exact q "a" _ (by decide) (hb3 _)
    · have c13 : z ∉ w13 := fun h => c ((inV_strs z w13).trans (decide_eq_true h))
      refine ⟨_, rfl, (by show 3 ≤ sizeLine; decide), fun p2 hp2 => ?_⟩
      have hb4 : ∀ o, (upd H2 p o) p2 = none → ∀ o2, Bg l H (upd (upd H2 p o) p2 o2) := fun o h o2 => (hb3 o).trans (Bg.new (hb3 o).2 h o2)
      refine ⟨p2, _, rfl, .inl (SqL.of upd_same), rfl, (by decide), _, rfl, ?_⟩
      refine ite2 (fun c => ?_) (fun c => ?_)
      · exact q "b" _ (by decide) (hb4 _ hp2 _)
      · have c3 : z ∉ w3 := fun h => c ((inV_strs z w3).trans (decide_eq_true h))
        have hw : z ∉ words := by
          rw [words_eq, List.mem_append]
          exact fun h => h.elim c13 c3
        have hn : nameD (.str z) = true := by
          simp only [nameD, decide_eq_true hz1, decide_eq_true hz8, hza, decide_eq_false hw]
          rfl
        exact ⟨_, rfl, q z _ hn (hb4 _ hp2 _)⟩
theorem ok_L_rooms (T : Tx w K mg A) (G_L_take : FnOk P w K mg base CX0 1 A.a_L_take A.d_L_take ["_law_bag_here", "_law_many"] sp_L_take) : FnOk P w K mg base CX0 2 A.a_L_rooms A.d_L_rooms ["_law_bag_here", "_law_room", "_law_many"] sp_L_rooms := by
  refine T.F_L_rooms.ok sc_L_rooms (fun vs H Q E h => ?_) (fun cdv A' outer s H vs Q E hr h => ?_)
  · obtain ⟨l, room, many, rfl, hb, hm0, hm3, hmr, hroom, q⟩ := h
    rfl
  obtain ⟨l, room, many, rfl, hb, hm0, hm3, hmr, hroom, q⟩ := h
  refine ⟨_, (pss_cons (ps_set (i := 3) sc_L_rooms.nd rfl (Or.inl rfl) (pe_op op_sub (pv 1) (pv 2)))
    (pss_cons (ps_set (i := 4) sc_L_rooms.nd rfl (Or.inl rfl) (pe_lst pa_nil))
    (pss_cons (ps_for PassesOwn.never rfl (pi_range1 rfl T.range (pa_cons (pv 2) pa_nil)) (pg_name (i := 5) sc_L_rooms.nd rfl (Or.inl rfl))
        (pss_cons (ps_set (i := 6) sc_L_rooms.nd rfl (Or.inl rfl) (pv 3))
    (pss_cons (ps_if (pt_cmpR op_lt (pe_op op_add (pv 5) pe_int) (pv 2) (nomark _)) (pss_one (ps_set (i := 6) sc_L_rooms.nd rfl (Or.inl rfl) (pe_call G_L_take (hr.mono (by first | decide | omega)) rfl T.M_L_take T.F_L_take.kp T.B_L_take .nil pass0 (pa_cons (pv 0) (pa_cons (pe_op op_add (pv 3) pe_int) pa_nil))))) pss_nil)
    (pss_cons (ps_expr (pe_bm PySem.F.plainAttrs_list PySem.F.slot_list_append PySem.F.type_list_append mt_append (pv 4) (pa_cons (pe_op op_add pe_int (pv 6)) pa_nil)))
    (pss_one (ps_set (i := 3) sc_L_rooms.nd rfl (Or.inl rfl) (pe_op op_sub (pv 3) (pv 6))))))))
    (pss_one (ps_ret (pv 4)))))), ?_⟩
  refine ⟨_, rfl, _, rfl, _, _, rfl, rfl, ?_⟩
  refine ⟨(by show 0 ≤ sizeLine; decide), fun p hp => ?_⟩
  have hpl : p ≠ l := hb.ne hp
  refine ⟨_, rfl, _, rfl, by omega, by omega, for_range (lo := 0) (fun i σ H' => ∃ (left : Int) (rs : List Int) (x y : Option V), σ = [some (.ref l), some (.int room), some (.int many), some (.int left), some (.ref p), x, y] ∧ 0 ≤ left ∧ left ≤ 1000 ∧ rs.length = i ∧ (∀ r ∈ rs, 1 ≤ r ∧ r ≤ 1001) ∧ rs.sum + left = room - many + (i : Int) ∧ Bg l H H' ∧ H' p = some (.lst (rs.map V.int))) ⟨_, [], none, none, rfl, by omega, by omega, rfl, (fun _ h => nomatch h), by simp, Bg.new hb hp _, upd_same⟩ ?_ ?_⟩
  · rintro i σ H1 hi ⟨left, rs, x, y, rfl, l0, l1, hrs, hrb, hsum, hb1, hp1⟩
    have fin : ∀ (more : Int) (H2 : Hp), 0 ≤ more → more ≤ left → Bg l H1 H2 → ∃ (left' : Int) (rs' : List Int) (x y : Option V), [some (V.ref l), some (.int room), some (.int many), some (.int (left - more)), some (.ref p), some (.int (0 + (i : Int))), some (.int more)] = [some (.ref l), some (.int room), some (.int many), some (.int left'), some (.ref p), x, y] ∧ 0 ≤ left' ∧ left' ≤ 1000 ∧ rs'.length = i + 1 ∧ (∀ r ∈ rs', 1 ≤ r ∧ r ≤ 1001) ∧ rs'.sum + left' = room - many + ((i + 1 : Nat) : Int) ∧ Bg l H (upd H2 p (.lst (rs.map V.int ++ [.int (1 + more)]))) ∧ (upd H2 p (.lst (rs.map V.int ++ [.int (1 + more)]))) p = some (.lst (rs'.map V.int)) := fun more H2 m0 m1 hb2 => by
      refine ⟨_, rs ++ [1 + more], _, _, rfl, by omega, by omega, by rw [List.length_append, hrs]; rfl, fun r hr => ?_, ?_, (hb1.trans hb2).set hp hpl _, by rw [upd_same, List.map_append]; rfl⟩
      · rcases List.mem_append.mp hr with h | h
        · exact hrb r h
        · rw [List.mem_singleton.mp h]; omega
      · rw [List.sum_append, List.sum_singleton]
        omega
    have hlen : ∀ H2, Bg l H1 H2 → H2 p = some (.lst (rs.map V.int)) ∧ (rs.map V.int).length < sizeLine := fun H2 hb2 => ⟨hb2.1 p _ hpl hp1, by rw [List.length_map]; exact smallL (by omega)⟩
    refine ⟨_, rfl, ?_⟩
    refine ⟨_, rfl, _, _, rfl, rfl, _, rfl, _, _, rfl, rfl, _, rfl, ?_⟩
    refine ite2 (fun c => ?_) (fun c => ?_)
    · refine ⟨_, rfl, _, rfl, _, _, rfl, rfl, l, _, rfl, hb1.2, by omega, (by show left + 1 < bigB; exact Int.lt_trans (show left + 1 < 2000 by omega) (by decide)), fun more H2 m0 m1 hb2 => ?_⟩
      obtain ⟨hp2, hl2⟩ := hlen H2 hb2
      refine ⟨_, rfl, .inl ⟨rfl, _, SqL.of hp2⟩, _, rfl, _, _, rfl, rfl, p, _, _, rfl, rfl, hp2, hl2, ?_⟩
      refine ⟨_, rfl, _, rfl, _, _, rfl, rfl, ?_⟩
      exact fin more H2 m0 (by omega) hb2
    · obtain ⟨hp2, hl2⟩ := hlen H1 (Bg.refl hb1.2)
      refine ⟨_, rfl, .inl ⟨rfl, _, SqL.of hp2⟩, _, rfl, _, _, rfl, rfl, p, _, _, rfl, rfl, hp2, hl2, ?_⟩
      refine ⟨_, rfl, _, rfl, _, _, rfl, rfl, ?_⟩
      exact fin left H1 l0 (Int.le_refl _) (Bg.refl hb1.2)
  · rintro σ H1 ⟨left, rs, x, y, rfl, l0, l1, hrs, hrb, hsum, hb1, hp1⟩
    exact ⟨_, rfl, q p rs H1 hp hpl hb1 hp1 (by rw [hrs]; omega) hrb (by omega)⟩
theorem ok_L_any (T : Tx w K mg A) (G_L_take : FnOk P w K mg base CX0 1 A.a_L_take A.d_L_take ["_law_bag_here", "_law_many"] sp_L_take) (G_L_name : FnOk P w K mg base CX0 2 A.a_L_name A.d_L_name ["_law_bag_here"] sp_L_name) (G_L_rooms : FnOk P w K mg base CX0 2 A.a_L_rooms A.d_L_rooms ["_law_bag_here", "_law_room", "_law_many"] sp_L_rooms) (n : Nat) (G_L_any : FnOk P w K mg base CX0 (n + 2) A.a_L_any A.d_L_any ["_law_bag_here", "_law_deep", "_law_room"] (sp_any n)) : FnOk P w K mg base CX0 (n + 3) A.a_L_any A.d_L_any ["_law_bag_here", "_law_deep", "_law_room"] (sp_any (n + 1)) := by
  refine T.F_L_any.ok sc_L_any (fun vs H Q E h => ?_) (fun cdv A' outer s H vs Q E hr h => ?_)
  · obtain ⟨l, room, rfl, h1, hb, hroom1, hrm, q⟩ := h
    rfl
  obtain ⟨l, room, rfl, h1, hb, hroom1, hrm, q⟩ := h
  conv in (defBody _) => whnf
  simp only [bigL_eq, bigT_eq]
  refine ⟨_, (pss_cons (ps_set (i := 3) sc_L_any.nd rfl (Or.inl rfl) (pe_bigL rfl) (by unfold bigL; rfl))
    (pss_cons (ps_set (i := 4) sc_L_any.nd rfl (Or.inl rfl) (pe_call G_L_take (hr.mono (by first | decide | omega)) rfl T.M_L_take T.F_L_take.kp T.B_L_take .nil pass0 (pa_cons (pv 0) (pa_cons pe_int pa_nil))))
    (pss_cons (ps_set (i := 5) sc_L_any.nd rfl (Or.inl rfl) (pe_ix ix_list (pe_bigL rfl) (pv 4) (fun _ _ => rfl)))
    (pss_cons (ps_set (i := 6) sc_L_any.nd rfl (Or.inr rfl) (pe_op op_add pe_int (pe_call G_L_take (hr.mono (by first | decide | omega)) rfl T.M_L_take T.F_L_take.kp T.B_L_take .nil pass0 (pa_cons (pv 0) (pa_cons pe_int pa_nil)))))
    (pss_cons (ps_if (PW.pt (pw_or (pt_cmpR op_eq (pv 1) pe_int (nomark _)) (pw_or (pt_cmpR op_gt (pv 4) pe_int (nomark _)) (pw_or1 (pt_cmpR op_le (pv 2) (pv 5) (nomark _)))))) (pss_cons (ps_if (pt_cmpR op_eq (pe_op op_mod (pv 4) pe_int) pe_int (nomark _)) (pss_one (ps_ret (pe_tup (pa_cons pe_str (pa_cons (pe_call G_L_name (hr.mono (by first | decide | omega)) rfl T.M_L_name T.F_L_name.kp T.B_L_name .nil pass0 (pa_cons (pv 0) pa_nil)) pa_nil))))) pss_nil)
    (pss_one (ps_ret (pe_tup (pa_cons pe_str (pa_cons (pe_call G_L_take (hr.mono (by first | decide | omega)) rfl T.M_L_take T.F_L_take.kp T.B_L_take .nil pass0 (pa_cons (pv 0) (pa_cons (pe_op op_shl pe_int (pv 6)) pa_nil))) (pa_cons (pv 6) pa_nil))))))) pss_nil)
    (pss_cons (ps_set (i := 7) sc_L_any.nd rfl (Or.inl rfl) (pe_callTy call_tuple_of rfl T.tuple PyProof.Rows.boot_tuple (pa_cons (pe_comp [0, 1] (fun _ _ h => h) rfl (pi_list (pe_call G_L_rooms (hr.mono (by first | decide | omega)) rfl T.M_L_rooms T.F_L_rooms.kp T.B_L_rooms .nil pass0 (pa_cons (pv 0) (pa_cons (pe_op op_sub (pv 2) pe_int) (pa_cons (pv 5) pa_nil))))) (fun _ _ _ _ => pts_nil) (fun _ _ _ _ => (pe_call G_L_any (hr.mono (by first | decide | omega)) rfl T.M_L_any T.F_L_any.kp T.B_L_any .nil pass0 (pa_cons (pv 1) (pa_cons (pe_op op_sub (pv 2) pe_int) (pa_cons (pv 0) pa_nil))))) rfl (show ∀ j ∈ ([0, 1] : List Nat), j < 9 by decide) (show (["_law_more", "_law_bag_here", "_law_deep"] : List Str).Nodup by decide +kernel)) pa_nil)))
    (pss_cons (ps_if (pt_cmpR op_eq (pe_ix ix_list (pv 3) (pv 4) (fun _ _ => rfl)) pe_str (nomark _)) (pss_one (ps_ret (pe_op op_catE (pe_tup (pa_cons pe_str (pa_cons (pe_call G_L_take (hr.mono (by first | decide | omega)) rfl T.M_L_take T.F_L_take.kp T.B_L_take .nil pass0 (pa_cons (pv 0) (pa_cons pe_int pa_nil))) (pa_cons (pv 6) pa_nil)))) (pv 7)))) pss_nil)
    (pss_cons (ps_if (pt_cmpR op_eq (pe_ix ix_list (pv 3) (pv 4) (fun _ _ => rfl)) pe_str (nomark _)) (pss_cons (ps_set (i := 8) sc_L_any.nd rfl (Or.inl rfl) (pe_callTy call_tuple_of rfl T.tuple PyProof.Rows.boot_tuple (pa_cons (pe_comp [0, 6] (fun _ _ h => h) rfl (pi_range1 rfl T.range (pa_cons (pe_op op_shl pe_int (pe_call G_L_take (hr.mono (by first | decide | omega)) rfl T.M_L_take T.F_L_take.kp T.B_L_take .nil pass0 (pa_cons (pv 0) (pa_cons pe_int pa_nil)))) pa_nil)) (fun _ _ _ _ => pts_nil) (fun _ _ _ _ => (pe_call G_L_take (hr.mono (by first | decide | omega)) rfl T.M_L_take T.F_L_take.kp T.B_L_take .nil pass0 (pa_cons (pv 1) (pa_cons (pe_op op_shl pe_int (pv 2)) pa_nil)))) rfl (show ∀ j ∈ ([0, 6] : List Nat), j < 9 by decide) (show (["_law_k", "_law_bag_here", "_law_width"] : List Str).Nodup by decide +kernel)) pa_nil)))
    (pss_one (ps_ret (pe_op op_catE (pe_tup (pa_cons pe_str (pa_cons (pv 6) (pa_cons (pv 8) pa_nil)))) (pv 7))))) pss_nil)
    (pss_cons (ps_if (PW.pt (pw_or (pt_cmpR op_eq (pv 4) pe_int (nomark _)) (pw_or1 (pt_cmpR op_eq (pv 4) pe_int (nomark _))))) (pss_one (ps_ret (pe_op op_catE (pe_tup (pa_cons (pe_ix ix_list (pv 3) (pv 4) (fun _ _ => rfl)) (pa_cons (pe_call G_L_take (hr.mono (by first | decide | omega)) rfl T.M_L_take T.F_L_take.kp T.B_L_take .nil pass0 (pa_cons (pv 0) (pa_cons pe_int pa_nil))) pa_nil))) (pv 7)))) pss_nil)
    (pss_one (ps_ret (pe_op op_catE (pe_tup (pa_cons (pe_ix ix_list (pv 3) (pv 4) (fun _ _ => rfl)) pa_nil)) (pv 7))))))))))))), ?_⟩
  refine ⟨(by show 14 ≤ sizeLine; decide), fun pw hpw => ?_⟩
  have nw : pw ≠ l := hb.ne hpw
  show tSeq _ _ _ _ (upd H pw (.lst (wordL.map V.str)))
  have b1 := Bg.new hb hpw (.lst (wordL.map V.str))
  have hw1 : (upd H pw (.lst (wordL.map V.str))) pw = some (.lst (wordL.map V.str)) := upd_same
  generalize upd H pw (.lst (wordL.map V.str)) = H1 at b1 hw1 ⊢
  refine ⟨_, rfl, l, 18, rfl, b1.2, by decide, by decide, fun d H2 d0 d1 hb2 => ?_⟩
  have b2 := b1.trans hb2
  have hw2 := hb2.1 pw _ nw hw1
  obtain ⟨k, rfl⟩ := Int.eq_ofNat_of_zero_le d0
  have hk : k < 18 := by omega
  refine ⟨(by show 18 ≤ sizeLine; decide), fun p hp => ?_⟩
  refine ⟨_, rfl, p, manyL.map V.int, _, _, rfl, rfl, SqL.of upd_same, (show atI _ ((k : Nat) : Int) = _ from atI_nat (many_at hk)), ?_⟩
  show tSeq _ _ _ _ (upd H2 p (.lst (manyL.map V.int)))
  have b3 := b2.trans (Bg.new b2.2 hp (.lst (manyL.map V.int)))
  have hw3 : (upd H2 p (.lst (manyL.map V.int))) pw = some (.lst (wordL.map V.str)) := by rw [upd_ne (ne_of_none hw2 hp)]; exact hw2
  generalize upd H2 p (.lst (manyL.map V.int)) = H3 at b3 hw3 ⊢
  refine ⟨_, rfl, l, 8, rfl, b3.2, by decide, by decide, fun e H4 e0 e1 hb4 => ?_⟩
  have b4 := b3.trans hb4
  have hw4 := hb4.1 pw _ nw hw3
  refine ⟨_, _, rfl, rfl, ?_⟩
  obtain ⟨m0, m3⟩ := many_in k hk
  by_cases hA : n = 0
  · refine ⟨_, rfl, rfl, _, rfl, ite_t (decide_eq_true (by rw [hA]; rfl)) ?_⟩
    refine iteT ?_
    refine ⟨_, rfl, _, _, rfl, rfl, (by show (0 : Int) < 2; decide), rfl, _, rfl, ?_⟩
    refine ite2 (fun c => ?_) (fun c => ?_)
    · refine ⟨_, rfl, l, rfl, b4.2, fun z H5 hz hb5 => ?_⟩
      refine ⟨(by show 2 ≤ sizeLine; decide), fun p5 hp5 => ?_⟩
      exact q _ _ _ (good_wire hz hroom1) (Dat.tup upd_same (.cons (Dat.str _) (.cons (Dat.str _) .nil))) ((b4.trans hb5).trans (Bg.new hb5.2 hp5 _))
    · refine ⟨_, rfl, _, rfl, _, _, rfl, rfl, ⟨by omega, by omega, by decide⟩, l, _, rfl, b4.2, (sh_lt (c := 1) (by decide) (by decide) (by omega)).1, Int.lt_of_le_of_lt (sh_lt (c := 1) (by decide) (by decide) (by omega)).2 (by decide), fun d5 H5 d50 d51 hb5 => ?_⟩
      refine ⟨_, rfl, (by show 3 ≤ sizeLine; decide), fun p5 hp5 => ?_⟩
      exact q _ _ _ (good_num (i := d5) (w := 1 + e) (by omega) (by omega) d50 (by rw [Int.one_mul] at d51; exact d51) hroom1) (Dat.tup upd_same (.cons (Dat.str _) (.cons (Dat.int _) (.cons (Dat.int _) .nil)))) ((b4.trans hb5).trans (Bg.new hb5.2 hp5 _))
  refine ⟨_, rfl, rfl, _, rfl, ite_f (decide_eq_false fun h => by injection h with h; omega) ?_⟩
  by_cases hB : 13 < k
  · refine ⟨_, rfl, _, _, rfl, rfl, _, rfl, ite_t (decide_eq_true (by omega)) ?_⟩
    refine iteT ?_
    refine ⟨_, rfl, _, _, rfl, rfl, (by show (0 : Int) < 2; decide), rfl, _, rfl, ?_⟩
    refine ite2 (fun c => ?_) (fun c => ?_)
    · refine ⟨_, rfl, l, rfl, b4.2, fun z H5 hz hb5 => ?_⟩
      refine ⟨(by show 2 ≤ sizeLine; decide), fun p5 hp5 => ?_⟩
      exact q _ _ _ (good_wire hz hroom1) (Dat.tup upd_same (.cons (Dat.str _) (.cons (Dat.str _) .nil))) ((b4.trans hb5).trans (Bg.new hb5.2 hp5 _))
    · refine ⟨_, rfl, _, rfl, _, _, rfl, rfl, ⟨by omega, by omega, by decide⟩, l, _, rfl, b4.2, (sh_lt (c := 1) (by decide) (by decide) (by omega)).1, Int.lt_of_le_of_lt (sh_lt (c := 1) (by decide) (by decide) (by omega)).2 (by decide), fun d5 H5 d50 d51 hb5 => ?_⟩
      refine ⟨_, rfl, (by show 3 ≤ sizeLine; decide), fun p5 hp5 => ?_⟩
      exact q _ _ _ (good_num (i := d5) (w := 1 + e) (by omega) (by omega) d50 (by rw [Int.one_mul] at d51; exact d51) hroom1) (Dat.tup upd_same (.cons (Dat.str _) (.cons (Dat.int _) (.cons (Dat.int _) .nil)))) ((b4.trans hb5).trans (Bg.new hb5.2 hp5 _))
  refine ⟨_, rfl, _, _, rfl, rfl, _, rfl, ite_f (decide_eq_false (by omega)) ?_⟩
  by_cases hC : room ≤ manyL.getD k 0
  · refine ⟨_, rfl, _, rfl, _, _, rfl, rfl, _, rfl, ite_t (decide_eq_true hC) ?_⟩
    refine ⟨_, rfl, _, _, rfl, rfl, (by show (0 : Int) < 2; decide), rfl, _, rfl, ?_⟩
    refine ite2 (fun c => ?_) (fun c => ?_)
    · refine ⟨_, rfl, l, rfl, b4.2, fun z H5 hz hb5 => ?_⟩
      refine ⟨(by show 2 ≤ sizeLine; decide), fun p5 hp5 => ?_⟩
      exact q _ _ _ (good_wire hz hroom1) (Dat.tup upd_same (.cons (Dat.str _) (.cons (Dat.str _) .nil))) ((b4.trans hb5).trans (Bg.new hb5.2 hp5 _))
    · refine ⟨_, rfl, _, rfl, _, _, rfl, rfl, ⟨by omega, by omega, by decide⟩, l, _, rfl, b4.2, (sh_lt (c := 1) (by decide) (by decide) (by omega)).1, Int.lt_of_le_of_lt (sh_lt (c := 1) (by decide) (by decide) (by omega)).2 (by decide), fun d5 H5 d50 d51 hb5 => ?_⟩
      refine ⟨_, rfl, (by show 3 ≤ sizeLine; decide), fun p5 hp5 => ?_⟩
      exact q _ _ _ (good_num (i := d5) (w := 1 + e) (by omega) (by omega) d50 (by rw [Int.one_mul] at d51; exact d51) hroom1) (Dat.tup upd_same (.cons (Dat.str _) (.cons (Dat.int _) (.cons (Dat.int _) .nil)))) ((b4.trans hb5).trans (Bg.new hb5.2 hp5 _))
  refine ⟨_, rfl, _, rfl, _, _, rfl, rfl, _, rfl, ite_f (decide_eq_false hC) ?_⟩
  have hk14 : k < 14 := by omega
  obtain ⟨wi1, wi2, wi3, wi5, wi6, wi7, wi8⟩ := word_in k hk14
  refine ⟨_, rfl, _, rfl, _, _, rfl, rfl, _, rfl, l, room - 1, manyL.getD k 0, rfl, b4.2, m0, m3, by omega, by omega, fun pr rs H5 hpr hprl hb5 hpr5 hrl hrb hrsum => ?_⟩
  refine ⟨pr, rfl, ⟨_, SqL.of hpr5⟩, comp_list (xs := rs.map V.int) (fun i ys H' => Bg l H5 H' ∧ ∃ ds : List PyData, ds.length = i ∧ (∀ d ∈ ds, noL d = true ∧ szD d = true ∧ dpt n d = true ∧ 0 < pcs n d) ∧ (((ds.map (pcs n)).sum : Nat) : Int) ≤ (rs.take i).sum ∧ Dats H' ds ys) ⟨Bg.refl hb5.2, [], rfl, (fun _ h => nomatch h), by simp, Dats.nil⟩ ?_ ?_ ?_ ?_⟩
  · rintro i ys H' _ ⟨g, _⟩
    exact SqL.of (g.1 pr _ hprl hpr5)
  · rintro i ys H' hi ⟨g, ds, hs1, hs2, hsm, hs3⟩
    have hl := hs3.length
    rw [List.length_map] at hi
    exact smallL (by omega)
  · rintro i x ys H' hx ⟨g, ds, hs1, hs2, hsm, hs3⟩
    rw [List.getElem?_map] at hx
    obtain ⟨r, hr1, rfl⟩ := Option.map_eq_some_iff.mp hx
    have hr2 := hrb r (List.mem_of_getElem? hr1)
    unfold tYes
    refine iteT ⟨_, rfl, _, rfl, _, _, rfl, rfl, _, rfl, l, r, ?_, by omega, g.2, hr2.1, hr2.2, fun d v H6 gd hD hb6 => ?_⟩
    · show [V.ref l, V.int (((n + 1 : Nat) : Int) - 1), V.int r] = [V.ref l, V.int n, V.int r]
      rw [show (((n + 1 : Nat) : Int) - 1) = (n : Int) by omega]
    · refine ⟨g.trans hb6, ds ++ [d], by rw [List.length_append, hs1]; rfl, fun t ht => ?_, ?_, ?_⟩
      · rcases List.mem_append.mp ht with h | h
        · exact hs2 t h
        · rw [List.mem_singleton.mp h]; exact ⟨gd.1, gd.2.1, gd.2.2.1, gd.2.2.2.1⟩
      · rw [List.map_append, List.sum_append, List.map_singleton, List.sum_singleton, List.take_add_one, hr1, List.sum_append]
        show _ ≤ _ + [r].sum
        rw [List.sum_singleton]
        have := gd.2.2.2.2
        omega
      · exact (hs3.keepT (Bg.keepT g.2 hb6) (noLs_all fun t ht => (hs2 t ht).1)).append (.cons hD .nil)
  · rintro ys H6 ⟨g, ds, hs1, hs2, hsm, hs3⟩ pc hpc
    refine ⟨pc, _, rfl, .inl ⟨SqL.of upd_same, fun pt hpt => ?_⟩⟩
    have g7 := Bg.new g.2 hpc (.lst ys)
    have g8 := Bg.new g7.2 hpt (.tup ys)
    have g48 := (hb5.trans g).trans (g7.trans g8)
    have b8 := b4.trans g48
    have hs8 := hs3.same ((same_new hpc (.lst ys)).trans (same_new hpt (.tup ys)))
    have hw8 := g48.1 pw _ nw hw4
    have hpt8 : (upd (upd H6 pc (.lst ys)) pt (.tup ys)) pt = some (.tup ys) := upd_same
    show tSeq _ _ _ _ (upd (upd H6 pc (.lst ys)) pt (.tup ys))
    generalize upd (upd H6 pc (.lst ys)) pt (.tup ys) = H8 at b8 hs8 hw8 hpt8 ⊢
    have hdl : (ds.length : Int) = manyL.getD k 0 := by
      rw [hs1, List.length_map]; exact hrl
    have htk : rs.take (rs.map V.int).length = rs := by rw [List.length_map, List.take_length]
    rw [htk] at hsm
    have hyl := hs8.length
    have hnL : noLs ds = true := noLs_all fun t ht => (hs2 t ht).1
    have hat : atI (wordL.map V.str) ((k : Nat) : Int) = some (.str (wordL.getD k "")) := atI_nat (word_at hk14)
    have fin : ∀ (z : Str) (hd : List PyData) (hv : List V) (p0 : Addr) (Hf : Hp), Bg l H8 Hf → Hf p0 = some (.tup (.str z :: hv)) → Dats Hf hd hv → z ∈ words → formK z = hd.length + 1 → (hd.length : Int) + manyL.getD k 0 + 1 = ((formN z : Nat) : Int) → (∀ ds : List PyData, restD z (hd ++ ds) = true) → (∀ d ∈ hd, noL d = true ∧ szD d = true ∧ dpt n d = true) → rCatE (.ref p0) (.ref pt) Hf Q := fun z hd hv p0 Hf gf h1 h2 h3 h4 h5 h6 h7 => by
      have kt := Bg.keepT b8.2 gf
      have hvl := h2.length
      have hfn : formN z ≤ 4 := by unfold formN; repeat (first | omega | split)
      refine ⟨p0, pt, _, _, rfl, rfl, h1, kt _ _ hpt8, (by rw [List.length_cons]; exact small (by omega)), fun p' H' sm hp' => ?_⟩
      refine q (.tuple (.str z :: (hd ++ ds))) (.ref p') H' (good_mk h3 (by omega) h4 (h6 ds) h7 hs2 (by omega)) ?_ ((b8.trans gf).trans (gf.2.same sm))
      exact Dat.tup hp' (.cons (Dat.str z) ((h2.same sm).append ((hs8.keepT kt hnL).same sm)))
    refine ⟨_, rfl, _, rfl, pw, _, _, _, rfl, rfl, SqL.of hw8, hat, rfl, _, rfl, ?_⟩
    by_cases h12 : k = 12
    · refine ite_t (decide_eq_true (by rw [wi5 h12])) ?_
      refine ⟨_, rfl, l, 8, rfl, b8.2, by decide, by decide, fun d9 H9 d90 d91 hb9 => ?_⟩
      refine ⟨_, rfl, (by show 3 ≤ sizeLine; decide), fun p9 hp9 => ?_⟩
      refine ⟨_, rfl, ?_⟩
      refine fin "cut" [.int d9, .int (1 + e)] [.int d9, .int (1 + e)] p9 _ (hb9.trans (Bg.new hb9.2 hp9 _)) upd_same (.cons (Dat.int _) (.cons (Dat.int _) .nil)) (by decide) (by show formK "cut" = 3; decide) ?_ ?_ ?_
      · rw [h12]
        show (2 : Int) + 1 + 1 = ((formN "cut" : Nat) : Int)
        decide
      · intro ds
        show ((decide (0 ≤ d9) && decide (d9 ≤ 7)) && (decide (1 ≤ 1 + e) && decide (1 + e ≤ 8))) = true
        rw [decide_eq_true d90, decide_eq_true (by omega : d9 ≤ 7), decide_eq_true (by omega : 1 ≤ 1 + e), decide_eq_true (by omega : 1 + e ≤ 8)]
        rfl
      · intro d hd
        simp only [List.mem_cons, List.not_mem_nil, or_false] at hd
        rcases hd with rfl | rfl <;> exact ⟨by simp [noL], by simp [szD], dpt_flat rfl⟩
    have ncut : wordL.getD k "" ≠ "cut" := cut_ne k hk14 h12
    refine ite_f (decide_eq_false fun h => ncut (by injection h)) ?_
    refine ⟨_, rfl, _, rfl, pw, _, _, _, rfl, rfl, SqL.of hw8, hat, rfl, _, rfl, ?_⟩
    by_cases h13 : k = 13
    · refine ite_t (decide_eq_true (by rw [wi6 h13])) ?_
      refine ⟨_, rfl, l, 4, rfl, b8.2, by decide, by decide, fun d9 H9 d90 d91 hb9 => ?_⟩
      have hsh := sh_lt (c := 2) (e := d9) (by decide) (by decide) (by omega)
      refine ⟨_, _, rfl, rfl, ⟨by omega, by omega, by decide⟩, _, rfl, by omega, by omega, comp_range (lo := 0) (fun i ys H' => Bg l H9 H' ∧ ∃ ns : List Int, ys = ns.map V.int ∧ ns.length = i ∧ ∀ j ∈ ns, 0 ≤ j ∧ j < 2 ^ (1 + e).toNat) ⟨Bg.refl hb9.2, [], rfl, rfl, (fun _ h => nomatch h)⟩ ?_ ?_ ?_⟩
      · rintro i ys' H' hi ⟨g', ns, rfl, hns, _⟩
        rw [List.length_map]
        exact smallL (by omega)
      · rintro i ys' H' hi ⟨g', ns, rfl, hns, hnr⟩
        unfold tYes
        refine iteT ⟨_, rfl, _, rfl, _, _, rfl, rfl, ⟨by omega, by omega, by decide⟩, l, _, rfl, g'.2, (sh_lt (c := 1) (by decide) (by decide) (by omega)).1, Int.lt_of_le_of_lt (sh_lt (c := 1) (by decide) (by decide) (by omega)).2 (by decide), fun d10 H10 d100 d101 hb10 => ?_⟩
        refine ⟨g'.trans hb10, ns ++ [d10], by rw [List.map_append]; rfl, by rw [List.length_append, hns]; rfl, fun j hj => ?_⟩
        rcases List.mem_append.mp hj with h | h
        · exact hnr j h
        · rw [List.mem_singleton.mp h]; exact ⟨d100, by rw [Int.one_mul] at d101; exact d101⟩
      · rintro ys' H10 ⟨g', ns, rfl, hns, hnr⟩ pc2 hpc2
        refine ⟨pc2, _, rfl, .inl ⟨SqL.of upd_same, fun pn2 hpn2 => ?_⟩⟩
        have g11 := Bg.new g'.2 hpc2 (.lst (ns.map V.int))
        have g12 := Bg.new g11.2 hpn2 (.tup (ns.map V.int))
        have g812 := (hb9.trans g').trans (g11.trans g12)
        have htl := tab_len d90 d91
        have hns16 : ns.length = 2 ∨ ns.length = 4 ∨ ns.length = 8 ∨ ns.length = 16 := by omega
        refine ⟨_, rfl, _, rfl, (by show 3 ≤ sizeLine; decide), fun p9 hp9 => ?_⟩
        refine ⟨_, rfl, ?_⟩
        refine fin "table" [.int (1 + e), .tuple (ns.map PyData.int)] [.int (1 + e), .ref pn2] p9 _ (g812.trans (Bg.new g12.2 hp9 _)) upd_same (.cons (Dat.int _) (.cons (Dat.tup (by rw [upd_ne (ne_of_none upd_same hp9), upd_same]) (Dats.ints ns)) .nil)) (by decide) (by show formK "table" = 3; decide) ?_ ?_ ?_
        · rw [h13]
          show (2 : Int) + 1 + 1 = ((formN "table" : Nat) : Int)
          decide
        · intro ds
          show numsD (.tuple (ns.map PyData.int)) (.int (1 + e)) = true
          show ((decide ((ns.map PyData.int).length = 2) || decide ((ns.map PyData.int).length = 4) || decide ((ns.map PyData.int).length = 8) || decide ((ns.map PyData.int).length = 16)) && (ns.map PyData.int).all fun x => numD x (.int (1 + e))) = true
          rw [Bool.and_eq_true, List.length_map]
          refine ⟨?_, List.all_eq_true.mpr fun x hx => ?_⟩
          · rcases hns16 with h | h | h | h <;> rw [h] <;> rfl
          · obtain ⟨j, hj, rfl⟩ := List.mem_map.mp hx
            exact numD_int (by omega) (by omega) (hnr j hj).1 (hnr j hj).2
        · intro d hd
          simp only [List.mem_cons, List.not_mem_nil, or_false] at hd
          rcases hd with rfl | rfl
          · exact ⟨by simp [noL], by simp [szD], dpt_flat rfl⟩
          · obtain ⟨m, rfl⟩ : ∃ m, n = m + 1 := ⟨n - 1, by omega⟩
            refine ⟨noL_tup.mpr fun x hx => ?_, szD_tup.mpr ⟨by rw [List.length_map]; omega, fun x hx => ?_⟩, dpt_mk (by rw [List.length_map]; omega) fun x hx => ?_⟩ <;> obtain ⟨j, hj, rfl⟩ := List.mem_map.mp hx
            · simp [noL]
            · simp [szD]
            · exact dpt_flat rfl
    have ntab : wordL.getD k "" ≠ "table" := tab_ne k hk14 h13
    refine ite_f (decide_eq_false fun h => ntab (by injection h)) ?_
    by_cases h10 : k = 10
    · refine ⟨_, rfl, rfl, _, rfl, ite_t (decide_eq_true (by rw [h10]; rfl)) ?_⟩
      refine iteT ?_
      refine ⟨_, rfl, _, rfl, pw, _, _, _, rfl, rfl, SqL.of hw8, hat, _, rfl, l, 9, rfl, b8.2, by decide, by decide, fun d9 H9 d90 d91 hb9 => ?_⟩
      refine ⟨(by show 2 ≤ sizeLine; decide), fun p9 hp9 => ?_⟩
      refine ⟨_, rfl, ?_⟩
      refine fin (wordL.getD k "") [.int d9] [.int d9] p9 _ (hb9.trans (Bg.new hb9.2 hp9 _)) upd_same (.cons (Dat.int _) .nil) wi1 ?_ ?_ ?_ ?_
      · rw [wi3, if_pos (.inl h10)]; rfl
      · have h3 := wi2
        rw [wi3, if_pos (.inl h10)] at h3
        show ((1 : Nat) : Int) + _ + 1 = _
        omega
      · intro ds
        rw [wi7 h10]
        show betD (.int d9) 0 8 = true
        show (decide (0 ≤ d9) && decide (d9 ≤ 8)) = true
        rw [decide_eq_true d90, decide_eq_true (by omega)]
        rfl
      · intro d hd
        rw [List.mem_singleton.mp hd]
        exact ⟨by simp [noL], by simp [szD], dpt_flat rfl⟩
    refine ⟨_, rfl, rfl, _, rfl, ite_f (decide_eq_false fun h => by injection h with h; omega) ?_⟩
    by_cases h11 : k = 11
    · refine ⟨_, rfl, rfl, _, rfl, ite_t (decide_eq_true (by rw [h11]; rfl)) ?_⟩
      refine ⟨_, rfl, _, rfl, pw, _, _, _, rfl, rfl, SqL.of hw8, hat, _, rfl, l, 9, rfl, b8.2, by decide, by decide, fun d9 H9 d90 d91 hb9 => ?_⟩
      refine ⟨(by show 2 ≤ sizeLine; decide), fun p9 hp9 => ?_⟩
      refine ⟨_, rfl, ?_⟩
      refine fin (wordL.getD k "") [.int d9] [.int d9] p9 _ (hb9.trans (Bg.new hb9.2 hp9 _)) upd_same (.cons (Dat.int _) .nil) wi1 ?_ ?_ ?_ ?_
      · rw [wi3, if_pos (.inr h11)]; rfl
      · have h3 := wi2
        rw [wi3, if_pos (.inr h11)] at h3
        show ((1 : Nat) : Int) + _ + 1 = _
        omega
      · intro ds
        rw [wi8 h11]
        show betD (.int d9) 0 8 = true
        show (decide (0 ≤ d9) && decide (d9 ≤ 8)) = true
        rw [decide_eq_true d90, decide_eq_true (by omega)]
        rfl
      · intro d hd
        rw [List.mem_singleton.mp hd]
        exact ⟨by simp [noL], by simp [szD], dpt_flat rfl⟩
    refine ⟨_, rfl, rfl, _, rfl, ite_f (decide_eq_false fun h => by injection h with h; omega) ?_⟩
    refine ⟨_, rfl, _, rfl, pw, _, _, _, rfl, rfl, SqL.of hw8, hat, (by show 1 ≤ sizeLine; decide), fun p9 hp9 => ?_⟩
    refine ⟨_, rfl, ?_⟩
    have hk1 : formK (wordL.getD k "") = 1 := by rw [wi3, if_neg (by omega), if_neg (by omega)]
    refine fin (wordL.getD k "") [] [] p9 _ (Bg.new b8.2 hp9 _) upd_same .nil wi1 hk1 ?_ ?_ (fun _ h => nomatch h)
    · rw [hk1] at wi2
      show ((0 : Nat) : Int) + _ + 1 = _
      omega
    · intro ds
      unfold restD
      rw [if_neg (wn_ne k hk14).1, if_neg (wn_ne k hk14).2, if_neg (up_ne k hk14 h10 h11), if_neg ncut, if_neg ntab]
theorem ok_L_odd (T : Tx w K mg A) (G_L_take : FnOk P w K mg base CX0 1 A.a_L_take A.d_L_take ["_law_bag_here", "_law_many"] sp_L_take) : FnOk P w K mg base CX0 2 A.a_L_odd A.d_L_odd ["_law_bag_here"] sp_L_odd := by
  refine T.F_L_odd.ok sc_L_odd (fun vs H Q E h => ?_) (fun cdv A' outer s H vs Q E hr h => ?_)
  · obtain ⟨l, rfl, hb, q⟩ := h
    rfl
  obtain ⟨l, rfl, hb, q⟩ := h
  refine ⟨_, (pss_cons (ps_set (i := 1) sc_L_odd.nd rfl (Or.inl rfl) (pe_lst (pa_dats rfl)))
    (pss_cons (ps_set (i := 1) sc_L_odd.nd rfl (Or.inl rfl) (pe_op op_cat (pv 1) (pe_lst (pa_dats rfl))))
    (pss_cons (ps_set (i := 1) sc_L_odd.nd rfl (Or.inl rfl) (pe_op op_cat (pv 1) (pe_lst (pa_dats rfl))))
    (pss_cons (ps_set (i := 1) sc_L_odd.nd rfl (Or.inl rfl) (pe_op op_cat (pv 1) (pe_lst (pa_dats rfl))))
    (pss_cons (ps_set (i := 1) sc_L_odd.nd rfl (Or.inl rfl) (pe_op op_cat (pv 1) (pe_lst (pa_dats rfl))))
    (pss_one (ps_ret (pe_ix ix_list (pv 1) (pe_call G_L_take (hr.mono (by first | decide | omega)) rfl T.M_L_take T.F_L_take.kp T.B_L_take .nil pass0 (pa_cons (pv 0) (pa_cons (pe_callB call_len rfl T.len PySem.boot_len (pa_cons (pv 1) pa_nil)) pa_nil))) (fun _ _ => rfl))))))))), ?_⟩
  intro xs0 G0 t0 DS
  have hxl := DS.length
  refine ⟨by rw [← hxl]; exact small (by decide), fun p0 hp0 => ?_⟩
  show tSeq _ _ _ _ (upd G0 p0 (.lst xs0))
  have u0 := same_new hp0 (.lst xs0)
  have DS := DS.same (newO_same u0)
  have fS : (upd G0 p0 (.lst xs0)) p0 = some (.lst xs0) := upd_same
  have t0 := t0.trans u0
  generalize upd G0 p0 (.lst xs0) = M0 at DS t0 fS ⊢
  have DS := DS.same (newO_del (bag_some hb))
  have b0 : Bg l H M0 := hb.same t0
  obtain ⟨ds0, hlen, hsz, DS⟩ : ∃ ds : List PyData, ds.length = 19 ∧ ds.all szD = true ∧ Dats (del M0 l) ds xs0 := by
    refine ⟨_, ?_, ?_, DS⟩
    · rfl
    · decide
  have hxl := DS.length
  refine ⟨_, rfl, ?_⟩
  intro ys1 G1 t1 E1
  have hy1 := E1.length
  refine ⟨by rw [← hy1]; exact small (by decide), fun pL1 hpL1 => ?_⟩
  have u1 := same_new hpL1 (.lst ys1)
  have fL1 : (upd G1 pL1 (.lst ys1)) pL1 = some (.lst ys1) := upd_same
  have E1 := E1.same (newO_same u1)
  have t1 := t1.trans u1
  generalize upd G1 pL1 (.lst ys1) = K1 at t1 fL1 E1 ⊢
  have E1 := E1.same (newO_del (bag_some b0.2))
  have DS := DS.same t1.del
  have fS := t1 _ _ fS
  have b1 := b0.trans (b0.2.same t1)
  refine ⟨p0, pL1, _, _, rfl, rfl, fS, fL1, small (by rw [← hxl, hlen, ← hy1]; decide), fun p1 hp1 => ?_⟩
  show tSeq _ _ _ _ (upd K1 p1 (.lst (xs0 ++ ys1)))
  have DS := (DS.append E1).same (same_new hp1 (.lst (xs0 ++ ys1))).del
  have n1 : p1 ≠ l := b1.2.ne hp1
  have b1 := b1.trans (Bg.new b1.2 hp1 (.lst (xs0 ++ ys1)))
  have fS : (upd K1 p1 (.lst (xs0 ++ ys1))) p1 = some (.lst (xs0 ++ ys1)) := upd_same
  generalize upd K1 p1 (.lst (xs0 ++ ys1)) = M1 at b1 DS fS ⊢
  obtain ⟨ds1, hlen, hsz, DS⟩ : ∃ ds : List PyData, ds.length = 29 ∧ ds.all szD = true ∧ Dats (del M1 l) ds (xs0 ++ ys1) := by
    refine ⟨_, ?_, ?_, DS⟩
    · rw [List.length_append, hlen]; rfl
    · rw [List.all_append, hsz]; decide
  have hxl := DS.length
  generalize xs0 ++ ys1 = xs1 at DS fS hxl
  refine ⟨_, rfl, ?_⟩
  intro ys2 G2 t2 E2
  have hy2 := E2.length
  refine ⟨by rw [← hy2]; exact small (by decide), fun pL2 hpL2 => ?_⟩
  have u2 := same_new hpL2 (.lst ys2)
  have fL2 : (upd G2 pL2 (.lst ys2)) pL2 = some (.lst ys2) := upd_same
  have E2 := E2.same (newO_same u2)
  have t2 := t2.trans u2
  generalize upd G2 pL2 (.lst ys2) = K2 at t2 fL2 E2 ⊢
  have E2 := E2.same (newO_del (bag_some b1.2))
  have DS := DS.same t2.del
  have fS := t2 _ _ fS
  have b2 := b1.trans (b1.2.same t2)
  refine ⟨p1, pL2, _, _, rfl, rfl, fS, fL2, small (by rw [← hxl, hlen, ← hy2]; decide), fun p2 hp2 => ?_⟩
  show tSeq _ _ _ _ (upd K2 p2 (.lst (xs1 ++ ys2)))
  have DS := (DS.append E2).same (same_new hp2 (.lst (xs1 ++ ys2))).del
  have n2 : p2 ≠ l := b2.2.ne hp2
  have b2 := b2.trans (Bg.new b2.2 hp2 (.lst (xs1 ++ ys2)))
  have fS : (upd K2 p2 (.lst (xs1 ++ ys2))) p2 = some (.lst (xs1 ++ ys2)) := upd_same
  generalize upd K2 p2 (.lst (xs1 ++ ys2)) = M2 at b2 DS fS ⊢
  obtain ⟨ds2, hlen, hsz, DS⟩ : ∃ ds : List PyData, ds.length = 34 ∧ ds.all szD = true ∧ Dats (del M2 l) ds (xs1 ++ ys2) := by
    refine ⟨_, ?_, ?_, DS⟩
    · rw [List.length_append, hlen]; rfl
    · rw [List.all_append, hsz]; decide
  have hxl := DS.length
  generalize xs1 ++ ys2 = xs2 at DS fS hxl
  refine ⟨_, rfl, ?_⟩
  intro ys3 G3 t3 E3
  have hy3 := E3.length
  refine ⟨by rw [← hy3]; exact small (by decide), fun pL3 hpL3 => ?_⟩
  have u3 := same_new hpL3 (.lst ys3)
  have fL3 : (upd G3 pL3 (.lst ys3)) pL3 = some (.lst ys3) := upd_same
  have E3 := E3.same (newO_same u3)
  have t3 := t3.trans u3
  generalize upd G3 pL3 (.lst ys3) = K3 at t3 fL3 E3 ⊢
  have E3 := E3.same (newO_del (bag_some b2.2))
  have DS := DS.same t3.del
  have fS := t3 _ _ fS
  have b3 := b2.trans (b2.2.same t3)
  refine ⟨p2, pL3, _, _, rfl, rfl, fS, fL3, small (by rw [← hxl, hlen, ← hy3]; decide), fun p3 hp3 => ?_⟩
  show tSeq _ _ _ _ (upd K3 p3 (.lst (xs2 ++ ys3)))
  have DS := (DS.append E3).same (same_new hp3 (.lst (xs2 ++ ys3))).del
  have n3 : p3 ≠ l := b3.2.ne hp3
  have b3 := b3.trans (Bg.new b3.2 hp3 (.lst (xs2 ++ ys3)))
  have fS : (upd K3 p3 (.lst (xs2 ++ ys3))) p3 = some (.lst (xs2 ++ ys3)) := upd_same
  generalize upd K3 p3 (.lst (xs2 ++ ys3)) = M3 at b3 DS fS ⊢
  obtain ⟨ds3, hlen, hsz, DS⟩ : ∃ ds : List PyData, ds.length = 41 ∧ ds.all szD = true ∧ Dats (del M3 l) ds (xs2 ++ ys3) := by
    refine ⟨_, ?_, ?_, DS⟩
    · rw [List.length_append, hlen]; rfl
    · rw [List.all_append, hsz]; decide
  have hxl := DS.length
  generalize xs2 ++ ys3 = xs3 at DS fS hxl
  refine ⟨_, rfl, ?_⟩
  intro ys4 G4 t4 E4
  have hy4 := E4.length
  refine ⟨by rw [← hy4]; exact small (by decide), fun pL4 hpL4 => ?_⟩
  have u4 := same_new hpL4 (.lst ys4)
  have fL4 : (upd G4 pL4 (.lst ys4)) pL4 = some (.lst ys4) := upd_same
  have E4 := E4.same (newO_same u4)
  have t4 := t4.trans u4
  generalize upd G4 pL4 (.lst ys4) = K4 at t4 fL4 E4 ⊢
  have E4 := E4.same (newO_del (bag_some b3.2))
  have DS := DS.same t4.del
  have fS := t4 _ _ fS
  have b4 := b3.trans (b3.2.same t4)
  refine ⟨p3, pL4, _, _, rfl, rfl, fS, fL4, small (by rw [← hxl, hlen, ← hy4]; decide), fun p4 hp4 => ?_⟩
  show tSeq _ _ _ _ (upd K4 p4 (.lst (xs3 ++ ys4)))
  have DS := (DS.append E4).same (same_new hp4 (.lst (xs3 ++ ys4))).del
  have n4 : p4 ≠ l := b4.2.ne hp4
  have b4 := b4.trans (Bg.new b4.2 hp4 (.lst (xs3 ++ ys4)))
  have fS : (upd K4 p4 (.lst (xs3 ++ ys4))) p4 = some (.lst (xs3 ++ ys4)) := upd_same
  generalize upd K4 p4 (.lst (xs3 ++ ys4)) = M4 at b4 DS fS ⊢
  obtain ⟨ds4, hlen, hsz, DS⟩ : ∃ ds : List PyData, ds.length = 43 ∧ ds.all szD = true ∧ Dats (del M4 l) ds (xs3 ++ ys4) := by
    refine ⟨_, ?_, ?_, DS⟩
    · rw [List.length_append, hlen]; rfl
    · rw [List.all_append, hsz]; decide
  have hxl := DS.length
  generalize xs3 ++ ys4 = xs4 at DS fS hxl
  refine ⟨_, rfl, _, rfl, _, rfl, _, _, rfl, .inl ⟨_, SqL.of fS, rfl⟩, l, _, rfl, b4.2, (by rw [← hxl, hlen]; decide), (by rw [← hxl, hlen]; decide), fun d9 H9 d90 d91 hb9 => ?_⟩
  obtain ⟨k9, rfl⟩ := Int.eq_ofNat_of_zero_le d90
  have hk9 : k9 < xs4.length := by omega
  obtain ⟨e9, he9, hD9⟩ := DS.get (List.getElem?_eq_getElem hk9)
  have hsz9 := List.all_eq_true.mp hsz e9 (List.mem_of_getElem? he9)
  refine ⟨p4, _, _, _, rfl, rfl, SqL.of (hb9.1 p4 _ n4 fS), (show atI _ ((k9 : Nat) : Int) = _ from atI_nat (List.getElem?_eq_getElem hk9)), ?_⟩
  exact q e9 _ H9 hsz9 (hD9.same hb9.del) (b4.trans hb9)
theorem ok_L_spoilt (T : Tx w K mg A) (G_L_take : FnOk P w K mg base CX0 1 A.a_L_take A.d_L_take ["_law_bag_here", "_law_many"] sp_L_take) (G_L_odd : FnOk P w K mg base CX0 2 A.a_L_odd A.d_L_odd ["_law_bag_here"] sp_L_odd) (n : Nat) (G_L_spoilt : FnOk P w K mg base CX0 (n + 2) A.a_L_spoilt A.d_L_spoilt ["_law_thing", "_law_bag_here"] (sp_spoilt n)) : FnOk P w K mg base CX0 (n + 3) A.a_L_spoilt A.d_L_spoilt ["_law_thing", "_law_bag_here"] (sp_spoilt (n + 1)) := by
  refine T.F_L_spoilt.ok sc_L_spoilt (fun vs H Q E h => ?_) (fun cdv A' outer s H vs Q E hr h => ?_)
  · obtain ⟨m, d, v, l, hm, rfl, hb, hD, hnl, hsz, hdp, q⟩ := h
    rfl
  obtain ⟨m, d, v, l, hm, rfl, hb, hD, hnl, hsz, hdp, q⟩ := h
  refine ⟨_, (pss_cons (ps_if (PW.pt (pw_or (pt_not (pt_truth (pe_callB (call_isinst (T := "tuple")) rfl T.isinstance PyProof.Rows.boot_isinstance (pa_cons (pv 0) (pa_cons (pe_bltn (v := .ty "tuple") rfl T.tuple PyProof.Rows.boot_tuple rfl) pa_nil))) (fun _ => rfl))) (pw_or (pt_cmpR op_eq (pe_callB call_len rfl T.len PySem.boot_len (pa_cons (pv 0) pa_nil)) pe_int (nomark _)) (pw_or1 (pt_cmpR op_eq (pe_call G_L_take (hr.mono (by first | decide | omega)) rfl T.M_L_take T.F_L_take.kp T.B_L_take .nil pass0 (pa_cons (pv 1) (pa_cons pe_int pa_nil))) pe_int (nomark _)))))) (pss_one (ps_ret (pe_call G_L_odd (hr.mono (by first | decide | omega)) rfl T.M_L_odd T.F_L_odd.kp T.B_L_odd .nil pass0 (pa_cons (pv 1) pa_nil)))) pss_nil)
    (pss_cons (ps_set (i := 2) sc_L_spoilt.nd rfl (Or.inl rfl) (pe_call G_L_take (hr.mono (by first | decide | omega)) rfl T.M_L_take T.F_L_take.kp T.B_L_take .nil pass0 (pa_cons (pv 1) (pa_cons (pe_callB call_len rfl T.len PySem.boot_len (pa_cons (pv 0) pa_nil)) pa_nil))))
    (pss_cons (ps_set (i := 3) sc_L_spoilt.nd rfl (Or.inl rfl) (pe_call G_L_take (hr.mono (by first | decide | omega)) rfl T.M_L_take T.F_L_take.kp T.B_L_take .nil pass0 (pa_cons (pv 1) (pa_cons pe_int pa_nil))))
    (pss_cons (ps_if (pt_cmpR op_eq (pv 3) pe_int (nomark _)) (pss_one (ps_ret (pe_op op_catE (pe_slice sl_tupE (pv 0) po_none (po_some (pv 2))) (pe_slice sl_tupE (pv 0) (po_some (pe_op op_add (pv 2) pe_int)) po_none)))) pss_nil)
    (pss_cons (ps_if (pt_cmpR op_eq (pv 3) pe_int (nomark _)) (pss_one (ps_ret (pe_op op_catE (pe_op op_catE (pe_slice sl_tupE (pv 0) po_none (po_some (pv 2))) (pe_slice sl_tupE (pv 0) (po_some (pv 2)) (po_some (pe_op op_add (pv 2) pe_int)))) (pe_slice sl_tupE (pv 0) (po_some (pv 2)) po_none)))) pss_nil)
    (pss_one (ps_ret (pe_op op_catE (pe_op op_catE (pe_slice sl_tupE (pv 0) po_none (po_some (pv 2))) (pe_tup (pa_cons (pe_call G_L_spoilt (hr.mono (by first | decide | omega)) rfl T.M_L_spoilt T.F_L_spoilt.kp T.B_L_spoilt .nil pass0 (pa_cons (pe_ix ix_tup (pv 0) (pv 2) (fun _ _ => rfl)) (pa_cons (pv 1) pa_nil))) pa_nil))) (pe_slice sl_tupE (pv 0) (po_some (pe_op op_add (pv 2) pe_int)) po_none))))))))), ?_⟩
  obtain ⟨t, ty, _, _, _, kT, _⟩ := hD.ty (K := K)
  refine ⟨_, rfl, v, t, _, rfl, ty, kT, _, rfl, ?_⟩
  cases d with
  | tuple ds =>
    obtain ⟨p, xs, rfl, hp, hxs⟩ := hD.tupI
    have hxl := hxs.length
    obtain ⟨m', rfl, h20, hdd⟩ := dpt_tup hdp
    refine ite_f rfl ⟨_, rfl, _, _, rfl, .inr ⟨_, SqT.of hp, rfl⟩, rfl, _, rfl, ?_⟩
    cases ds with
    | nil =>
      have e := hxs.nilI
      subst e
      refine ite_t (by decide) (iteT ?_)
      exact ⟨_, rfl, l, rfl, hb, fun d' v' H' h1 h2 h3 => q d' v' H' h1 h2 h3⟩
    | cons y yr =>
      refine ite_f (decide_eq_false (by intro e; injection e with e; rw [List.length_cons] at hxl; omega)) ?_
      refine ⟨_, rfl, l, 4, rfl, hb, by decide, by decide, fun d1 H1 _ _ hb1 => ⟨rfl, _, rfl, ?_⟩⟩
      have kt1 := Bg.keepT hb hb1
      refine ite2 (fun c => ?_) (fun c => ?_)
      · exact ⟨_, rfl, l, rfl, hb1.2, fun d' v' H' h1 h2 h3 => q d' v' H' h1 h2 (hb1.trans h3)⟩
      have hxpos : 0 < xs.length := by rw [← hxl, List.length_cons]; omega
      have hx20 : xs.length ≤ 20 := by omega
      refine ⟨_, rfl, _, rfl, _, _, rfl, .inr ⟨_, SqT.of (kt1 _ _ hp), rfl⟩, l, _, rfl, hb1.2, by omega, Int.lt_of_lt_of_le (show ((xs.length : Nat) : Int) < 1000 by omega) (by decide), fun at' H2 a0 a1 hb2 => ?_⟩
      obtain ⟨a, rfl⟩ := Int.eq_ofNat_of_zero_le a0
      have ha : a < xs.length := by omega
      refine ⟨_, rfl, l, 8, rfl, hb2.2, by decide, by decide, fun way H3 w0 w1 hb3 => ?_⟩
      have b3 := (hb1.trans hb2).trans hb3
      have kt3 := Bg.keepT hb b3
      have hp3 := kt3 _ _ hp
      have hx3 := hxs.keepT kt3 (noLs_all (noL_tup.mp hnl))
      have hszd := (szD_tup.mp hsz).2
      generalize hL : y :: yr = ds at *
      refine ⟨_, rfl, rfl, _, rfl, ?_⟩
      refine ite2 (fun c6 => ?_) (fun c6 => ?_)
      · refine ⟨_, rfl, _, rfl, _, rfl, p, _, rfl, hp3, fun p4 H4 s4 f4 => ?_⟩
        refine ⟨_, rfl, _, rfl, _, _, rfl, rfl, _, rfl, p, _, rfl, s4 _ _ hp3, fun p5 H5 s5 f5 => ?_⟩
        rw [cut_to (by omega)] at f4
        rw [show ((a : Int) + 1) = ((a + 1 : Nat) : Int) by omega, cut_from (by omega)] at f5
        refine ⟨p4, p5, _, _, rfl, rfl, s5 _ _ f4, f5, small (by rw [List.length_take, List.length_drop]; omega), fun p6 H6 s6 f6 => ?_⟩
        have s36 := (s4.trans s5).trans s6
        refine q (.tuple (ds.take a ++ ds.drop (a + 1))) _ H6 (szD_tup.mpr ⟨by rw [List.length_append, List.length_take, List.length_drop]; omega, fun d' hd' => ?_⟩) (Dat.tup f6 (((hx3.take a).append (hx3.drop (a + 1))).same s36)) (b3.trans (b3.2.same s36))
        rcases List.mem_append.mp hd' with h | h
        · exact hszd d' (List.mem_of_mem_take h)
        · exact hszd d' (List.mem_of_mem_drop h)
      refine ⟨_, rfl, rfl, _, rfl, ?_⟩
      refine ite2 (fun c7 => ?_) (fun c7 => ?_)
      · refine ⟨_, rfl, _, rfl, _, rfl, p, _, rfl, hp3, fun p4 H4 s4 f4 => ?_⟩
        refine ⟨_, rfl, _, rfl, _, rfl, _, rfl, _, _, rfl, rfl, _, rfl, p, _, rfl, s4 _ _ hp3, fun p5 H5 s5 f5 => ?_⟩
        rw [cut_to (by omega)] at f4
        have hc5 : cutV xs (some (a : Int)) (some ((a : Int) + 1)) = (xs.drop a).take 1 := by
          unfold cutV
          rw [show ((a : Int) + 1) = ((a + 1 : Nat) : Int) by omega, HT.sIx_nat, HT.sIx_nat, Nat.min_eq_left (by omega), Nat.min_eq_left (by omega), Nat.add_sub_cancel_left]
        rw [hc5] at f5
        refine ⟨p4, p5, _, _, rfl, rfl, s5 _ _ f4, f5, small (by rw [List.length_take, List.length_take, List.length_drop]; omega), fun p6 H6 s6 f6 => ?_⟩
        have s36 := (s4.trans s5).trans s6
        refine ⟨_, rfl, _, rfl, _, rfl, p, _, rfl, s36 _ _ hp3, fun p7 H7 s7 f7 => ?_⟩
        rw [cut_from (by omega)] at f7
        refine ⟨p6, p7, _, _, rfl, rfl, s7 _ _ f6, f7, small (by rw [List.length_append, List.length_take, List.length_take, List.length_drop]; omega), fun p8 H8 s8 f8 => ?_⟩
        have s38 := (s36.trans s7).trans s8
        refine q (.tuple (ds.take a ++ (ds.drop a).take 1 ++ ds.drop a)) _ H8 (szD_tup.mpr ⟨by rw [List.length_append, List.length_append, List.length_take, List.length_take, List.length_drop]; omega, fun d' hd' => ?_⟩) (Dat.tup f8 ((((hx3.take a).append ((hx3.drop a).take 1)).append (hx3.drop a)).same s38)) (b3.trans (b3.2.same s38))
        rcases List.mem_append.mp hd' with h | h
        · rcases List.mem_append.mp h with h | h
          · exact hszd d' (List.mem_of_mem_take h)
          · exact hszd d' (List.mem_of_mem_drop (List.mem_of_mem_take h))
        · exact hszd d' (List.mem_of_mem_drop h)
      · refine ⟨_, rfl, _, rfl, _, rfl, p, _, rfl, hp3, fun p4 H4 s4 f4 => ?_⟩
        rw [cut_to (by omega)] at f4
        have hx4 := hx3.same s4
        have hdl : a < ds.length := by omega
        obtain ⟨e1, he1, hDe⟩ := hx4.get (List.getElem?_eq_getElem ha)
        have hem : e1 ∈ ds := List.mem_of_getElem? he1
        have b4 := b3.trans (b3.2.same s4)
        refine ⟨_, rfl, _, rfl, p, _, _, _, rfl, rfl, SqT.of (s4 _ _ hp3), (show atI _ ((a : Nat) : Int) = _ from atI_nat (List.getElem?_eq_getElem ha)), _, rfl, m', e1, _, l, by omega, rfl, b4.2, hDe, noL_tup.mp hnl e1 hem, hszd e1 hem, hdd e1 hem, fun d' v' H5 hsz' hD' hb5 => ?_⟩
        have kt5 := Bg.keepT b4.2 hb5
        have hx5 := hx4.keepT kt5 (noLs_all (noL_tup.mp hnl))
        have f45 := kt5 _ _ f4
        refine ⟨(by show 1 ≤ sizeLine; decide), fun p6 hp6 => ?_⟩
        have s6 := same_new hp6 (.tup [v'])
        have f6 : (upd H5 p6 (.tup [v'])) p6 = some (.tup [v']) := upd_same
        generalize upd H5 p6 (.tup [v']) = H6 at s6 f6 ⊢
        refine ⟨p4, p6, _, _, rfl, rfl, s6 _ _ f45, f6, small (by rw [List.length_take, List.length_singleton]; omega), fun p7 H7 s7 f7 => ?_⟩
        have s57 := s6.trans s7
        refine ⟨_, rfl, _, rfl, _, _, rfl, rfl, _, rfl, p, _, rfl, s57 _ _ (kt5 _ _ (s4 _ _ hp3)), fun p8 H8 s8 f8 => ?_⟩
        rw [show ((a : Int) + 1) = ((a + 1 : Nat) : Int) by omega, cut_from (by omega)] at f8
        refine ⟨p7, p8, _, _, rfl, rfl, s8 _ _ f7, f8, small (by rw [List.length_append, List.length_take, List.length_singleton, List.length_drop]; omega), fun p9 H9 s9 f9 => ?_⟩
        have s59 := (s57.trans s8).trans s9
        refine q (.tuple (ds.take a ++ [d'] ++ ds.drop (a + 1))) _ H9 (szD_tup.mpr ⟨by rw [List.length_append, List.length_append, List.length_take, List.length_singleton, List.length_drop]; omega, fun d2 hd2 => ?_⟩) (Dat.tup f9 ((((hx5.take a).append (.cons hD' .nil)).append (hx5.drop (a + 1))).same s59)) ((b4.trans hb5).trans (hb5.2.same s59))
        rcases List.mem_append.mp hd2 with h | h
        · rcases List.mem_append.mp h with h | h
          · exact hszd d2 (List.mem_of_mem_take h)
          · rw [List.mem_singleton.mp h]; exact hsz'
        · exact hszd d2 (List.mem_of_mem_drop h)
  | _ => exact ite_t rfl (iteT ⟨_, rfl, l, rfl, hb, fun d' v' H' h1 h2 h3 => q d' v' H' h1 h2 h3⟩)
theorem ok_L_other (T : Tx w K mg A) (G_L_take : FnOk P w K mg base CX0 1 A.a_L_take A.d_L_take ["_law_bag_here", "_law_many"] sp_L_take) (G_L_spoilt : FnOk P w K mg base CX0 9 A.a_L_spoilt A.d_L_spoilt ["_law_thing", "_law_bag_here"] (sp_spoilt 7)) : FnOk P w K mg base CX0 10 A.a_L_other A.d_L_other ["_law_thing", "_law_bag_here"] sp_L_other := by
  refine T.F_L_other.ok sc_L_other (fun vs H Q E h => ?_) (fun cdv A' outer s H vs Q E hr h => ?_)
  · obtain ⟨d, v, l, rfl, hb, hD, hnl, hsz, hdp, q⟩ := h
    rfl
  obtain ⟨d, v, l, rfl, hb, hD, hnl, hsz, hdp, q⟩ := h
  refine ⟨_, (pss_cons (ps_set (i := 2) sc_L_other.nd rfl (Or.inl rfl) (pe_call G_L_take (hr.mono (by first | decide | omega)) rfl T.M_L_take T.F_L_take.kp T.B_L_take .nil pass0 (pa_cons (pv 1) (pa_cons pe_int pa_nil))))
    (pss_cons (ps_if (pt_cmpR op_lt (pv 2) pe_int (nomark _)) (pss_one (ps_ret (pe_call G_L_spoilt (hr.mono (by first | decide | omega)) rfl T.M_L_spoilt T.F_L_spoilt.kp T.B_L_spoilt .nil pass0 (pa_cons (pv 0) (pa_cons (pv 1) pa_nil))))) pss_nil)
    (pss_cons (ps_if (pt_cmpR op_eq (pv 2) pe_int (nomark _)) (pss_cons (ps_for PassesOwn.never rfl (pi_range1 rfl T.range (pa_cons (pe_op op_add pe_int (pe_call G_L_take (hr.mono (by first | decide | omega)) rfl T.M_L_take T.F_L_take.kp T.B_L_take .nil pass0 (pa_cons (pv 1) (pa_cons pe_int pa_nil)))) pa_nil)) (pg_name (i := 3) sc_L_other.nd rfl (Or.inl rfl))
        (pss_one (ps_set (i := 0) sc_L_other.nd rfl (Or.inl rfl) (pe_ix ix_list (pe_lst (pa_cons (pe_tup (pa_cons pe_str (pa_cons (pv 0) pa_nil))) (pa_cons (pe_tup (pa_cons pe_str (pa_cons (pe_call G_L_take (hr.mono (by first | decide | omega)) rfl T.M_L_take T.F_L_take.kp T.B_L_take .nil pass0 (pa_cons (pv 1) (pa_cons pe_int pa_nil))) (pa_cons (pv 0) pa_nil)))) (pa_cons (pe_tup (pa_cons pe_str (pa_cons (pe_call G_L_take (hr.mono (by first | decide | omega)) rfl T.M_L_take T.F_L_take.kp T.B_L_take .nil pass0 (pa_cons (pv 1) (pa_cons pe_int pa_nil))) (pa_cons pe_int (pa_cons (pv 0) pa_nil))))) pa_nil)))) (pv 3) (fun _ _ => rfl)))))
    (pss_one (ps_ret (pv 0)))) pss_nil)
    (pss_cons (ps_for PassesOwn.never rfl (pi_range1 rfl T.range (pa_cons (pe_op op_add pe_int (pe_call G_L_take (hr.mono (by first | decide | omega)) rfl T.M_L_take T.F_L_take.kp T.B_L_take .nil pass0 (pa_cons (pv 1) (pa_cons pe_int pa_nil)))) pa_nil)) (pg_name (i := 3) sc_L_other.nd rfl (Or.inl rfl))
        (pss_one (ps_set (i := 0) sc_L_other.nd rfl (Or.inl rfl) (pe_ix ix_list (pe_lst (pa_cons (pe_tup (pa_cons pe_str (pa_cons (pv 0) (pa_cons (pv 0) pa_nil)))) (pa_cons (pe_tup (pa_cons pe_str (pa_cons (pe_tup (pa_cons pe_str (pa_cons pe_str pa_nil))) (pa_cons (pv 0) (pa_cons (pv 0) pa_nil))))) pa_nil))) (pv 3) (fun _ _ => rfl)))))
    (pss_one (ps_ret (pv 0))))))), ?_⟩
  refine ⟨_, rfl, l, 4, rfl, hb, by decide, by decide, fun way H1 _ _ hb1 => ?_⟩
  have hD1 := hD.keepT (Bg.keepT hb hb1) hnl
  refine ⟨_, rfl, _, _, rfl, rfl, _, rfl, ?_⟩
  refine ite2 (fun c => ?_) (fun c => ?_)
  · exact ⟨_, rfl, _, rfl, 6, d, v, l, rfl, rfl, hb1.2, hD1, hnl, hsz, hdp, fun d' v' H' h1 h2 h3 => q d' v' H' h1 h2 (hb1.trans h3)⟩
  refine ⟨_, rfl, rfl, _, rfl, ?_⟩
  refine ite2 (fun c2 => ?_) (fun c2 => ?_)
  · refine ⟨_, rfl, l, 3, rfl, hb1.2, by decide, by decide, fun k3 H2 k0 k1 hb2 => ?_⟩
    have hD2 := hD1.keepT (Bg.keepT hb1.2 hb2) hnl
    refine ⟨_, _, rfl, rfl, _, rfl, by omega, by omega, for_range (lo := 0) (fun i σ H' => ∃ (d : PyData) (v : V) (x : Option V), σ = [some v, some (.ref l), some (.int way), x] ∧ Dat H' d v ∧ noL d = true ∧ szD d = true ∧ Bg l H H') ⟨d, v, none, rfl, hD2, hnl, hsz, hb1.trans hb2⟩ ?_ ?_⟩
    · rintro i σ G hi ⟨d, v, x, rfl, hD, hnl, hsz, hg⟩
      refine ⟨_, rfl, (by show 2 ≤ sizeLine; decide), fun p1 hp1 => ?_⟩
      have s1 := same_new hp1 (.tup [.str "not", v])
      have f1 : (upd G p1 (.tup [.str "not", v])) p1 = some (.tup [.str "not", v]) := upd_same
      generalize upd G p1 (.tup [.str "not", v]) = G1 at s1 f1 ⊢
      have g1 := hg.trans (hg.2.same s1)
      refine ⟨_, rfl, l, 10, rfl, g1.2, by decide, by decide, fun t1 G2 _ _ hb2 => ?_⟩
      refine ⟨_, rfl, (by show 3 ≤ sizeLine; decide), fun p2 hp2 => ?_⟩
      have s2 := same_new hp2 (.tup [.str "up", .int t1, v])
      have f2 : (upd G2 p2 (.tup [.str "up", .int t1, v])) p2 = some (.tup [.str "up", .int t1, v]) := upd_same
      generalize upd G2 p2 (.tup [.str "up", .int t1, v]) = G3 at s2 f2 ⊢
      have g3 := hb2.trans (hb2.2.same s2)
      refine ⟨_, rfl, l, 9, rfl, g3.2, by decide, by decide, fun t2 G4 _ _ hb4 => ?_⟩
      refine ⟨_, rfl, (by show 4 ≤ sizeLine; decide), fun p3 hp3 => ?_⟩
      have s3 := same_new hp3 (.tup [.str "cut", .int t2, .int 1, v])
      have f3 : (upd G4 p3 (.tup [.str "cut", .int t2, .int 1, v])) p3 = some (.tup [.str "cut", .int t2, .int 1, v]) := upd_same
      generalize upd G4 p3 (.tup [.str "cut", .int t2, .int 1, v]) = G5 at s3 f3 ⊢
      have g5 := hb4.trans (hb4.2.same s3)
      have k35 := Bg.keepT g3.2 g5
      have k15 := (Bg.keepT g1.2 g3).trans k35
      have hDv : Dat G5 d v := hD.keepT ((KeepT.same s1).trans k15) hnl
      refine ⟨(by show 3 ≤ sizeLine; decide), fun p4 hp4 => ?_⟩
      have s4 := same_new hp4 (.lst [.ref p1, .ref p2, .ref p3])
      have f4 : (upd G5 p4 (.lst [.ref p1, .ref p2, .ref p3])) p4 = some (.lst [.ref p1, .ref p2, .ref p3]) := upd_same
      generalize upd G5 p4 (.lst [.ref p1, .ref p2, .ref p3]) = G6 at s4 f4 ⊢
      have hDv := hDv.same s4
      have f1 := s4 _ _ (k15 _ _ f1)
      have f2 := s4 _ _ (k35 _ _ f2)
      have f3 := s4 _ _ f3
      have D1 : Dat G6 (.tuple [.str "not", d]) (.ref p1) := .tup f1 (.cons (.str _) (.cons hDv .nil))
      have D2 : Dat G6 (.tuple [.str "up", .int t1, d]) (.ref p2) := .tup f2 (.cons (.str _) (.cons (.int _) (.cons hDv .nil)))
      have D3 : Dat G6 (.tuple [.str "cut", .int t2, .int 1, d]) (.ref p3) := .tup f3 (.cons (.str _) (.cons (.int _) (.cons (.int _) (.cons hDv .nil))))
      have n1 : noL (.tuple [.str "not", d]) = true := by simp [noL, noLs, hnl]
      have n2 : noL (.tuple [.str "up", .int t1, d]) = true := by simp [noL, noLs, hnl]
      have n3 : noL (.tuple [.str "cut", .int t2, .int 1, d]) = true := by simp [noL, noLs, hnl]
      have z1 : szD (.tuple [.str "not", d]) = true := by simp only [szD, szD.szDs, hsz]; rfl
      have z2 : szD (.tuple [.str "up", .int t1, d]) = true := by simp only [szD, szD.szDs, hsz]; rfl
      have z3 : szD (.tuple [.str "cut", .int t2, .int 1, d]) = true := by simp only [szD, szD.szDs, hsz]; rfl
      have hw3' : ∃ d' v', atI [V.ref p1, V.ref p2, V.ref p3] (0 + (i : Int)) = some v' ∧ Dat G6 d' v' ∧ noL d' = true ∧ szD d' = true := by
        have : i = 0 ∨ i = 1 ∨ i = 2 := by omega
        rcases this with rfl | rfl | rfl
        · exact ⟨_, _, rfl, D1, n1, z1⟩
        · exact ⟨_, _, rfl, D2, n2, z2⟩
        · exact ⟨_, _, rfl, D3, n3, z3⟩
      obtain ⟨d', v', hat, hD', hn', hz'⟩ := hw3'
      refine ⟨_, rfl, p4, _, _, _, rfl, rfl, SqL.of f4, hat, ?_⟩
      exact ⟨d', v', _, rfl, hD', hn', hz', ((g1.trans g3).trans g5).trans (g5.2.same s4)⟩
    · rintro σ G ⟨d, v, x, rfl, hD, hnl, hsz, hg⟩
      exact ⟨_, rfl, q d v G hsz hD hg⟩
  · refine ⟨_, rfl, l, 2, rfl, hb1.2, by decide, by decide, fun k3 H2 k0 k1 hb2 => ?_⟩
    have hD2 := hD1.keepT (Bg.keepT hb1.2 hb2) hnl
    refine ⟨_, _, rfl, rfl, _, rfl, by omega, by omega, for_range (lo := 0) (fun i σ H' => ∃ (d : PyData) (v : V) (x : Option V), σ = [some v, some (.ref l), some (.int way), x] ∧ Dat H' d v ∧ noL d = true ∧ szD d = true ∧ Bg l H H') ⟨d, v, none, rfl, hD2, hnl, hsz, hb1.trans hb2⟩ ?_ ?_⟩
    · rintro i σ G hi ⟨d, v, x, rfl, hD, hnl, hsz, hg⟩
      refine ⟨_, rfl, _, rfl, (by show 3 ≤ sizeLine; decide), fun p1 hp1 => ?_⟩
      have s1 := same_new hp1 (.tup [.str "and", v, v])
      have f1 : (upd G p1 (.tup [.str "and", v, v])) p1 = some (.tup [.str "and", v, v]) := upd_same
      generalize upd G p1 (.tup [.str "and", v, v]) = G1 at s1 f1 ⊢
      refine ⟨(by show 2 ≤ sizeLine; decide), fun p2 hp2 => ?_⟩
      have s2 := same_new hp2 (.tup [.str "wire", .str "c"])
      have f2 : (upd G1 p2 (.tup [.str "wire", .str "c"])) p2 = some (.tup [.str "wire", .str "c"]) := upd_same
      generalize upd G1 p2 (.tup [.str "wire", .str "c"]) = G2 at s2 f2 ⊢
      refine ⟨_, rfl, _, rfl, (by show 4 ≤ sizeLine; decide), fun p3 hp3 => ?_⟩
      have s3 := same_new hp3 (.tup [.str "choice", .ref p2, v, v])
      have f3 : (upd G2 p3 (.tup [.str "choice", .ref p2, v, v])) p3 = some (.tup [.str "choice", .ref p2, v, v]) := upd_same
      generalize upd G2 p3 (.tup [.str "choice", .ref p2, v, v]) = G3 at s3 f3 ⊢
      refine ⟨(by show 2 ≤ sizeLine; decide), fun p4 hp4 => ?_⟩
      have s4 := same_new hp4 (.lst [.ref p1, .ref p3])
      have f4 : (upd G3 p4 (.lst [.ref p1, .ref p3])) p4 = some (.lst [.ref p1, .ref p3]) := upd_same
      generalize upd G3 p4 (.lst [.ref p1, .ref p3]) = G4 at s4 f4 ⊢
      have s14 := (s2.trans s3).trans s4
      have hDv := hD.same (s1.trans s14)
      have f1 := s14 _ _ f1
      have f2 := (s3.trans s4) _ _ f2
      have f3 := s4 _ _ f3
      have D1 : Dat G4 (.tuple [.str "and", d, d]) (.ref p1) := .tup f1 (.cons (.str _) (.cons hDv (.cons hDv .nil)))
      have D2 : Dat G4 (.tuple [.str "choice", .tuple [.str "wire", .str "c"], d, d]) (.ref p3) := .tup f3 (.cons (.str _) (.cons (.tup f2 (.cons (.str _) (.cons (.str _) .nil))) (.cons hDv (.cons hDv .nil))))
      have n1 : noL (.tuple [.str "and", d, d]) = true := by simp [noL, noLs, hnl]
      have n2 : noL (.tuple [.str "choice", .tuple [.str "wire", .str "c"], d, d]) = true := by simp [noL, noLs, hnl]
      have z1 : szD (.tuple [.str "and", d, d]) = true := by simp only [szD, szD.szDs, hsz]; rfl
      have z2 : szD (.tuple [.str "choice", .tuple [.str "wire", .str "c"], d, d]) = true := by simp only [szD, szD.szDs, hsz]; rfl
      have hw3' : ∃ d' v', atI [V.ref p1, V.ref p3] (0 + (i : Int)) = some v' ∧ Dat G4 d' v' ∧ noL d' = true ∧ szD d' = true := by
        have : i = 0 ∨ i = 1 := by omega
        rcases this with rfl | rfl
        · exact ⟨_, _, rfl, D1, n1, z1⟩
        · exact ⟨_, _, rfl, D2, n2, z2⟩
      obtain ⟨d', v', hat, hD', hn', hz'⟩ := hw3'
      refine ⟨_, rfl, p4, _, _, _, rfl, rfl, SqL.of f4, hat, ?_⟩
      exact ⟨d', v', _, rfl, hD', hn', hz', hg.trans (hg.2.same (s1.trans s14))⟩
    · rintro σ G ⟨d, v, x, rfl, hD, hnl, hsz, hg⟩
      exact ⟨_, rfl, q d v G hsz hD hg⟩
theorem ok_L_from (T : Tx w K mg A) : FnOk P w K mg base CX0 1 A.a_L_from A.d_L_from ["_law_thing", "_law_least", "_law_most"] sp_between := by
  refine T.F_L_from.ok sc_L_from (fun vs H Q E h => ?_) (fun cdv A' outer s H vs Q E hr h => ?_)
  · obtain ⟨d, v, lo, hi, rfl, hD, q⟩ := h
    rfl
  obtain ⟨d, v, lo, hi, rfl, hD, q⟩ := h
  refine ⟨_, (pss_one (ps_ret (pe_and (pe_callB (call_isinst (T := "int")) rfl T.isinstance PyProof.Rows.boot_isinstance (pa_cons (pv 0) (pa_cons (pe_bltn (v := .ty "int") rfl T.int PyProof.Rows.boot_int rfl) pa_nil))) (pe_and (pe_not (pe_callB (call_isinst (T := "bool")) rfl T.isinstance PyProof.Rows.boot_isinstance (pa_cons (pv 0) (pa_cons (pe_bltn (v := .ty "bool") rfl T.bool PyProof.Rows.boot_bool rfl) pa_nil)))) (pe_one (pe_chain op_le op_le (pv 1) (pv 0) (pv 2))))))), ?_⟩
  obtain ⟨t, ty, k1, k2, _⟩ := hD.ty (K := K)
  refine ⟨_, rfl, v, t, _, rfl, ty, k1, _, rfl, ?_⟩
  cases d with
  | int i =>
    have e := hD.intI
    subst e
    refine iteT ⟨_, rfl, _, t, _, rfl, ty, k2, _, rfl, _, rfl, ?_⟩
    refine iteT ⟨_, rfl, _, rfl, _, _, rfl, rfl, _, rfl, ?_⟩
    have q : Q (.bl (decide (lo ≤ i) && decide (i ≤ hi))) H := q
    by_cases h : lo ≤ i
    · rw [decide_eq_true h, Bool.true_and] at q
      exact ite_t (decide_eq_true h) ⟨_, rfl, _, _, rfl, rfl, q⟩
    · rw [decide_eq_false h, Bool.false_and] at q
      exact ite_f (decide_eq_false h) q
  | bool b => exact iteT ⟨_, rfl, _, t, _, rfl, ty, k2, _, rfl, _, rfl, iteF q⟩
  | _ => exact iteF q
theorem ok_L_is_name (T : Tx w K mg A) : FnOk P w K mg base CX0 1 A.a_L_is_name A.d_L_is_name ["_law_thing"] sp_is_name := by
  refine T.F_L_is_name.ok sc_L_is_name (fun vs H Q E h => ?_) (fun cdv A' outer s H vs Q E hr h => ?_)
  · obtain ⟨d, v, rfl, hD, hsz, q⟩ := h
    rfl
  obtain ⟨d, v, rfl, hD, hsz, q⟩ := h
  conv in (defBody _) => whnf
  simp only [bigL_eq, bigT_eq]
  refine ⟨_, (pss_cons (ps_set (i := 1) sc_L_is_name.nd rfl (Or.inl rfl) (pe_bigL rfl) (by unfold bigL; rfl))
    (pss_cons (ps_if (PW.pt (pw_or (pt_not (pt_truth (pe_callB (call_isinst (T := "str")) rfl T.isinstance PyProof.Rows.boot_isinstance (pa_cons (pv 0) (pa_cons (pe_bltn (v := .ty "str") rfl T.str PyProof.Rows.boot_str rfl) pa_nil))) (fun _ => rfl))) (pw_or (pt_cmpR op_eq (pv 0) pe_str (nomark _)) (pw_or (pt_cmpR op_gt (pe_callB call_len rfl T.len PySem.boot_len (pa_cons (pv 0) pa_nil)) pe_int (nomark _)) (pw_or1 (pt_cmpR op_in_seq (pv 0) (pe_op op_cat (pv 1) (pe_lst (pa_consts rfl))) rfl)))))) (pss_one (ps_ret pe_bl)) pss_nil)
    (pss_one (ps_ret (pe_cmpR op_eq (pe_callB call_len rfl T.len PySem.boot_len (pa_cons (pe_comp1 [] (fun _ _ h => h) rfl (pi_str (pv 0)) (fun _ _ _ _ => (PW.pt (pw_or (pt_cmpR op_lt_str (pv 0) pe_str (nomark _)) (pw_or1 (pt_cmpR op_gt_str (pv 0) pe_str (nomark _)))))) (fun _ _ _ _ => (pv 0)) rfl (show ∀ j ∈ ([] : List Nat), j < 2 by decide) (show (["_law_sign"] : List Str).Nodup by decide +kernel)) pa_nil)) pe_int (nomark _)))))), ?_⟩
  refine ⟨(by show 13 ≤ sizeLine; decide), fun p1 hp1 => ?_⟩
  show tSeq _ _ _ _ (upd H p1 (.lst (w13.map V.str)))
  have s1 := same_new hp1 (.lst (w13.map V.str))
  have f1 : (upd H p1 (.lst (w13.map V.str))) p1 = some (.lst (w13.map V.str)) := upd_same
  generalize upd H p1 (.lst (w13.map V.str)) = H1 at s1 f1 ⊢
  have hD1 := hD.same s1
  obtain ⟨t, ty, _, _, k3, _⟩ := hD1.ty (K := K)
  refine ⟨_, rfl, v, t, _, rfl, ty, k3, _, rfl, ?_⟩
  cases d with
  | str z =>
    have ev : v = .str z := by unfold Dat at hD; exact hD
    subst ev
    have hz : z.length ≤ 100 := szD_str hsz
    refine iteF ⟨_, rfl, rfl, _, rfl, ?_⟩
    have no : nameD (.str z) = false → ∀ H', Same H H' → Q (.bl false) H' := fun e H' s' => by rw [e] at q; exact q H' s'
    by_cases c1 : z = ""
    · subst c1
      refine ite_t (by decide) (iteT ?_)
      exact no (by decide) H1 s1
    refine ite_f (decide_eq_false fun h => c1 (by injection h)) ?_
    have hz1 : 1 ≤ z.length := by
      rcases Nat.eq_zero_or_pos z.length with h | h
      · exfalso
        apply c1
        obtain ⟨cs⟩ := z
        have : cs = #[] := Array.eq_empty_of_size_eq_zero h
        rw [this]
        rfl
      · exact h
    refine ⟨_, rfl, _, _, rfl, ⟨small (by omega), rfl⟩, _, _, rfl, rfl, _, rfl, ?_⟩
    by_cases c2 : z.length ≤ 8
    · refine ite_f (decide_eq_false (by omega)) ?_
      refine ⟨_, rfl, _, rfl, (by show 3 ≤ sizeLine; decide), fun p2 hp2 => ?_⟩
      have s2 := same_new hp2 (.lst [.str "join", .str "cut", .str "table"])
      have f2 : (upd H1 p2 (.lst [.str "join", .str "cut", .str "table"])) p2 = some (.lst (w3.map V.str)) := upd_same
      generalize upd H1 p2 (.lst [.str "join", .str "cut", .str "table"]) = H2 at s2 f2 ⊢
      refine ⟨p1, p2, _, _, rfl, rfl, s2 _ _ f1, f2, (by show 13 + 3 ≤ sizeLine; decide), fun p3 hp3 => ?_⟩
      have s3 := same_new hp3 (.lst (w13.map V.str ++ w3.map V.str))
      have f3 : (upd H2 p3 (.lst (w13.map V.str ++ w3.map V.str))) p3 = some (.lst (words.map V.str)) := upd_same
      generalize upd H2 p3 (.lst (w13.map V.str ++ w3.map V.str)) = H3 at s3 f3 ⊢
      have s03 := (s1.trans s2).trans s3
      refine ⟨p3, _, rfl, .inl (SqL.of f3), rfl, (by decide), _, rfl, ?_⟩
      have hin : inV (V.str z) (words.map V.str) = decide (z ∈ words) := inV_strs z words
      by_cases hw : z ∈ words
      · refine ite_t (hin.trans (decide_eq_true hw)) ?_
        exact no (by simp [nameD, hw]) H3 s03
      refine ite_f (hin.trans (decide_eq_false hw)) ?_
      refine ⟨_, rfl, z, rfl, comp_str (fun i ys H' => decide (ys.length = 0) = (z.cps.toList.take i).all letterB ∧ ys.length ≤ i ∧ H' = H3) ⟨by simp, Nat.le_refl _, rfl⟩ ?_ ?_ ?_⟩
      · rintro i ys H' hi ⟨_, hyl, rfl⟩
        have hz' : z.cps.size = z.length := rfl
        exact smallL (by omega)
      · rintro i c ys H' hc ⟨hys, hyl, rfl⟩
        have htake : z.cps.toList.take (i + 1) = z.cps.toList.take i ++ [c] := by
          have hi : z.cps.toList[i]? = some c := by rw [Array.getElem?_toList]; exact hc
          obtain ⟨hlt, he⟩ := List.getElem?_eq_some_iff.mp hi
          rw [List.take_succ_eq_append_getElem hlt, he]
        have yes : letterB c = false → decide ((ys ++ [V.str ⟨#[c]⟩]).length = 0) = (z.cps.toList.take (i + 1)).all letterB ∧ (ys ++ [V.str ⟨#[c]⟩]).length ≤ i + 1 ∧ H' = H' := fun e => by
          refine ⟨?_, by rw [List.length_append, List.length_singleton]; omega, rfl⟩
          rw [htake, List.all_append]
          simp [e]
        have l1 : decide ((⟨#[c]⟩ : Str).cps.toList < ("a" : Str).cps.toList) = decide (c < 97) := lt_one c 97
        have l2 : decide (("z" : Str).cps.toList < (⟨#[c]⟩ : Str).cps.toList) = decide (122 < c) := lt_one 122 c
        refine ⟨_, rfl, _, _, rfl, rfl, _, rfl, ?_⟩
        by_cases h1 : c < 97
        · refine ite_t (l1.trans (decide_eq_true h1)) ?_
          refine iteT ⟨_, rfl, yes ?_⟩
          simp [letterB]; omega
        refine ite_f (l1.trans (decide_eq_false h1)) ?_
        refine ⟨_, rfl, _, _, rfl, rfl, _, rfl, ?_⟩
        by_cases h2 : 122 < c
        · refine ite_t (l2.trans (decide_eq_true h2)) ⟨_, rfl, yes ?_⟩
          simp [letterB]; omega
        · refine ite_f (l2.trans (decide_eq_false h2)) ⟨?_, by omega, rfl⟩
          have : letterB c = true := by simp [letterB]; omega
          rw [htake, List.all_append, hys]
          simp [this]
      · rintro ys H' ⟨hys, hyl, rfl⟩ p hp
        have htk : z.cps.toList.take z.cps.size = z.cps.toList := List.take_of_length_le (by simp)
        rw [htk] at hys
        refine ⟨_, _, rfl, .inl ⟨_, SqL.of upd_same, rfl⟩, rfl, ?_⟩
        have e : nameD (.str z) = decide (V.int ((ys.length : Nat) : Int) = V.int 0) := by
          have e1 : nameD (.str z) = z.cps.toList.all letterB := by simp [nameD, hw, hz1, c2]
          rw [e1, ← hys]
          rw [decide_eq_decide]
          constructor
          · intro h; rw [h]; rfl
          · intro h; injection h with h; omega
        rw [← e]
        exact q _ (s03.trans (same_new hp _))
    · refine ite_t (decide_eq_true (by omega)) (iteT ?_)
      exact no (by simp [nameD, c2]) H1 s1
  | _ => exact iteT (iteT (q H1 s1))
theorem ok_L_begin (T : Tx w K mg A) (G_L_from : FnOk P w K mg base CX0 1 A.a_L_from A.d_L_from ["_law_thing", "_law_least", "_law_most"] sp_between) : FnOk P w K mg base CX0 2 A.a_L_begin A.d_L_begin ["_law_thing"] sp_L_begin := by
  refine T.F_L_begin.ok sc_L_begin (fun vs H Q E h => ?_) (fun cdv A' outer s H vs Q E hr h => ?_)
  · obtain ⟨p, z, dr, r0, rfl, hp, hr0, hszd, hdr1, zw, zn, q⟩ := h
    rfl
  obtain ⟨p, z, dr, r0, rfl, hp, hr0, hszd, hdr1, zw, zn, q⟩ := h
  conv in (defBody _) => whnf
  simp only [bigL_eq, bigT_eq]
  refine ⟨_, (pss_cons (ps_set (i := 1) sc_L_begin.nd rfl (Or.inl rfl) (pe_ix ix_tup (pv 0) pe_int (fun _ _ => rfl)))
    (pss_cons (ps_if (PW.pt (pw_or (pt_cmpR op_eq (pv 1) pe_str (nomark _)) (pw_or1 (pt_cmpR op_eq (pv 1) pe_str (nomark _))))) (pss_one (ps_ret (pe_op op_mul pe_int (pe_callTy call_int1 rfl T.int PyProof.Rows.boot_int (pa_cons (pe_and (pe_cmpR op_eq (pe_callB call_len rfl T.len PySem.boot_len (pa_cons (pv 0) pa_nil)) pe_int (nomark _)) (pe_one (pe_call G_L_from (hr.mono (by first | decide | omega)) rfl T.M_L_from T.F_L_from.kp T.B_L_from .nil pass0 (pa_cons (pe_ix ix_tup (pv 0) pe_int (fun _ _ => rfl)) (pa_cons pe_int (pa_cons pe_int pa_nil)))))) pa_nil))))) pss_nil)
    (pss_cons (ps_if (pt_cmpR op_eq (pv 1) pe_str (nomark _)) (pss_one (ps_ret (pe_op op_mul pe_int (pe_callTy call_int1 rfl T.int PyProof.Rows.boot_int (pa_cons (pe_and (pe_cmpR op_eq (pe_callB call_len rfl T.len PySem.boot_len (pa_cons (pv 0) pa_nil)) pe_int (nomark _)) (pe_and (pe_call G_L_from (hr.mono (by first | decide | omega)) rfl T.M_L_from T.F_L_from.kp T.B_L_from .nil pass0 (pa_cons (pe_ix ix_tup (pv 0) pe_int (fun _ _ => rfl)) (pa_cons pe_int (pa_cons pe_int pa_nil)))) (pe_one (pe_call G_L_from (hr.mono (by first | decide | omega)) rfl T.M_L_from T.F_L_from.kp T.B_L_from .nil pass0 (pa_cons (pe_ix ix_tup (pv 0) pe_int (fun _ _ => rfl)) (pa_cons pe_int (pa_cons pe_int pa_nil))))))) pa_nil))))) pss_nil)
    (pss_cons (ps_if (pt_cmpR op_eq (pv 1) pe_str (nomark _)) (pss_cons (ps_if (PW.pt (pw_or (pt_cmpR op_ne (pe_callB call_len rfl T.len PySem.boot_len (pa_cons (pv 0) pa_nil)) pe_int (nomark _)) (pw_or (pt_not (pt_truth (pe_call G_L_from (hr.mono (by first | decide | omega)) rfl T.M_L_from T.F_L_from.kp T.B_L_from .nil pass0 (pa_cons (pe_ix ix_tup (pv 0) pe_int (fun _ _ => rfl)) (pa_cons pe_int (pa_cons pe_int pa_nil)))) (fun _ => rfl))) (pw_or1 (pt_not (pt_truth (pe_callB (call_isinst (T := "tuple")) rfl T.isinstance PyProof.Rows.boot_isinstance (pa_cons (pe_ix ix_tup (pv 0) pe_int (fun _ _ => rfl)) (pa_cons (pe_bltn (v := .ty "tuple") rfl T.tuple PyProof.Rows.boot_tuple rfl) pa_nil))) (fun _ => rfl))))))) (pss_one (ps_ret pe_int)) pss_nil)
    (pss_cons (ps_comp [0] sc_L_begin.nd (i := 2) rfl (Or.inl rfl) (fun _ _ h => h) rfl (pi_tup (pe_ix ix_tup (pv 0) pe_int (fun _ _ => rfl))) (fun _ _ _ _ => (pts_one (pt_truthK (K := K) rfl (pe_call G_L_from (hr.mono (by first | decide | omega)) rfl T.M_L_from T.F_L_from.kp T.B_L_from .nil pass0 (pa_cons (pv 0) (pa_cons pe_int (pa_cons (pe_op op_sub (pe_op op_shl pe_int (pe_ix (ix_tupK (K := K) rfl) (pv 1) pe_int (fun _ _ => rfl))) pe_int) pa_nil)))) (fun _ => rfl)))) (fun _ _ _ _ => (pv 0)) rfl (show ∀ j ∈ ([0] : List Nat), j < 3 by decide) (show (["_law_number", "_law_thing"] : List Str).Nodup by decide +kernel) (by with_unfolding_all rfl))
    (pss_one (ps_ret (pe_op op_mul pe_int (pe_callTy call_int1 rfl T.int PyProof.Rows.boot_int (pa_cons (pe_and (pe_cmpR op_eq (pe_callB call_len rfl T.len PySem.boot_len (pa_cons (pv 2) pa_nil)) (pe_callB call_len rfl T.len PySem.boot_len (pa_cons (pe_ix ix_tup (pv 0) pe_int (fun _ _ => rfl)) pa_nil)) (nomark _)) (pe_one (pe_cmpR op_in_seq (pe_callB call_len rfl T.len PySem.boot_len (pa_cons (pv 2) pa_nil)) (pe_lst (pa_consts rfl)) rfl))) pa_nil))))))) pss_nil)
    (pss_cons (ps_if (pt_cmpR op_eq (pv 1) pe_str (nomark _)) (pss_one (ps_ret (pe_callTy call_int1 rfl T.int PyProof.Rows.boot_int (pa_cons (pe_cmpR op_eq (pe_callB call_len rfl T.len PySem.boot_len (pa_cons (pv 0) pa_nil)) pe_int (nomark _)) pa_nil)))) pss_nil)
    (pss_cons (ps_if (pt_cmpR op_eq (pv 1) pe_str (nomark _)) (pss_one (ps_ret (pe_callTy call_int1 rfl T.int PyProof.Rows.boot_int (pa_cons (pe_cmpR op_eq (pe_callB call_len rfl T.len PySem.boot_len (pa_cons (pv 0) pa_nil)) pe_int (nomark _)) pa_nil)))) pss_nil)
    (pss_one (ps_ret (pe_callTy call_int1 rfl T.int PyProof.Rows.boot_int (pa_cons (pe_and (pe_cmpR op_eq (pe_callB call_len rfl T.len PySem.boot_len (pa_cons (pv 0) pa_nil)) pe_int (nomark _)) (pe_one (pe_cmpR op_in_seq (pv 1) (pe_bigL rfl) (by unfold bigL; rfl)))) pa_nil)))))))))), ?_⟩
  have hl := hr0.length
  have fin : ∀ (b : Bool) (k : Int) (H' : Hp), Same H H' → formD (.tuple (.str z :: dr)) = b → (b = true → k = ((formK z : Nat) : Int)) → Q (.int (k * (if b = true then 1 else 0))) H' := fun b k H' s' e hk => by
    have q' := q H' s'
    rw [e] at q'
    cases b with
    | true => rw [if_pos rfl] at q' ⊢; rw [hk rfl, Int.mul_one]; exact q'
    | false => rw [if_neg Bool.false_ne_true] at q' ⊢; rw [Int.mul_zero]; exact q'
  have fin1 : ∀ (b : Bool) (H' : Hp), Same H H' → formD (.tuple (.str z :: dr)) = b → (b = true → formK z = 1) → Q (.int (if b = true then 1 else 0)) H' := fun b H' s' e hk => by
    have := fin b 1 H' s' e (fun h => by rw [hk h]; rfl)
    rw [Int.one_mul] at this
    exact this
  refine ⟨_, rfl, p, _, _, _, rfl, rfl, SqT.of hp, (show atI _ ((0 : Nat) : Int) = _ from atI_nat rfl), ?_⟩
  refine ⟨_, rfl, rfl, _, rfl, ?_⟩
  by_cases z1 : z = "up"
  · subst z1
    refine ite_t (by decide) (iteT ?_)
    refine ⟨_, rfl, _, _, rfl, .inr ⟨_, SqT.of hp, rfl⟩, rfl, _, rfl, ?_⟩
    by_cases hn : dr.length = 2
    · obtain ⟨d1, d2, rfl⟩ : ∃ d1 d2, dr = [d1, d2] := by
        match dr, hn with
        | [x, y], _ => exact ⟨x, y, rfl⟩
      obtain ⟨x1, r1, rfl, h1, hr1⟩ := hr0.consI
      refine ite_t (decide_eq_true (congrArg V.int (show ((_ : Nat) : Int) = 3 by rw [List.length_cons, ← hl]; rfl))) ?_
      refine ⟨_, rfl, p, _, _, _, rfl, rfl, SqT.of hp, (show atI _ ((1 : Nat) : Int) = _ from atI_nat rfl), d1, x1, 0, 8, rfl, h1, .inr ⟨_, rfl, _, _, rfl, rfl, .inl ⟨by decide, by decide⟩, ?_⟩⟩
      refine fin _ 2 H (Same.refl H) ?_ (fun _ => by decide)
      show (decide (("up" : Str) ∈ words) && decide (2 + 1 = formN "up") && restD "up" [d1, d2]) = _
      show _ = betD d1 0 8
      have : restD "up" [d1, d2] = betD d1 0 8 := rfl
      rw [this, decide_eq_true (by decide), decide_eq_true (by decide)]
      rfl
    · refine ite_f (decide_eq_false (by intro e; injection e with e; rw [List.length_cons] at e; omega)) ?_
      refine .inr ⟨_, rfl, _, _, rfl, rfl, .inl ⟨by decide, by decide⟩, ?_⟩
      refine fin false 2 H (Same.refl H) ?_ (fun h => nomatch h)
      rw [formD_eq, decide_eq_false (show ¬ dr.length + 1 = formN "up" by have h9 : formN "up" = 3 := (by decide); omega)]
      simp
  refine ite_f (decide_eq_false fun h => z1 (by injection h)) ⟨_, rfl, rfl, _, rfl, ?_⟩
  by_cases z2 : z = "down"
  · subst z2
    refine ite_t (by decide) ?_
    refine ⟨_, rfl, _, _, rfl, .inr ⟨_, SqT.of hp, rfl⟩, rfl, _, rfl, ?_⟩
    by_cases hn : dr.length = 2
    · obtain ⟨d1, d2, rfl⟩ : ∃ d1 d2, dr = [d1, d2] := by
        match dr, hn with
        | [x, y], _ => exact ⟨x, y, rfl⟩
      obtain ⟨x1, r1, rfl, h1, hr1⟩ := hr0.consI
      refine ite_t (decide_eq_true (congrArg V.int (show ((_ : Nat) : Int) = 3 by rw [List.length_cons, ← hl]; rfl))) ?_
      refine ⟨_, rfl, p, _, _, _, rfl, rfl, SqT.of hp, (show atI _ ((1 : Nat) : Int) = _ from atI_nat rfl), d1, x1, 0, 8, rfl, h1, .inr ⟨_, rfl, _, _, rfl, rfl, .inl ⟨by decide, by decide⟩, ?_⟩⟩
      refine fin _ 2 H (Same.refl H) ?_ (fun _ => by decide)
      show (decide (("down" : Str) ∈ words) && decide (2 + 1 = formN "down") && restD "down" [d1, d2]) = _
      show _ = betD d1 0 8
      have : restD "down" [d1, d2] = betD d1 0 8 := rfl
      rw [this, decide_eq_true (by decide), decide_eq_true (by decide)]
      rfl
    · refine ite_f (decide_eq_false (by intro e; injection e with e; rw [List.length_cons] at e; omega)) ?_
      refine .inr ⟨_, rfl, _, _, rfl, rfl, .inl ⟨by decide, by decide⟩, ?_⟩
      refine fin false 2 H (Same.refl H) ?_ (fun h => nomatch h)
      rw [formD_eq, decide_eq_false (show ¬ dr.length + 1 = formN "down" by have h9 : formN "down" = 3 := (by decide); omega)]
      simp
  refine ite_f (decide_eq_false fun h => z2 (by injection h)) ⟨_, rfl, rfl, _, rfl, ?_⟩
  by_cases z3 : z = "cut"
  · subst z3
    refine ite_t (by decide) ?_
    refine ⟨_, rfl, _, _, rfl, .inr ⟨_, SqT.of hp, rfl⟩, rfl, _, rfl, ?_⟩
    by_cases hn : dr.length = 3
    · obtain ⟨d1, d2, d3, rfl⟩ : ∃ d1 d2 d3, dr = [d1, d2, d3] := by
        match dr, hn with
        | [x, y, u], _ => exact ⟨x, y, u, rfl⟩
      obtain ⟨x1, r1, rfl, h1, hr1⟩ := hr0.consI
      obtain ⟨x2, r2, rfl, h2, hr2⟩ := hr1.consI
      have hf : formD (.tuple (.str "cut" :: [d1, d2, d3])) = (betD d1 0 7 && betD d2 1 8) := by
        rw [formD_eq]
        have : restD "cut" [d1, d2, d3] = (betD d1 0 7 && betD d2 1 8) := rfl
        rw [this, decide_eq_true (by decide), decide_eq_true (by show 3 + 1 = formN "cut"; decide)]
        rfl
      refine ite_t (decide_eq_true (congrArg V.int (show ((_ : Nat) : Int) = 4 by rw [List.length_cons, ← hl]; rfl))) ?_
      refine ⟨_, rfl, p, _, _, _, rfl, rfl, SqT.of hp, (show atI _ ((1 : Nat) : Int) = _ from atI_nat rfl), d1, x1, 0, 7, rfl, h1, _, rfl, ?_⟩
      cases hb : betD d1 0 7 with
      | false =>
        rw [hb] at hf
        exact iteF (.inr ⟨_, rfl, _, _, rfl, rfl, .inl ⟨by decide, by decide⟩, fin false 3 H (Same.refl H) hf (fun h => nomatch h)⟩)
      | true =>
        rw [hb, Bool.true_and] at hf
        exact iteT ⟨_, rfl, p, _, _, _, rfl, rfl, SqT.of hp, (show atI _ ((2 : Nat) : Int) = _ from atI_nat rfl), d2, x2, 1, 8, rfl, h2, .inr ⟨_, rfl, _, _, rfl, rfl, .inl ⟨by decide, by decide⟩, fin _ 3 H (Same.refl H) hf (fun _ => by decide)⟩⟩
    · refine ite_f (decide_eq_false (by intro e; injection e with e; rw [List.length_cons] at e; omega)) ?_
      refine .inr ⟨_, rfl, _, _, rfl, rfl, .inl ⟨by decide, by decide⟩, ?_⟩
      refine fin false 3 H (Same.refl H) ?_ (fun h => nomatch h)
      rw [formD_eq, decide_eq_false (show ¬ dr.length + 1 = formN "cut" by have h9 : formN "cut" = 4 := (by decide); omega)]
      simp
  refine ite_f (decide_eq_false fun h => z3 (by injection h)) ⟨_, rfl, rfl, _, rfl, ?_⟩
  by_cases z4 : z = "table"
  · subst z4
    refine ite_t (by decide) ?_
    have q0 : formD (.tuple (.str "table" :: dr)) = false → Q (.int 0) H := fun e => by
      have := q H (Same.refl H)
      rw [e, if_neg Bool.false_ne_true] at this
      exact this
    refine ⟨_, rfl, _, _, rfl, .inr ⟨_, SqT.of hp, rfl⟩, rfl, _, rfl, ?_⟩
    by_cases hn : dr.length = 3
    · obtain ⟨d1, d2, d3, rfl⟩ : ∃ d1 d2 d3, dr = [d1, d2, d3] := by
        match dr, hn with
        | [x, y, u], _ => exact ⟨x, y, u, rfl⟩
      obtain ⟨x1, r1, rfl, h1, hr1⟩ := hr0.consI
      obtain ⟨x2, r2, rfl, h2, hr2⟩ := hr1.consI
      have hf : formD (.tuple (.str "table" :: [d1, d2, d3])) = numsD d2 d1 := by
        rw [formD_eq]
        have : restD "table" [d1, d2, d3] = numsD d2 d1 := rfl
        rw [this, decide_eq_true (by decide), decide_eq_true (by show 3 + 1 = formN "table"; decide)]
        rfl
      refine ite_f (by rw [decide_eq_true (congrArg V.int (show ((_ : Nat) : Int) = 4 by rw [List.length_cons, ← hl]; rfl))]; rfl) ?_
      refine ⟨_, rfl, p, _, _, _, rfl, rfl, SqT.of hp, (show atI _ ((1 : Nat) : Int) = _ from atI_nat rfl), d1, x1, 1, 8, rfl, h1, _, rfl, ?_⟩
      cases hw : betD d1 1 8 with
      | false => exact ite_t rfl (iteT (q0 (by rw [hf]; exact nums_no hw)))
      | true =>
        obtain ⟨k, rfl, k1, k8⟩ := betD_int hw
        have e1 := h1.intI
        subst e1
        obtain ⟨t, ty, _, _, _, kT, _⟩ := h2.ty (K := K)
        refine ite_f rfl ⟨_, rfl, p, _, _, _, rfl, rfl, SqT.of hp, (show atI _ ((2 : Nat) : Int) = _ from atI_nat rfl), _, t, _, rfl, ty, kT, _, rfl, ?_⟩
        cases d2 with
        | tuple ds =>
          obtain ⟨p2, xs, rfl, hp2, hxs⟩ := h2.tupI
          have hxl := hxs.length
          refine ite_f rfl ?_
          have hw' : widD (.int k) = true := hw
          refine ⟨_, rfl, p, _, _, _, rfl, rfl, SqT.of hp, (show atI _ ((2 : Nat) : Int) = _ from atI_nat rfl), p2, rfl, ⟨_, SqT.of hp2⟩, comp_tup (xs := xs) (fun i ys H' => decide (ys.length = i) = (ds.take i).all (fun x => numD x (.int k)) ∧ ys.length ≤ i ∧ H = H') ⟨by simp, Nat.le_refl _, rfl⟩ ?_ ?_ ?_ ?_⟩
          · rintro i ys H' _ ⟨_, _, rfl⟩
            exact SqT.of hp2
          · rintro i ys H' hi ⟨_, hyl, rfl⟩
            have h100 := (szD_tup.mp (hszd (.tuple ds) (by simp))).1
            exact smallL (by omega)
          · rintro i x ys H' hx ⟨hys, hyl, rfl⟩
            obtain ⟨e, he, hDe⟩ := hxs.get hx
            have htk : ds.take (i + 1) = ds.take i ++ [e] := by rw [List.take_add_one, he]; rfl
            refine ⟨_, rfl, _, rfl, p, _, _, _, rfl, rfl, SqT.of hp, (show atI _ ((1 : Nat) : Int) = _ from atI_nat rfl), _, _, rfl, rfl, ⟨by omega, by omega, by decide⟩, _, _, rfl, rfl, e, x, 0, _, rfl, hDe, _, rfl, ?_⟩
            have hb : betD e 0 (1 * 2 ^ k.toNat - 1) = numD e (.int k) := by rw [num_bet hw', Int.one_mul]
            show (if betD e 0 (1 * 2 ^ k.toNat - 1) = true then _ else _)
            rw [hb]
            cases hc : numD e (.int k) with
            | true =>
              refine iteT ⟨_, rfl, ?_, by rw [List.length_append, List.length_singleton]; omega, rfl⟩
              rw [htk, List.all_append, ← hys, List.length_append, List.length_singleton]
              simp [hc]
            | false =>
              refine iteF ⟨?_, by omega, rfl⟩
              rw [htk, List.all_append, decide_eq_false (by omega)]
              simp [hc]
          · rintro ys H' ⟨hys, hyl, rfl⟩ pg hpg
            have sg := same_new hpg (.lst ys)
            have fg : (upd H pg (.lst ys)) pg = some (.lst ys) := upd_same
            have hp' := sg _ _ hp
            have hp2' := sg _ _ hp2
            generalize upd H pg (.lst ys) = H1 at sg fg hp' hp2' ⊢
            have htk : ds.take xs.length = ds := by rw [← hxl, List.take_length]
            rw [htk] at hys
            have hnD : numsD (.tuple ds) (.int k) = ((decide (ds.length = 2) || decide (ds.length = 4) || decide (ds.length = 8) || decide (ds.length = 16)) && ds.all fun x => numD x (.int k)) := rfl
            refine ⟨_, rfl, _, _, rfl, .inl ⟨_, SqL.of fg, rfl⟩, _, rfl, p, _, _, _, rfl, rfl, SqT.of hp', (show atI _ ((2 : Nat) : Int) = _ from atI_nat rfl), _, _, rfl, .inr ⟨_, SqT.of hp2', rfl⟩, rfl, _, rfl, ?_⟩
            cases hall : ds.all fun x => numD x (.int k) with
            | true =>
              rw [hall] at hys
              have hyl2 := of_decide_eq_true hys
              refine ite_t (decide_eq_true (by rw [hyl2])) ?_
              refine ⟨_, rfl, _, _, rfl, .inl ⟨_, SqL.of fg, rfl⟩, (by show 4 ≤ sizeLine; decide), fun p5 hp5 => ?_⟩
              refine ⟨p5, _, rfl, .inl (SqL.of upd_same), rfl, (by decide), .inr ⟨_, rfl, _, _, rfl, rfl, .inl ⟨by decide, by decide⟩, ?_⟩⟩
              refine fin _ 3 _ (sg.trans (same_new hp5 _)) ?_ (fun _ => by decide)
              rw [hf, hnD, hall, Bool.and_true]
              refine Eq.trans ?_ (inV_len ys.length).symm
              rw [hyl2, hxl]
            | false =>
              rw [hall] at hys
              have hyl2 := of_decide_eq_false hys
              refine ite_f (decide_eq_false (by intro h; injection h with h; omega)) ?_
              refine .inr ⟨_, rfl, _, _, rfl, rfl, .inl ⟨by decide, by decide⟩, ?_⟩
              refine fin false 3 _ sg ?_ (fun h => nomatch h)
              rw [hf, hnD, hall, Bool.and_false]
        | _ => exact ite_t rfl (q0 hf)
    · refine ite_t (by rw [decide_eq_false (by intro e; injection e with e; rw [List.length_cons] at e; omega)]; rfl) (iteT ?_)
      exact q0 (by rw [formD_eq, decide_eq_false (show ¬ dr.length + 1 = formN "table" by have h9 : formN "table" = 4 := (by decide); omega)]; simp)
  refine ite_f (decide_eq_false fun h => z4 (by injection h)) ⟨_, rfl, rfl, _, rfl, ?_⟩
  by_cases z5 : z = "not"
  · subst z5
    refine ite_t (by decide) ?_
    refine ⟨_, rfl, _, _, rfl, .inr ⟨_, SqT.of hp, rfl⟩, rfl, .inr ⟨_, rfl, ?_⟩⟩
    refine fin1 _ H (Same.refl H) ?_ (fun _ => by decide)
    have : restD "not" dr = true := rfl
    rw [formD_eq, this, decide_eq_true (by decide), Bool.and_true, Bool.true_and, decide_eq_decide]
    have h9 : formN "not" = 2 := by decide
    constructor
    · intro h; rw [List.length_cons, ← hl, h, h9]; rfl
    · intro h; injection h with h; rw [List.length_cons] at h; omega
  refine ite_f (decide_eq_false fun h => z5 (by injection h)) ⟨_, rfl, rfl, _, rfl, ?_⟩
  by_cases z6 : z = "choice"
  · subst z6
    refine ite_t (by decide) ?_
    refine ⟨_, rfl, _, _, rfl, .inr ⟨_, SqT.of hp, rfl⟩, rfl, .inr ⟨_, rfl, ?_⟩⟩
    refine fin1 _ H (Same.refl H) ?_ (fun _ => by decide)
    have : restD "choice" dr = true := rfl
    rw [formD_eq, this, decide_eq_true (by decide), Bool.and_true, Bool.true_and, decide_eq_decide]
    have h9 : formN "choice" = 4 := by decide
    constructor
    · intro h; rw [List.length_cons, ← hl, h, h9]; rfl
    · intro h; injection h with h; rw [List.length_cons] at h; omega
  refine ite_f (decide_eq_false fun h => z6 (by injection h)) ?_
  have hfn : formN z = 3 := by unfold formN; rw [if_neg zw, if_neg z5, if_neg z6, if_neg z3, if_neg z4]
  have hfk : formK z = 1 := by unfold formK; rw [if_neg zw, if_neg zn, if_neg z1, if_neg z2, if_neg z3, if_neg z4]
  have hrest : restD z dr = true := by unfold restD; rw [if_neg zw, if_neg zn, if_neg (fun h => h.elim z1 z2), if_neg z3, if_neg z4]
  refine ⟨_, rfl, _, _, rfl, .inr ⟨_, SqT.of hp, rfl⟩, rfl, _, rfl, ?_⟩
  by_cases hn : dr.length = 2
  · refine ite_t (decide_eq_true (congrArg V.int (show ((_ : Nat) : Int) = 3 by rw [List.length_cons, ← hl, hn]; rfl))) ?_
    refine ⟨_, rfl, (by show 8 ≤ sizeLine; decide), fun p2 hp2 => ?_⟩
    refine ⟨p2, _, rfl, .inl (SqL.of upd_same), rfl, (by decide), .inr ⟨_, rfl, ?_⟩⟩
    refine fin1 _ _ (same_new hp2 _) ?_ (fun _ => hfk)
    have e8 : inV (V.str z) (w8.map V.str) = decide (z ∈ w8) := inV_strs z w8
    refine Eq.trans ?_ e8.symm
    rw [formD_eq, hrest, hfn, decide_eq_true (by omega : dr.length + 1 = 3), Bool.and_true, Bool.and_true, decide_eq_decide]
    exact w8_iff zw zn z1 z2 z3 z4 z5 z6
  · refine ite_f (decide_eq_false (by intro e; injection e with e; rw [List.length_cons] at e; omega)) ?_
    refine .inr ⟨_, rfl, ?_⟩
    refine fin1 false H (Same.refl H) ?_ (fun h => nomatch h)
    rw [formD_eq, hfn, decide_eq_false (by omega : ¬ dr.length + 1 = 3)]
    simp
theorem ok_L_pieces (T : Tx w K mg A) (G_L_is_name : FnOk P w K mg base CX0 1 A.a_L_is_name A.d_L_is_name ["_law_thing"] sp_is_name) (G_L_from : FnOk P w K mg base CX0 1 A.a_L_from A.d_L_from ["_law_thing", "_law_least", "_law_most"] sp_between) (G_L_begin : FnOk P w K mg base CX0 2 A.a_L_begin A.d_L_begin ["_law_thing"] sp_L_begin) (n : Nat) (G_L_pieces : FnOk P w K mg base CX0 (n + 2) A.a_L_pieces A.d_L_pieces ["_law_thing", "_law_deep"] (sp_pieces n)) : FnOk P w K mg base CX0 (n + 3) A.a_L_pieces A.d_L_pieces ["_law_thing", "_law_deep"] (sp_pieces (n + 1)) := by
  refine T.F_L_pieces.ok sc_L_pieces (fun vs H Q E h => ?_) (fun cdv A' outer s H vs Q E hr h => ?_)
  · obtain ⟨m, d, v, hm, rfl, hm6, hD, hsz, q⟩ := h
    rfl
  obtain ⟨m, d, v, hm, rfl, hm6, hD, hsz, q⟩ := h
  refine ⟨_, (pss_cons (ps_if (PW.pt (pw_or (pt_cmpR op_eq (pv 1) pe_int (nomark _)) (pw_or (pt_not (pt_truth (pe_callB (call_isinst (T := "tuple")) rfl T.isinstance PyProof.Rows.boot_isinstance (pa_cons (pv 0) (pa_cons (pe_bltn (v := .ty "tuple") rfl T.tuple PyProof.Rows.boot_tuple rfl) pa_nil))) (fun _ => rfl))) (pw_or (pt_cmpR op_lt (pe_callB call_len rfl T.len PySem.boot_len (pa_cons (pv 0) pa_nil)) pe_int (nomark _)) (pw_or1 (pt_not (pt_truth (pe_callB (call_isinst (T := "str")) rfl T.isinstance PyProof.Rows.boot_isinstance (pa_cons (pe_ix ix_tup (pv 0) pe_int (fun _ _ => rfl)) (pa_cons (pe_bltn (v := .ty "str") rfl T.str PyProof.Rows.boot_str rfl) pa_nil))) (fun _ => rfl)))))))) (pss_one (ps_ret pe_int)) pss_nil)
    (pss_cons (ps_if (pt_cmpR op_eq (pe_ix ix_tup (pv 0) pe_int (fun _ _ => rfl)) pe_str (nomark _)) (pss_one (ps_ret (pe_callTy call_int1 rfl T.int PyProof.Rows.boot_int (pa_cons (pe_and (pe_cmpR op_eq (pe_callB call_len rfl T.len PySem.boot_len (pa_cons (pv 0) pa_nil)) pe_int (nomark _)) (pe_one (pe_call G_L_is_name (hr.mono (by first | decide | omega)) rfl T.M_L_is_name T.F_L_is_name.kp T.B_L_is_name .nil pass0 (pa_cons (pe_ix ix_tup (pv 0) pe_int (fun _ _ => rfl)) pa_nil)))) pa_nil)))) pss_nil)
    (pss_cons (ps_if (pt_cmpR op_eq (pe_ix ix_tup (pv 0) pe_int (fun _ _ => rfl)) pe_str (nomark _)) (pss_cons (ps_if (PW.pt (pw_or (pt_cmpR op_ne (pe_callB call_len rfl T.len PySem.boot_len (pa_cons (pv 0) pa_nil)) pe_int (nomark _)) (pw_or1 (pt_not (pt_truth (pe_call G_L_from (hr.mono (by first | decide | omega)) rfl T.M_L_from T.F_L_from.kp T.B_L_from .nil pass0 (pa_cons (pe_ix ix_tup (pv 0) pe_int (fun _ _ => rfl)) (pa_cons pe_int (pa_cons pe_int pa_nil)))) (fun _ => rfl)))))) (pss_one (ps_ret pe_int)) pss_nil)
    (pss_one (ps_ret (pe_callTy call_int1 rfl T.int PyProof.Rows.boot_int (pa_cons (pe_call G_L_from (hr.mono (by first | decide | omega)) rfl T.M_L_from T.F_L_from.kp T.B_L_from .nil pass0 (pa_cons (pe_ix ix_tup (pv 0) pe_int (fun _ _ => rfl)) (pa_cons pe_int (pa_cons (pe_op op_sub (pe_op op_shl pe_int (pe_ix ix_tup (pv 0) pe_int (fun _ _ => rfl))) pe_int) pa_nil)))) pa_nil))))) pss_nil)
    (pss_cons (ps_set (i := 2) sc_L_pieces.nd rfl (Or.inl rfl) (pe_call G_L_begin (hr.mono (by first | decide | omega)) rfl T.M_L_begin T.F_L_begin.kp T.B_L_begin .nil pass0 (pa_cons (pv 0) pa_nil)))
    (pss_cons (ps_if (pt_cmpR op_eq (pv 2) pe_int (nomark _)) (pss_one (ps_ret pe_int)) pss_nil)
    (pss_cons (ps_set (i := 3) sc_L_pieces.nd rfl (Or.inl rfl) pe_int)
    (pss_cons (ps_for PassesOwn.never rfl (pi_tup (pe_slice sl_tupE (pv 0) (po_some (pv 2)) po_none)) (pg_name (i := 4) sc_L_pieces.nd rfl (Or.inl rfl))
        (pss_cons (ps_set (i := 5) sc_L_pieces.nd rfl (Or.inl rfl) (pe_call G_L_pieces (hr.mono (by first | decide | omega)) rfl T.M_L_pieces T.F_L_pieces.kp T.B_L_pieces .nil pass0 (pa_cons (pv 4) (pa_cons (pe_op op_sub (pv 1) pe_int) pa_nil))))
    (pss_cons (ps_if (pt_cmpR op_eq (pv 5) pe_int (nomark _)) (pss_one (ps_ret pe_int)) pss_nil)
    (pss_one (ps_set (i := 3) sc_L_pieces.nd rfl (Or.inl rfl) (pe_op op_add (pv 3) (pv 5)))))))
    (pss_one (ps_ret (pv 3)))))))))), ?_⟩
  obtain rfl : m = n := by omega
  have q' : ∀ {k : Nat}, pcs m d = k → ∀ H', Same H H' → Q (.int ((k : Nat) : Int)) H' := fun {k} e H' s' => by rw [← e]; exact q H' s'
  have q0 : pcs m d = 0 → Q (.int 0) H := fun e => q' e H (Same.refl H)
  refine ⟨_, rfl, rfl, _, rfl, ?_⟩
  cases m with
  | zero => exact ite_t (by decide) (iteT (q0 rfl))
  | succ m =>
    refine ite_f (decide_eq_false fun h => by injection h with h; omega) ?_
    obtain ⟨t, ty, _, _, _, kT, _⟩ := hD.ty (K := K)
    refine ⟨_, rfl, v, t, _, rfl, ty, kT, _, rfl, ?_⟩
    cases d with
    | tuple ds =>
      obtain ⟨p, xs, rfl, hp, hxs⟩ := hD.tupI
      have hxl := hxs.length
      have hszd := (szD_tup.mp hsz).2
      refine ite_f rfl ⟨_, rfl, _, _, rfl, .inr ⟨_, SqT.of hp, rfl⟩, _, _, rfl, rfl, _, rfl, ?_⟩
      by_cases h2 : ds.length < 2
      · exact ite_t (decide_eq_true (by omega)) (iteT (q0 (pcs_no (form_short h2))))
      refine ite_f (decide_eq_false (by omega)) ?_
      obtain ⟨d0, d1, dr, rfl⟩ : ∃ d0 d1 dr, ds = d0 :: d1 :: dr := by
        match ds, h2 with
        | [], h => exact absurd (by decide) h
        | [x], h => exact absurd (show 1 < 2 by decide) h
        | x :: y :: r, _ => exact ⟨x, y, r, rfl⟩
      obtain ⟨x0, r0, rfl, h0, hr0⟩ := hxs.consI
      obtain ⟨x1, r1, rfl, h1, hr1⟩ := hr0.consI
      obtain ⟨t0, ty0, _, _, k0, _⟩ := h0.ty (K := K)
      refine ⟨_, rfl, p, _, _, _, rfl, rfl, SqT.of hp, (show atI _ ((0 : Nat) : Int) = _ from atI_nat rfl), x0, t0, _, rfl, ty0, k0, _, rfl, ?_⟩
      cases d0 with
      | str z =>
        have e0 : x0 = .str z := by unfold Dat at h0; exact h0
        subst e0
        have hl1 := hr1.length
        refine ite_f rfl ⟨_, rfl, p, _, _, _, rfl, rfl, SqT.of hp, (show atI _ ((0 : Nat) : Int) = _ from atI_nat rfl), rfl, _, rfl, ?_⟩
        by_cases z1 : z = "wire"
        · subst z1
          refine ite_t (by decide) ⟨_, rfl, _, _, rfl, .inr ⟨_, SqT.of hp, rfl⟩, rfl, _, rfl, ?_⟩
          by_cases hn : dr = []
          · subst hn
            have hf : formD (.tuple [.str "wire", d1]) = nameD d1 := by
              rw [formD_eq]
              show (decide (("wire" : Str) ∈ words) && decide (1 + 1 = formN "wire") && nameD d1) = _
              rw [decide_eq_true (by decide), decide_eq_true (by decide)]
              rfl
            refine ite_t (decide_eq_true (congrArg V.int (show ((_ : Nat) : Int) = 2 by rw [List.length_cons, List.length_cons, ← hl1]; rfl))) ?_
            refine ⟨_, rfl, p, _, _, _, rfl, rfl, SqT.of hp, (show atI _ ((1 : Nat) : Int) = _ from atI_nat rfl), d1, x1, rfl, h1, hszd d1 (by simp), fun H' s' => .inr ⟨_, rfl, ?_⟩⟩
            cases hb : nameD d1 with
            | true => exact q' (k := 1) (pcs_leaf (by rw [hf, hb]) rfl) H' s'
            | false => exact q' (k := 0) (pcs_no (by rw [hf, hb])) H' s'
          · have hdl : dr.length ≠ 0 := fun h => hn (List.eq_nil_of_length_eq_zero h)
            refine ite_f (decide_eq_false (by intro e; injection e with e; rw [List.length_cons, List.length_cons] at e; omega)) ?_
            refine .inr ⟨_, rfl, q0 (pcs_no ?_)⟩
            rw [formD_eq, decide_eq_false (show ¬ (d1 :: dr).length + 1 = formN "wire" by have h9 : formN "wire" = 2 := (by decide); rw [List.length_cons]; omega)]
            simp
        refine ite_f (decide_eq_false fun h => z1 (by injection h)) ⟨_, rfl, p, _, _, _, rfl, rfl, SqT.of hp, (show atI _ ((0 : Nat) : Int) = _ from atI_nat rfl), rfl, _, rfl, ?_⟩
        by_cases z2 : z = "number"
        · subst z2
          refine ite_t (by decide) ⟨_, rfl, _, _, rfl, .inr ⟨_, SqT.of hp, rfl⟩, rfl, _, rfl, ?_⟩
          by_cases hn : dr.length = 1
          · obtain ⟨d2, rfl⟩ : ∃ d2, dr = [d2] := by
              match dr, hn with
              | [x], _ => exact ⟨x, rfl⟩
            obtain ⟨x2, r2, rfl, h2', hr2⟩ := hr1.consI
            have hf : formD (.tuple [.str "number", d1, d2]) = numD d1 d2 := by
              rw [formD_eq]
              show (decide (("number" : Str) ∈ words) && decide (2 + 1 = formN "number") && numD d1 d2) = _
              rw [decide_eq_true (by decide), decide_eq_true (by decide)]
              rfl
            refine ite_f (by rw [decide_eq_true (congrArg V.int (show ((_ : Nat) : Int) = 3 by rw [List.length_cons, List.length_cons, ← hl1]; rfl))]; rfl) ?_
            refine ⟨_, rfl, p, _, _, _, rfl, rfl, SqT.of hp, (show atI _ ((2 : Nat) : Int) = _ from atI_nat rfl), d2, x2, 1, 8, rfl, h2', _, rfl, ?_⟩
            cases hw : betD d2 1 8 with
            | false =>
              refine ite_t rfl (q0 (pcs_no ?_))
              rw [hf]
              exact numD_no hw
            | true =>
              obtain ⟨k, rfl, k1, k8⟩ := betD_int hw
              have hw' : widD (.int k) = true := hw
              have e2 := h2'.intI
              subst e2
              refine ite_f rfl ⟨_, rfl, p, _, _, _, rfl, rfl, SqT.of hp, (show atI _ ((1 : Nat) : Int) = _ from atI_nat rfl), _, rfl, p, _, _, _, rfl, rfl, SqT.of hp, (show atI _ ((2 : Nat) : Int) = _ from atI_nat rfl), _, _, rfl, rfl, ⟨by omega, by omega, by decide⟩, _, _, rfl, rfl, d1, x1, 0, _, rfl, h1, .inr ⟨_, rfl, ?_⟩⟩
              rw [Int.one_mul, ← num_bet hw', ← hf]
              cases hb : formD (.tuple [.str "number", d1, .int k]) with
              | true => exact q' (k := 1) (pcs_leaf hb rfl) H (Same.refl H)
              | false => exact q' (k := 0) (pcs_no hb) H (Same.refl H)
          · refine ite_t (by rw [decide_eq_false (by intro e; injection e with e; rw [List.length_cons, List.length_cons] at e; omega)]; rfl) (iteT (q0 (pcs_no ?_)))
            rw [formD_eq, decide_eq_false (show ¬ (d1 :: dr).length + 1 = formN "number" by have h9 : formN "number" = 3 := (by decide); rw [List.length_cons]; omega)]
            simp
        refine ite_f (decide_eq_false fun h => z2 (by injection h)) ?_
        refine ⟨_, rfl, p, z, d1 :: dr, x1 :: r1, rfl, hp, hr0, fun d' h' => hszd d' (List.mem_cons_of_mem _ h'), by simp, z1, z2, fun H1 s1 => ?_⟩
        refine ⟨_, rfl, rfl, _, rfl, ?_⟩
        cases hf : formD (.tuple (.str z :: d1 :: dr)) with
        | false =>
          refine ite_t ?_ (q' (pcs_no hf) H1 s1)
          rw [if_neg Bool.false_ne_true]
          decide
        | true =>
          obtain ⟨z', dr', e', hz, hn⟩ := formD_shape hf
          injection e' with e'
          injection e' with e1 e2
          injection e1 with e1
          subst e1
          subst e2
          have hkn := formK_le z hz
          rw [if_pos rfl]
          refine ite_f (decide_eq_false fun h => by injection h with h; omega) ?_
          have hp1 := s1 _ _ hp
          have hx1 := hxs.same s1
          have hsub : subD (.tuple (.str z :: d1 :: dr)) = (d1 :: dr).drop (formK z - 1) := rfl
          generalize hS : subD (.tuple (.str z :: d1 :: dr)) = S at hsub
          have hSz : ∀ e ∈ S, szD e = true := fun e he => sub_sz hsz (hS ▸ he)
          refine ⟨_, rfl, _, rfl, _, rfl, p, _, rfl, hp1, fun p2 H2 s2 f2 => ?_⟩
          have hcut : cutV (V.str z :: x1 :: r1) (some ((formK z : Nat) : Int)) none = (x1 :: r1).drop (formK z - 1) := by
            rw [cut_from (by rw [List.length_cons, List.length_cons, ← hl1]; rw [List.length_cons] at hn; omega)]
            obtain ⟨k, hk'⟩ : ∃ k, formK z = k + 1 := ⟨formK z - 1, by omega⟩
            rw [hk']
            rfl
          rw [hcut] at f2
          have hys : Dats H2 S ((x1 :: r1).drop (formK z - 1)) := by
            rw [hsub]
            exact ((hr0.same s1).same s2).drop _
          generalize (x1 :: r1).drop (formK z - 1) = ys at f2 hys
          have hyl := hys.length
          have hfull : (∀ x ∈ S, 0 < pcs m x) → pcs (m + 1) (.tuple (.str z :: d1 :: dr)) = 1 + (S.map (pcs m)).sum := fun h => by
            have hp : 0 < pcs (m + 1) (.tuple (.str z :: d1 :: dr)) := pcs_pos.mpr ⟨hf, by rw [hS]; exact h⟩
            rw [pcs_val hp, hS]
          have hnone : ∀ x ∈ S, pcs m x = 0 → pcs (m + 1) (.tuple (.str z :: d1 :: dr)) = 0 := fun x hx e => by
            have : ¬ 0 < pcs (m + 1) (.tuple (.str z :: d1 :: dr)) := fun hq => by
              have := (pcs_pos.mp hq).2 x (by rw [hS]; exact hx)
              omega
            omega
          refine ⟨p2, rfl, ⟨_, SqT.of f2⟩, for_tup (xs := ys) (fun i σ H' => ∃ x4 x5 : Option V, σ = [some (.ref p), some (.int ((m + 1 : Nat) : Int)), some (.int ((formK z : Nat) : Int)), some (.int ((1 + ((S.take i).map (pcs m)).sum : Nat) : Int)), x4, x5] ∧ Same H2 H' ∧ ∀ e ∈ S.take i, 0 < pcs m e) ⟨none, none, rfl, Same.refl _, (fun _ h => by simp at h)⟩ ?_ ?_ ?_⟩
          · rintro i σ H' _ ⟨_, _, _, s', _⟩
            exact SqT.of (s' _ _ f2)
          · rintro i x σ H' hx ⟨x4, x5, rfl, s', hpos⟩
            obtain ⟨e, he, hex⟩ := hys.get hx
            have hem : e ∈ S := List.mem_of_getElem? he
            have htk : S.take (i + 1) = S.take i ++ [e] := by rw [List.take_add_one, he]; rfl
            refine ⟨_, rfl, _, rfl, _, _, rfl, rfl, m, e, x, rfl, ?_, by omega, hex.same s', hSz e hem, fun H3 s3 => ?_⟩
            · show [x, V.int (((m + 1 : Nat) : Int) - 1)] = [x, V.int (m : Int)]
              rw [show (((m + 1 : Nat) : Int) - 1) = (m : Int) by omega]
            refine ⟨_, rfl, rfl, _, rfl, ?_⟩
            by_cases h0 : pcs m e = 0
            · refine ite_t (by rw [h0]; decide) ?_
              exact q' (hnone e hem h0) H3 (((s1.trans s2).trans s').trans s3)
            · refine ite_f (decide_eq_false fun h => by injection h with h; omega) ?_
              refine ⟨_, rfl, _, rfl, _, _, rfl, rfl, ?_⟩
              refine ⟨some x, some (.int ((pcs m e : Nat) : Int)), ?_, s'.trans s3, fun u hu => ?_⟩
              · rw [htk, List.map_append, List.sum_append, List.map_singleton, List.sum_singleton, show ((1 + (((S.take i).map (pcs m)).sum + pcs m e) : Nat) : Int) = ((1 + ((S.take i).map (pcs m)).sum : Nat) : Int) + ((pcs m e : Nat) : Int) by omega]
                rfl
              · rw [htk] at hu
                rcases List.mem_append.mp hu with h | h
                · exact hpos u h
                · rw [List.mem_singleton.mp h]; omega
          · rintro σ H' ⟨x4, x5, rfl, s', hpos⟩
            have htk : S.take ys.length = S := by rw [← hyl]; exact List.take_length
            rw [htk] at hpos ⊢
            exact ⟨_, rfl, q' (hfull hpos) H' ((s1.trans s2).trans s')⟩
      | _ => exact ite_t rfl (q0 (pcs_no rfl))
    | _ => exact ite_t rfl (iteT (q0 (pcs_no rfl)))
theorem ok_L_of_pieces (T : Tx w K mg A) (n : Nat) (G_L_of_pieces : FnOk P w K mg base CX0 (n + 2) A.a_L_of_pieces A.d_L_of_pieces ["_law_many"] (sp_ofp n)) : FnOk P w K mg base CX0 (n + 3) A.a_L_of_pieces A.d_L_of_pieces ["_law_many"] (sp_ofp (n + 1)) := by
  refine T.F_L_of_pieces.ok sc_L_of_pieces (fun vs H Q E h => ?_) (fun cdv A' outer s H vs Q E hr h => ?_)
  · obtain ⟨m, k, hm, rfl, k1, k2, q⟩ := h
    rfl
  obtain ⟨m, k, hm, rfl, k1, k2, q⟩ := h
  refine ⟨_, (pss_cons (ps_if (pt_cmpR op_lt (pv 0) pe_int (nomark _)) (pss_one (ps_ret (pe_ix ix_list (pe_lst (pa_cons (pe_tup (pa_consts rfl)) (pa_cons (pe_tup (pa_cons pe_str (pa_cons (pe_tup (pa_consts rfl)) pa_nil))) pa_nil))) (pe_op op_sub (pv 0) pe_int) (fun _ _ => rfl)))) pss_nil)
    (pss_cons (ps_set (i := 1) sc_L_of_pieces.nd rfl (Or.inl rfl) (pe_op op_add (pe_op op_sub (pv 0) pe_int) (pe_op op_mod (pv 0) pe_int)))
    (pss_cons (ps_set (i := 2) sc_L_of_pieces.nd rfl (Or.inl rfl) (pe_op op_add (pe_op op_mul (pe_op op_fdivL (pv 1) pe_int) pe_int) pe_int))
    (pss_cons (ps_if (pt_cmpR op_eq (pe_op op_mod (pv 0) pe_int) pe_int (nomark _)) (pss_one (ps_ret (pe_tup (pa_cons pe_str (pa_cons (pe_tup (pa_consts rfl)) (pa_cons (pe_call G_L_of_pieces (hr.mono (by first | decide | omega)) rfl T.M_L_of_pieces T.F_L_of_pieces.kp T.B_L_of_pieces .nil pass0 (pa_cons (pv 2) pa_nil)) (pa_cons (pe_call G_L_of_pieces (hr.mono (by first | decide | omega)) rfl T.M_L_of_pieces T.F_L_of_pieces.kp T.B_L_of_pieces .nil pass0 (pa_cons (pe_op op_sub (pv 1) (pv 2)) pa_nil)) pa_nil))))))) pss_nil)
    (pss_one (ps_ret (pe_tup (pa_cons pe_str (pa_cons (pe_call G_L_of_pieces (hr.mono (by first | decide | omega)) rfl T.M_L_of_pieces T.F_L_of_pieces.kp T.B_L_of_pieces .nil pass0 (pa_cons (pv 2) pa_nil)) (pa_cons (pe_call G_L_of_pieces (hr.mono (by first | decide | omega)) rfl T.M_L_of_pieces T.F_L_of_pieces.kp T.B_L_of_pieces .nil pass0 (pa_cons (pe_op op_sub (pv 1) (pv 2)) pa_nil)) pa_nil)))))))))), ?_⟩
  obtain rfl : m = n := by omega
  refine ⟨_, rfl, _, _, rfl, rfl, _, rfl, ?_⟩
  by_cases h3 : k < 3
  · refine ite_t (decide_eq_true (by omega)) ?_
    refine ⟨(by show 3 ≤ sizeLine; decide), fun p1 hp1 => ?_⟩
    have s1 := same_new hp1 (.tup [.str "number", .int 1, .int 1])
    have f1 : (upd H p1 (.tup [.str "number", .int 1, .int 1])) p1 = some (.tup [.str "number", .int 1, .int 1]) := upd_same
    generalize upd H p1 (.tup [.str "number", .int 1, .int 1]) = G1 at s1 f1 ⊢
    refine ⟨(by show 3 ≤ sizeLine; decide), fun p2 hp2 => ?_⟩
    have s2 := same_new hp2 (.tup [.str "number", .int 0, .int 1])
    have f2 : (upd G1 p2 (.tup [.str "number", .int 0, .int 1])) p2 = some (.tup [.str "number", .int 0, .int 1]) := upd_same
    generalize upd G1 p2 (.tup [.str "number", .int 0, .int 1]) = G2 at s2 f2 ⊢
    refine ⟨(by show 2 ≤ sizeLine; decide), fun p3 hp3 => ?_⟩
    have s3 := same_new hp3 (.tup [.str "not", .ref p2])
    have f3 : (upd G2 p3 (.tup [.str "not", .ref p2])) p3 = some (.tup [.str "not", .ref p2]) := upd_same
    generalize upd G2 p3 (.tup [.str "not", .ref p2]) = G3 at s3 f3 ⊢
    refine ⟨(by show 2 ≤ sizeLine; decide), fun p4 hp4 => ?_⟩
    have s4 := same_new hp4 (.lst [.ref p1, .ref p3])
    have f4 : (upd G3 p4 (.lst [.ref p1, .ref p3])) p4 = some (.lst [.ref p1, .ref p3]) := upd_same
    generalize upd G3 p4 (.lst [.ref p1, .ref p3]) = G4 at s4 f4 ⊢
    have s24 := s3.trans s4
    have s14 := s2.trans s24
    have : k = 1 ∨ k = 2 := by omega
    rcases this with rfl | rfl
    · refine ⟨_, rfl, _, _, rfl, rfl, p4, _, _, _, rfl, rfl, SqL.of f4, (show atI _ ((0 : Nat) : Int) = _ from atI_nat rfl), ?_⟩
      refine q _ G4 ?_ (s1.trans s14)
      show Dat G4 (.tuple [.str "number", .int 1, .int 1]) _
      exact .tup (s14 _ _ f1) (.cons (.str _) (.cons (.int _) (.cons (.int _) .nil)))
    · refine ⟨_, rfl, _, _, rfl, rfl, p4, _, _, _, rfl, rfl, SqL.of f4, (show atI _ ((1 : Nat) : Int) = _ from atI_nat rfl), ?_⟩
      refine q _ G4 ?_ (s1.trans s14)
      show Dat G4 (.tuple [.str "not", .tuple [.str "number", .int 0, .int 1]]) _
      exact .tup (s4 _ _ f3) (.cons (.str _) (.cons (.tup (s24 _ _ f2) (.cons (.str _) (.cons (.int _) (.cons (.int _) .nil)))) .nil))
  refine ite_f (decide_eq_false (by omega)) ?_
  obtain ⟨m', rfl⟩ : ∃ m', m = m' + 1 := by
    cases m with
    | zero => exfalso; simp at k2; omega
    | succ m' => exact ⟨m', rfl⟩
  refine ⟨_, rfl, _, _, rfl, rfl, _, rfl, _, _, rfl, rfl, (by show (0 : Int) < 2; decide), _, _, rfl, rfl, ?_⟩
  refine ⟨_, rfl, _, _, rfl, rfl, ⟨by decide, by decide⟩, _, _, rfl, rfl, .inr ⟨by decide, by decide⟩, _, _, rfl, rfl, ?_⟩
  refine ⟨_, rfl, _, _, rfl, rfl, (by show (0 : Int) < 2; decide), rfl, _, rfl, ?_⟩
  obtain ⟨lf, hlf⟩ : ∃ lf : Nat, lf = k - 2 + k % 2 := ⟨_, rfl⟩
  have hlfI : ((k : Int) - 2 + (k : Int) % 2) = (lf : Int) := by omega
  obtain ⟨on, hon⟩ : ∃ on : Nat, on = lf / 4 * 2 + 1 := ⟨_, rfl⟩
  have honI : ((lf : Int) / 4 * 2 + 1) = (on : Int) := by omega
  have hp2 : 2 ^ (m' + 1) = 2 * 2 ^ m' := by rw [Nat.pow_succ]; omega
  rw [hp2] at k2
  have hofp : ofp (m' + 1 + 1) k = if k % 2 = 0 then .tuple [.str "choice", .tuple [.str "number", .int 1, .int 1], ofp (m' + 1) on, ofp (m' + 1) (lf - on)] else .tuple [.str "and", ofp (m' + 1) on, ofp (m' + 1) (lf - on)] := by
    show (if k < 3 then _ else _) = _
    rw [if_neg h3, ← hlf, ← hon]
  rw [hofp] at q
  have on1 : 1 ≤ on ∧ on ≤ 2 ^ m' + 1 ∧ on ≤ lf ∧ 1 ≤ lf - on ∧ lf - on ≤ 2 ^ m' + 1 := by
    generalize 2 ^ m' = N at k2
    omega
  refine ite2 (fun c => ?_) (fun c => ?_)
  · have c : k % 2 = 0 := by
      have := of_decide_eq_true c
      injection this with this
      omega
    rw [if_pos c] at q
    refine ⟨(by show 3 ≤ sizeLine; decide), fun p1 hp1 => ?_⟩
    have s1 := same_new hp1 (.tup [.str "number", .int 1, .int 1])
    have f1 : (upd H p1 (.tup [.str "number", .int 1, .int 1])) p1 = some (.tup [.str "number", .int 1, .int 1]) := upd_same
    generalize upd H p1 (.tup [.str "number", .int 1, .int 1]) = G1 at s1 f1 ⊢
    refine ⟨_, rfl, m', on, rfl, ?_, on1.1, on1.2.1, fun v1 G2 D1 s2 => ?_⟩
    · show [V.int (((k : Int) - 2 + (k : Int) % 2) / 4 * 2 + 1)] = [V.int on]
      rw [hlfI, honI]
    refine ⟨_, rfl, _, rfl, _, _, rfl, rfl, m', lf - on, rfl, ?_, on1.2.2.2.1, on1.2.2.2.2, fun v2 G3 D2 s3 => ?_⟩
    · show [V.int (((k : Int) - 2 + (k : Int) % 2) - (((k : Int) - 2 + (k : Int) % 2) / 4 * 2 + 1))] = [V.int ((lf - on : Nat) : Int)]
      rw [hlfI, honI, show ((lf - on : Nat) : Int) = (lf : Int) - on by omega]
    refine ⟨(by show 4 ≤ sizeLine; decide), fun p4 hp4 => ?_⟩
    have s4 := same_new hp4 (.tup [.str "choice", .ref p1, v1, v2])
    refine q _ _ (.tup upd_same (.cons (.str _) (.cons (.tup (((s2.trans s3).trans s4) _ _ f1) (.cons (.str _) (.cons (.int _) (.cons (.int _) .nil)))) (.cons (D1.same (s3.trans s4)) (.cons (D2.same s4) .nil))))) (((s1.trans s2).trans s3).trans s4)
  · have c : ¬ k % 2 = 0 := fun h => c (decide_eq_true (congrArg V.int (by omega)))
    rw [if_neg c] at q
    refine ⟨_, rfl, m', on, rfl, ?_, on1.1, on1.2.1, fun v1 G2 D1 s2 => ?_⟩
    · show [V.int (((k : Int) - 2 + (k : Int) % 2) / 4 * 2 + 1)] = [V.int on]
      rw [hlfI, honI]
    refine ⟨_, rfl, _, rfl, _, _, rfl, rfl, m', lf - on, rfl, ?_, on1.2.2.2.1, on1.2.2.2.2, fun v2 G3 D2 s3 => ?_⟩
    · show [V.int (((k : Int) - 2 + (k : Int) % 2) - (((k : Int) - 2 + (k : Int) % 2) / 4 * 2 + 1))] = [V.int ((lf - on : Nat) : Int)]
      rw [hlfI, honI, show ((lf - on : Nat) : Int) = (lf : Int) - on by omega]
    refine ⟨(by show 3 ≤ sizeLine; decide), fun p4 hp4 => ?_⟩
    have s4 := same_new hp4 (.tup [.str "and", v1, v2])
    exact q _ _ (.tup upd_same (.cons (.str _) (.cons (D1.same (s3.trans s4)) (.cons (D2.same s4) .nil)))) ((s2.trans s3).trans s4)
theorem ok_L_truth (T : Tx w K mg A) : FnOk P w K mg base CX0 1 A.a_L_truth A.d_L_truth ["_law_found", "_law_due"] sp_L_truth := by
  refine T.F_L_truth.ok sc_L_truth (fun vs H Q E h => ?_) (fun cdv A' outer s H vs Q E hr h => ?_)
  · obtain ⟨a, b, rfl, q⟩ := h
    rfl
  obtain ⟨a, b, rfl, q⟩ := h
  refine ⟨_, (pss_cons (ps_if (pt_truth (pv 1) (fun _ => rfl)) (pss_one (ps_ret (pe_cmpR op_isB (pv 0) pe_bl (nomark _)))) pss_nil)
    (pss_one (ps_ret (pe_cmpR op_isB (pv 0) pe_bl (nomark _))))), ?_⟩
  refine ⟨_, rfl, _, rfl, ?_⟩
  cases b with
  | true =>
    refine iteT ⟨_, rfl, _, rfl, (fun _ z => nomatch z), (fun _ z => nomatch z), ?_⟩
    have e : decide (V.bl a = V.bl true) = decide (a = true) := by cases a <;> rfl
    rw [e]
    exact q
  | false =>
    refine iteF ⟨_, rfl, _, rfl, (fun _ z => nomatch z), (fun _ z => nomatch z), ?_⟩
    have e : decide (V.bl a = V.bl false) = decide (a = false) := by cases a <;> rfl
    rw [e]
    exact q
theorem ok_L_at_bounds (T : Tx w K mg A) (G_L_name : FnOk P w K mg base CX0 2 A.a_L_name A.d_L_name ["_law_bag_here"] sp_L_name) (G_L_truth : FnOk P w K mg base CX0 1 A.a_L_truth A.d_L_truth ["_law_found", "_law_due"] sp_L_truth) (G_L_take : FnOk P w K mg base CX0 1 A.a_L_take A.d_L_take ["_law_bag_here", "_law_many"] sp_L_take) (G_is_saying : FnOk P w K mg base CX0 7 A.a_is_saying A.d_is_saying ["thing"] sp_saying) (G_L_of_pieces : FnOk P w K mg base CX0 9 A.a_L_of_pieces A.d_L_of_pieces ["_law_many"] (sp_ofp 7)) : FnOk P w K mg base CX0 10 A.a_L_at_bounds A.d_L_at_bounds ["_law_bag_here"] sp_L_bounds := by
  refine T.F_L_at_bounds.ok sc_L_at_bounds (fun vs H Q E h => ?_) (fun cdv A' outer s H vs Q E hr h => ?_)
  · obtain ⟨l, rfl, hb, q⟩ := h
    rfl
  obtain ⟨l, rfl, hb, q⟩ := h
  refine ⟨_, (pss_cons (ps_for PassesOwn.never rfl (pi_range2 rfl T.range (pa_cons pe_int (pa_cons pe_int pa_nil))) (pg_name (i := 1) sc_L_at_bounds.nd rfl (Or.inl rfl))
        (pss_one (ps_if (pt_not (pt_truth (pe_call G_L_truth (hr.mono (by first | decide | omega)) rfl T.M_L_truth T.F_L_truth.kp T.B_L_truth .nil pass0 (pa_cons (pe_call G_is_saying (hr.mono (by first | decide | omega)) rfl T.M_is_saying T.F_is_saying.kp T.B_is_saying .nil pass0 (pa_cons (pe_call G_L_of_pieces (hr.mono (by first | decide | omega)) rfl T.M_L_of_pieces T.F_L_of_pieces.kp T.B_L_of_pieces .nil pass0 (pa_cons (pv 1) pa_nil)) pa_nil)) (pa_cons (pe_cmpR op_lt (pv 1) pe_int (nomark _)) pa_nil))) (fun _ => rfl))) (pss_one (ps_ret pe_bl)) pss_nil)))
    (pss_cons (ps_set (i := 2) sc_L_at_bounds.nd rfl (Or.inl rfl) (pe_tup (pa_cons pe_str (pa_cons (pe_call G_L_name (hr.mono (by first | decide | omega)) rfl T.M_L_name T.F_L_name.kp T.B_L_name .nil pass0 (pa_cons (pv 0) pa_nil)) pa_nil))))
    (pss_cons (ps_for PassesOwn.never rfl (pi_range2 rfl T.range (pa_cons pe_int (pa_cons pe_int pa_nil))) (pg_name (i := 3) sc_L_at_bounds.nd rfl (Or.inl rfl))
        (pss_cons (ps_if (pt_not (pt_truth (pe_call G_L_truth (hr.mono (by first | decide | omega)) rfl T.M_L_truth T.F_L_truth.kp T.B_L_truth .nil pass0 (pa_cons (pe_call G_is_saying (hr.mono (by first | decide | omega)) rfl T.M_is_saying T.F_is_saying.kp T.B_is_saying .nil pass0 (pa_cons (pv 2) pa_nil)) (pa_cons (pe_cmpR op_lt (pv 3) pe_int (nomark _)) pa_nil))) (fun _ => rfl))) (pss_one (ps_ret pe_bl)) pss_nil)
    (pss_one (ps_set (i := 2) sc_L_at_bounds.nd rfl (Or.inl rfl) (pe_ix ix_list (pe_lst (pa_cons (pe_tup (pa_cons pe_str (pa_cons (pv 2) pa_nil))) (pa_cons (pe_tup (pa_cons pe_str (pa_cons pe_int (pa_cons (pv 2) pa_nil)))) (pa_cons (pe_tup (pa_cons pe_str (pa_cons pe_int (pa_cons pe_int (pa_cons (pv 2) pa_nil))))) pa_nil)))) (pe_call G_L_take (hr.mono (by first | decide | omega)) rfl T.M_L_take T.F_L_take.kp T.B_L_take .nil pass0 (pa_cons (pv 0) (pa_cons pe_int pa_nil))) (fun _ _ => rfl))))))
    (pss_one (ps_ret pe_bl))))), ?_⟩
  refine ⟨_, _, rfl, ⟨by decide, by decide, by decide, by decide⟩, for_range (lo := 38) (fun i σ H' => ∃ x y z : Option V, σ = [some (.ref l), x, y, z] ∧ Bg l H H') ⟨_, _, _, rfl, Bg.refl hb⟩ ?_ ?_⟩
  · rintro i σ H1 hi ⟨x, y, z, rfl, g⟩
    have hi5 : i < 5 := hi
    obtain ⟨o1, o2⟩ := ofp_say (38 + i) (by omega) (by omega)
    refine ⟨_, rfl, 6, 38 + i, rfl, ?_, by omega, (by show 38 + i ≤ 2 ^ 6 + 1; have : (2 : Nat) ^ 6 = 64 := rfl; omega), fun v H2 hD s2 => ?_⟩
    · show [V.int (38 + (i : Int))] = [V.int ((38 + i : Nat) : Int)]
      rw [show ((38 + i : Nat) : Int) = 38 + (i : Int) by omega]
    refine ⟨_, v, rfl, hD, o2, fun H3 s3 => ?_⟩
    refine ⟨_, rfl, _, _, rfl, rfl, sayB (ofp 7 (38 + i)), decide (38 + (i : Int) < 41), rfl, _, rfl, ?_⟩
    refine ite_f ?_ ?_
    · rw [o1, show decide (38 + (i : Int) < 41) = decide (38 + i < 41) from decide_eq_decide.mpr (by omega)]
      simp
    exact ⟨_, _, _, rfl, g.trans (g.2.same (s2.trans s3))⟩
  · rintro σ H1 ⟨x, y, z, rfl, g⟩
    refine ⟨_, rfl, l, rfl, g.2, fun z H2 hz hb2 => ?_⟩
    have g2 := g.trans hb2
    refine ⟨(by show 2 ≤ sizeLine; decide), fun p hp => ?_⟩
    have s3 := same_new hp (.tup [.str "wire", .str z])
    have f3 : (upd H2 p (.tup [.str "wire", .str z])) p = some (.tup [.str "wire", .str z]) := upd_same
    show tSeq _ _ _ _ (upd H2 p (.tup [.str "wire", .str z]))
    generalize upd H2 p (.tup [.str "wire", .str z]) = H3 at s3 f3 ⊢
    have g3 := g2.trans (g2.2.same s3)
    have gw := good_wire (n := 0) (room := 1) hz (by decide)
    have hf : formD (.tuple [.str "wire", .str z]) = true := (pcs_pos.mp gw.2.2.2.1).1
    have c1 : Chn 1 (.tuple [.str "wire", .str z]) := ⟨Nat.le_refl _, fun n => by
      cases n with
      | zero => rfl
      | succ n => rw [if_pos (by omega)]; exact pcs_leaf hf rfl⟩
    refine ⟨_, _, rfl, ⟨by decide, by decide, by decide, by decide⟩, for_range (lo := 1) (fun i σ H' => ∃ (d : PyData) (v : V) (x y : Option V), σ = [some (.ref l), x, some v, y] ∧ Chn (1 + i) d ∧ noL d = true ∧ szD d = true ∧ Dat H' d v ∧ Bg l H H') ⟨_, _, _, _, rfl, c1, gw.1, gw.2.1, .tup f3 (.cons (.str _) (.cons (.str _) .nil)), g3⟩ ?_ ?_⟩
    · rintro i σ G hi ⟨d, v, x, y, rfl, hc, hnl, hsz, hD, hg⟩
      have hi8 : i < 8 := hi
      refine ⟨_, rfl, d, v, rfl, hD, hsz, fun G0 s0 => ?_⟩
      refine ⟨_, rfl, _, _, rfl, rfl, sayB d, decide (1 + (i : Int) < 7), rfl, _, rfl, ?_⟩
      refine ite_f ?_ ?_
      · rw [hc.say (by omega), show decide (1 + (i : Int) < 7) = decide (1 + i < 7) from decide_eq_decide.mpr (by omega)]
        simp
      have hD := hD.same s0
      have hg := hg.trans (hg.2.same s0)
      refine ⟨_, rfl, (by show 2 ≤ sizeLine; decide), fun p1 hp1 => ?_⟩
      have s1 := same_new hp1 (.tup [.str "not", v])
      have f1 : (upd G0 p1 (.tup [.str "not", v])) p1 = some (.tup [.str "not", v]) := upd_same
      generalize upd G0 p1 (.tup [.str "not", v]) = G1 at s1 f1 ⊢
      refine ⟨_, rfl, (by show 3 ≤ sizeLine; decide), fun p2 hp2 => ?_⟩
      have s2 := same_new hp2 (.tup [.str "down", .int 8, v])
      have f2 : (upd G1 p2 (.tup [.str "down", .int 8, v])) p2 = some (.tup [.str "down", .int 8, v]) := upd_same
      generalize upd G1 p2 (.tup [.str "down", .int 8, v]) = G2 at s2 f2 ⊢
      refine ⟨_, rfl, (by show 4 ≤ sizeLine; decide), fun p3 hp3 => ?_⟩
      have s3 := same_new hp3 (.tup [.str "cut", .int 7, .int 8, v])
      have f3 : (upd G2 p3 (.tup [.str "cut", .int 7, .int 8, v])) p3 = some (.tup [.str "cut", .int 7, .int 8, v]) := upd_same
      generalize upd G2 p3 (.tup [.str "cut", .int 7, .int 8, v]) = G3 at s3 f3 ⊢
      refine ⟨(by show 3 ≤ sizeLine; decide), fun p4 hp4 => ?_⟩
      have s4 := same_new hp4 (.lst [.ref p1, .ref p2, .ref p3])
      have f4 : (upd G3 p4 (.lst [.ref p1, .ref p2, .ref p3])) p4 = some (.lst [.ref p1, .ref p2, .ref p3]) := upd_same
      have n4 : p4 ≠ l := (hg.2.same ((s1.trans s2).trans s3)).2.ne hp4
      generalize upd G3 p4 (.lst [.ref p1, .ref p2, .ref p3]) = G4 at s4 f4 ⊢
      have s04 := ((s1.trans s2).trans s3).trans s4
      have g4 := hg.trans (hg.2.same s04)
      refine ⟨_, rfl, l, 3, rfl, g4.2, by decide, by decide, fun k G5 k0 k1 hb5 => ?_⟩
      have kt := Bg.keepT g4.2 hb5
      have hDv : Dat G5 d v := (hD.same s04).keepT kt hnl
      have f1 := kt _ _ (((s2.trans s3).trans s4) _ _ f1)
      have f2 := kt _ _ ((s3.trans s4) _ _ f2)
      have f3 := kt _ _ (s4 _ _ f3)
      have f4 := hb5.1 p4 _ n4 f4
      have D1 : Dat G5 (.tuple [.str "not", d]) (.ref p1) := .tup f1 (.cons (.str _) (.cons hDv .nil))
      have D2 : Dat G5 (.tuple [.str "down", .int 8, d]) (.ref p2) := .tup f2 (.cons (.str _) (.cons (.int _) (.cons hDv .nil)))
      have D3 : Dat G5 (.tuple [.str "cut", .int 7, .int 8, d]) (.ref p3) := .tup f3 (.cons (.str _) (.cons (.int _) (.cons (.int _) (.cons hDv .nil))))
      have n1 : noL (.tuple [.str "not", d]) = true := by simp [noL, noLs, hnl]
      have n2 : noL (.tuple [.str "down", .int 8, d]) = true := by simp [noL, noLs, hnl]
      have n3 : noL (.tuple [.str "cut", .int 7, .int 8, d]) = true := by simp [noL, noLs, hnl]
      have z1 : szD (.tuple [.str "not", d]) = true := by simp only [szD, szD.szDs, hsz]; rfl
      have z2 : szD (.tuple [.str "down", .int 8, d]) = true := by simp only [szD, szD.szDs, hsz]; rfl
      have z3 : szD (.tuple [.str "cut", .int 7, .int 8, d]) = true := by simp only [szD, szD.szDs, hsz]; rfl
      have c1 : Chn (1 + i + 1) (.tuple [.str "not", d]) := hc.wrap (hd := []) (by decide) (by decide) (by decide) rfl
      have c2 : Chn (1 + i + 1) (.tuple [.str "down", .int 8, d]) := hc.wrap (hd := [.int 8]) (by decide) (by show 1 + 1 + 1 = formN "down"; decide) (by show formK "down" = 2; decide) rfl
      have c3 : Chn (1 + i + 1) (.tuple [.str "cut", .int 7, .int 8, d]) := hc.wrap (hd := [.int 7, .int 8]) (by decide) (by show 2 + 1 + 1 = formN "cut"; decide) (by show formK "cut" = 3; decide) rfl
      have hw3' : ∃ d' v', atI [V.ref p1, V.ref p2, V.ref p3] k = some v' ∧ Chn (1 + (i + 1)) d' ∧ noL d' = true ∧ szD d' = true ∧ Dat G5 d' v' := by
        have : k = 0 ∨ k = 1 ∨ k = 2 := by omega
        rcases this with rfl | rfl | rfl
        · exact ⟨_, _, rfl, c1, n1, z1, D1⟩
        · exact ⟨_, _, rfl, c2, n2, z2, D2⟩
        · exact ⟨_, _, rfl, c3, n3, z3, D3⟩
      obtain ⟨d', v', hat, hc', hn', hz', hD'⟩ := hw3'
      refine ⟨p4, _, _, _, rfl, rfl, SqL.of f4, hat, ?_⟩
      exact ⟨d', v', _, _, rfl, hc', hn', hz', hD', g4.trans hb5⟩
    · rintro σ G ⟨d, v, x, y, rfl, hc, hnl, hsz, hD, hg⟩
      exact q G hg
theorem ok_law (T : Tx w K mg A) (G_L_bag : FnOk P w K mg base CX0 1 A.a_L_bag A.d_L_bag ["_law_script", "_law_at"] (sp_L_bag K)) (G_L_any : FnOk P w K mg base CX0 9 A.a_L_any A.d_L_any ["_law_bag_here", "_law_deep", "_law_room"] (sp_any 6)) (G_L_other : FnOk P w K mg base CX0 10 A.a_L_other A.d_L_other ["_law_thing", "_law_bag_here"] sp_L_other) (G_is_saying : FnOk P w K mg base CX0 7 A.a_is_saying A.d_is_saying ["thing"] sp_saying) (G_L_at_bounds : FnOk P w K mg base CX0 10 A.a_L_at_bounds A.d_L_at_bounds ["_law_bag_here"] sp_L_bounds) (G_L_truth : FnOk P w K mg base CX0 1 A.a_L_truth A.d_L_truth ["_law_found", "_law_due"] sp_L_truth) (G_L_pieces : FnOk P w K mg base CX0 9 A.a_L_pieces A.d_L_pieces ["_law_thing", "_law_deep"] (sp_pieces 7)) : FnOk P w K mg base CX0 11 A.a_law A.d_law ["_law_script"] (sp_law K) := by
  refine T.F_law.ok sc_law (fun vs H Q E h => ?_) (fun cdv A' outer s H vs Q E hr h => ?_)
  · obtain ⟨a, ns, rfl, hS, h63, q⟩ := h
    rfl
  obtain ⟨a, ns, rfl, hS, h63, q⟩ := h
  refine ⟨_, (pss_cons (ps_set (i := 1) sc_law.nd rfl (Or.inl rfl) (pe_call G_L_bag (hr.mono (by first | decide | omega)) rfl T.M_L_bag T.F_L_bag.kp T.B_L_bag .nil pass0 (pa_cons (pv 0) (pa_cons pe_int pa_nil))))
    (pss_cons (ps_set (i := 2) sc_law.nd rfl (Or.inl rfl) (pe_call G_L_any (hr.mono (by first | decide | omega)) rfl T.M_L_any T.F_L_any.kp T.B_L_any .nil pass0 (pa_cons (pv 1) (pa_cons pe_int (pa_cons pe_int pa_nil)))))
    (pss_cons (ps_if (PW.pt (pw_or (pt_cmpR op_isnotB (pe_call G_is_saying (hr.mono (by first | decide | omega)) rfl T.M_is_saying T.F_is_saying.kp T.B_is_saying .nil pass0 (pa_cons (pv 2) pa_nil)) pe_bl (nomark _)) (pw_or1 (pt_not (pt_truth (pe_call G_L_at_bounds (hr.mono (by first | decide | omega)) rfl T.M_L_at_bounds T.F_L_at_bounds.kp T.B_L_at_bounds .nil pass0 (pa_cons (pv 1) pa_nil)) (fun _ => rfl)))))) (pss_one (ps_ret pe_bl)) pss_nil)
    (pss_cons (ps_for PassesOwn.never rfl (pi_range1 rfl T.range (pa_cons (pe_callB (call_max2 rfl) rfl T.max PyProof.Rows.boot_max (pa_cons pe_int (pa_cons (pe_callB (call_min2 rfl) rfl T.min PyProof.Rows.boot_min (pa_cons (pe_callB call_len rfl T.len PySem.boot_len (pa_cons (pv 0) pa_nil)) (pa_cons pe_int pa_nil))) pa_nil))) pa_nil)) (pg_name (i := 3) sc_law.nd rfl (Or.inl rfl))
        (pss_cons (ps_set (i := 4) sc_law.nd rfl (Or.inl rfl) (pe_call G_L_other (hr.mono (by first | decide | omega)) rfl T.M_L_other T.F_L_other.kp T.B_L_other .nil pass0 (pa_cons (pv 2) (pa_cons (pe_call G_L_bag (hr.mono (by first | decide | omega)) rfl T.M_L_bag T.F_L_bag.kp T.B_L_bag .nil pass0 (pa_cons (pv 0) (pa_cons (pv 3) pa_nil))) pa_nil))))
    (pss_one (ps_if (pt_not (pt_truth (pe_call G_L_truth (hr.mono (by first | decide | omega)) rfl T.M_L_truth T.F_L_truth.kp T.B_L_truth .nil pass0 (pa_cons (pe_call G_is_saying (hr.mono (by first | decide | omega)) rfl T.M_is_saying T.F_is_saying.kp T.B_is_saying .nil pass0 (pa_cons (pv 4) pa_nil)) (pa_cons (pe_chain op_lt op_le pe_int (pe_call G_L_pieces (hr.mono (by first | decide | omega)) rfl T.M_L_pieces T.F_L_pieces.kp T.B_L_pieces .nil pass0 (pa_cons (pv 4) (pa_cons pe_int pa_nil))) pe_int) pa_nil))) (fun _ => rfl))) (pss_one (ps_ret pe_bl)) pss_nil))))
    (pss_one (ps_ret pe_bl)))))), ?_⟩
  have hl : (ns.map V.int).length = ns.length := List.length_map _
  refine ⟨_, rfl, a, ns, 0, rfl, hS, h63, by decide, fun l b0 b1 hl1 hb0 => ?_⟩
  have s1 := same_new hl1 (.lst [.int b0, .int b1])
  have bag1 : Bag (upd H l (.lst [.int b0, .int b1])) l := ⟨b0, b1, upd_same, hb0⟩
  show tSeq _ _ _ _ (upd H l (.lst [.int b0, .int b1]))
  generalize upd H l (.lst [.int b0, .int b1]) = H1 at s1 bag1 ⊢
  refine ⟨_, rfl, l, 40, rfl, by decide, bag1, by decide, by decide, fun d v H2 gd hD hb2 => ?_⟩
  have hsay : sayB d = true := decide_eq_true ⟨gd.2.2.2.1, by have := gd.2.2.2.2; omega⟩
  refine ⟨_, rfl, d, v, rfl, hD, gd.2.1, fun H3 s3 => ?_⟩
  rw [hsay]
  have b3 := hb2.trans (hb2.2.same s3)
  refine ⟨_, _, rfl, rfl, _, rfl, ?_⟩
  refine ite_f rfl ⟨_, rfl, l, rfl, b3.2, fun H4 hb4 => ⟨_, rfl, ?_⟩⟩
  refine ite_f rfl ?_
  have b4 := b3.trans hb4
  have s4 := Bg.same hl1 s1 b4
  have hD4 := (hD.same s3).keepT (Bg.keepT b3.2 hb4) gd.1
  refine ⟨_, rfl, _, _, rfl, .inl ⟨_, s4.seq hS, rfl⟩, _, _, rfl, _, _, rfl, _, rfl, ?_, ?_, for_range (lo := 0) (fun i σ H' => ∃ (x3 x4 : Option V), σ = [some (.ref a), some (.ref l), some v, x3, x4] ∧ Same H H' ∧ Dat H' d v) ⟨_, _, rfl, s4, hD4⟩ ?_ ?_⟩
  · split <;> split <;> omega
  · split <;> split <;> omega
  · rintro i σ H5 hi ⟨x3, x4, rfl, s5, hD5⟩
    refine ⟨_, rfl, _, rfl, _, rfl, a, ns, _, rfl, s5.seq hS, h63, by omega, fun l2 c0 c1 hl2 hc0 => ?_⟩
    have s6 := same_new hl2 (.lst [.int c0, .int c1])
    have bag6 : Bag (upd H5 l2 (.lst [.int c0, .int c1])) l2 := ⟨c0, c1, upd_same, hc0⟩
    have hl2H := s5.free hl2
    generalize upd H5 l2 (.lst [.int c0, .int c1]) = H6 at s6 bag6 ⊢
    refine ⟨d, v, l2, rfl, bag6, hD5.same s6, gd.1, gd.2.1, gd.2.2.1, fun d' v' H7 hsz' hD' hb7 => ?_⟩
    have s7 := Bg.same hl2H (s5.trans s6) hb7
    have hD7 := (hD5.same s6).keepT (Bg.keepT bag6 hb7) gd.1
    refine ⟨_, rfl, d', v', rfl, hD', hsz', fun H8 s8 => ?_⟩
    refine ⟨_, rfl, 6, d', v', rfl, rfl, Nat.le_refl 6, hD'.same s8, hsz', fun H9 s9 => ?_⟩
    refine ⟨_, _, rfl, rfl, _, rfl, ?_⟩
    by_cases h0 : 0 < pcs 6 d'
    · refine ite_t (decide_eq_true (by omega)) ⟨_, _, rfl, rfl, sayB d', decide (((pcs 6 d' : Nat) : Int) ≤ 40), rfl, _, rfl, ?_⟩
      refine ite_f ?_ ⟨_, _, rfl, s7.trans (s8.trans s9), hD7.same (s8.trans s9)⟩
      have e9 : sayB d' = decide (((pcs 6 d' : Nat) : Int) ≤ 40) := by unfold sayB; exact decide_eq_decide.mpr ⟨fun h => by omega, fun h => ⟨h0, by omega⟩⟩
      rw [e9]
      simp
    · refine ite_f (decide_eq_false (by omega)) ⟨sayB d', false, rfl, _, rfl, ?_⟩
      refine ite_f ?_ ⟨_, _, rfl, s7.trans (s8.trans s9), hD7.same (s8.trans s9)⟩
      have e9 : sayB d' = false := by unfold sayB; exact decide_eq_false fun h => h0 h.1
      rw [e9]
      simp
  · rintro σ H5 ⟨x3, x4, rfl, s5, _⟩
    exact q _
end
theorem any_all {P : Program} {w : World} {K : PySem.W.Frag} {mg : Str → Option Value} {base : Heap} {A : Ad} (T : Tx w K mg A) (G_L_take : FnOk P w K mg base CX0 1 A.a_L_take A.d_L_take ["_law_bag_here", "_law_many"] sp_L_take) (G_L_name : FnOk P w K mg base CX0 2 A.a_L_name A.d_L_name ["_law_bag_here"] sp_L_name) (G_L_rooms : FnOk P w K mg base CX0 2 A.a_L_rooms A.d_L_rooms ["_law_bag_here", "_law_room", "_law_many"] sp_L_rooms) : ∀ n, FnOk P w K mg base CX0 (n + 2) A.a_L_any A.d_L_any ["_law_bag_here", "_law_deep", "_law_room"] (sp_any n)
  | 0 => fn_none fun vs H Q E h => by
    obtain ⟨_, _, _, h1, _⟩ := h
    omega
  | n + 1 => (ok_L_any T G_L_take G_L_name G_L_rooms n (any_all T G_L_take G_L_name G_L_rooms n))
theorem spoilt_all {P : Program} {w : World} {K : PySem.W.Frag} {mg : Str → Option Value} {base : Heap} {A : Ad} (T : Tx w K mg A) (G_L_take : FnOk P w K mg base CX0 1 A.a_L_take A.d_L_take ["_law_bag_here", "_law_many"] sp_L_take) (G_L_odd : FnOk P w K mg base CX0 2 A.a_L_odd A.d_L_odd ["_law_bag_here"] sp_L_odd) : ∀ n, FnOk P w K mg base CX0 (n + 2) A.a_L_spoilt A.d_L_spoilt ["_law_thing", "_law_bag_here"] (sp_spoilt n)
  | 0 => fn_none fun vs H Q E h => by
    obtain ⟨_, _, _, _, h1, _⟩ := h
    omega
  | n + 1 => (ok_L_spoilt T G_L_take G_L_odd n (spoilt_all T G_L_take G_L_odd n))
theorem pieces_all {P : Program} {w : World} {K : PySem.W.Frag} {mg : Str → Option Value} {base : Heap} {A : Ad} (T : Tx w K mg A) (G_L_is_name : FnOk P w K mg base CX0 1 A.a_L_is_name A.d_L_is_name ["_law_thing"] sp_is_name) (G_L_from : FnOk P w K mg base CX0 1 A.a_L_from A.d_L_from ["_law_thing", "_law_least", "_law_most"] sp_between) (G_L_begin : FnOk P w K mg base CX0 2 A.a_L_begin A.d_L_begin ["_law_thing"] sp_L_begin) : ∀ n, FnOk P w K mg base CX0 (n + 2) A.a_L_pieces A.d_L_pieces ["_law_thing", "_law_deep"] (sp_pieces n)
  | 0 => fn_none fun vs H Q E h => by
    obtain ⟨_, _, _, h1, _⟩ := h
    omega
  | n + 1 => (ok_L_pieces T G_L_is_name G_L_from G_L_begin n (pieces_all T G_L_is_name G_L_from G_L_begin n))
theorem ofp_all {P : Program} {w : World} {K : PySem.W.Frag} {mg : Str → Option Value} {base : Heap} {A : Ad} (T : Tx w K mg A) : ∀ n, FnOk P w K mg base CX0 (n + 2) A.a_L_of_pieces A.d_L_of_pieces ["_law_many"] (sp_ofp n)
  | 0 => fn_none fun vs H Q E h => by
    obtain ⟨_, _, h1, _⟩ := h
    omega
  | n + 1 => (ok_L_of_pieces T n (ofp_all T n))

theorem all_ok {P : Program} {w : World} {K : PySem.W.Frag} {mg : Str → Option Value} {base : Heap} {A : Ad} (T : Tx w K mg A) : FnOk P w K mg base CX0 11 A.a_law A.d_law ["_law_script"] (sp_law K) := by
  have G_is_whole := ok_is_whole (P := P) (base := base) T
  have G_is_between := ok_is_between (P := P) (base := base) T G_is_whole
  have G_is_word := ok_is_word (P := P) (base := base) T
  have G_is_name := ok_is_name (P := P) (base := base) T G_is_word
  have G_is_width := ok_is_width (P := P) (base := base) T G_is_between
  have G_two_to := ok_two_to (P := P) (base := base) T
  have G_is_number := ok_is_number (P := P) (base := base) T G_is_width G_is_between G_two_to
  have G_are_numbers := ok_are_numbers (P := P) (base := base) T G_is_number
  have G_is_formed := ok_is_formed (P := P) (base := base) T G_is_name G_is_number G_is_between G_are_numbers G_is_word G_is_width
  have G_sayings_in := ok_sayings_in (P := P) (base := base) T
  have G_is_saying := ok_is_saying (P := P) (base := base) T G_is_formed G_sayings_in
  have G_L_bag := ok_L_bag (P := P) (base := base) T
  have G_L_take := ok_L_take (P := P) (base := base) T
  have G_L_name := ok_L_name (P := P) (base := base) T G_L_take
  have G_L_rooms := ok_L_rooms (P := P) (base := base) T G_L_take
  have G_L_any := (any_all (P := P) (base := base) T G_L_take G_L_name G_L_rooms 6).mono (show 8 ≤ 9 by decide)
  have G_L_odd := ok_L_odd (P := P) (base := base) T G_L_take
  have G_L_spoilt := (spoilt_all (P := P) (base := base) T G_L_take G_L_odd 7)
  have G_L_other := ok_L_other (P := P) (base := base) T G_L_take G_L_spoilt
  have G_L_from := ok_L_from (P := P) (base := base) T
  have G_L_is_name := ok_L_is_name (P := P) (base := base) T
  have G_L_begin := ok_L_begin (P := P) (base := base) T G_L_from
  have G_L_pieces := (pieces_all (P := P) (base := base) T G_L_is_name G_L_from G_L_begin 7)
  have G_L_of_pieces := (ofp_all (P := P) (base := base) T 7)
  have G_L_truth := ok_L_truth (P := P) (base := base) T
  have G_L_at_bounds := ok_L_at_bounds (P := P) (base := base) T G_L_name G_L_truth G_L_take G_is_saying G_L_of_pieces
  exact ok_law T G_L_bag G_L_any G_L_other G_is_saying G_L_at_bounds G_L_truth G_L_pieces
theorem all_mk {w : World} {K : PySem.W.Frag} {h : Heap} {mg : Str → Option Value} {fa : Addr} (X : K.In h) (G : h.Ns mainGlobals mg) (hfa : mg "law" = some (.ref fa))
    {f0 f1 f2 f3 f4 f5 f6 f7 f8 f9 f10 f11 f12 f13 f14 f15 f16 f17 f18 f19 f20 f21 f22 f23 f24 f25 f26 : Addr} {od0 an0 od1 an1 od2 an2 od3 an3 od4 an4 od5 an5 od6 an6 od7 an7 od8 an8 od9 an9 od10 an10 od11 an11 od12 an12 od13 an13 od14 an14 od15 an15 od16 an16 od17 an17 od18 an18 od19 an19 od20 an20 od21 an21 od22 an22 od23 an23 od24 an24 od25 an25 od26 an26 : Option Addr} {sl0 sl1 sl2 sl3 sl4 sl5 sl6 sl7 sl8 sl9 sl10 sl11 sl12 sl13 sl14 sl15 sl16 sl17 sl18 sl19 sl20 sl21 sl22 sl23 sl24 sl25 sl26 : Array (Option Value)} {oc0 kV0 dc0 pm0 cd0 ct0 oc1 kV1 dc1 pm1 cd1 ct1 oc2 kV2 dc2 pm2 cd2 ct2 oc3 kV3 dc3 pm3 cd3 ct3 oc4 kV4 dc4 pm4 cd4 ct4 oc5 kV5 dc5 pm5 cd5 ct5 oc6 kV6 dc6 pm6 cd6 ct6 oc7 kV7 dc7 pm7 cd7 ct7 oc8 kV8 dc8 pm8 cd8 ct8 oc9 kV9 dc9 pm9 cd9 ct9 oc10 kV10 dc10 pm10 cd10 ct10 oc11 kV11 dc11 pm11 cd11 ct11 oc12 kV12 dc12 pm12 cd12 ct12 oc13 kV13 dc13 pm13 cd13 ct13 oc14 kV14 dc14 pm14 cd14 ct14 oc15 kV15 dc15 pm15 cd15 ct15 oc16 kV16 dc16 pm16 cd16 ct16 oc17 kV17 dc17 pm17 cd17 ct17 oc18 kV18 dc18 pm18 cd18 ct18 oc19 kV19 dc19 pm19 cd19 ct19 oc20 kV20 dc20 pm20 cd20 ct20 oc21 kV21 dc21 pm21 cd21 ct21 oc22 kV22 dc22 pm22 cd22 ct22 oc23 kV23 dc23 pm23 cd23 ct23 oc24 kV24 dc24 pm24 cd24 ct24 oc25 kV25 dc25 pm25 cd25 ct25 oc26 kV26 dc26 pm26 cd26 ct26 : Value}
    (a0 : PySem.W.nsIn K mainGlobals "is_whole" = some (some (.ref f0))) (l0 : K.lookup f0 = some ⟨oc0, od0, .func (PySem.W.fnOf "is_whole" "is_whole" (defArgs s_is_whole) (defBody s_is_whole) (defScope s_is_whole) .none kV0 dc0 pm0 an0 cd0 ct0), sl0⟩) (c0 : PySem.W.codeIn K cd0 "is_whole" = true) (k0 : PySem.W.keepIn K (.ref f0) = true)
    (a1 : PySem.W.nsIn K mainGlobals "is_between" = some (some (.ref f1))) (l1 : K.lookup f1 = some ⟨oc1, od1, .func (PySem.W.fnOf "is_between" "is_between" (defArgs s_is_between) (defBody s_is_between) (defScope s_is_between) .none kV1 dc1 pm1 an1 cd1 ct1), sl1⟩) (c1 : PySem.W.codeIn K cd1 "is_between" = true) (k1 : PySem.W.keepIn K (.ref f1) = true)
    (a2 : PySem.W.nsIn K mainGlobals "is_word" = some (some (.ref f2))) (l2 : K.lookup f2 = some ⟨oc2, od2, .func (PySem.W.fnOf "is_word" "is_word" (defArgs s_is_word) (defBody s_is_word) (defScope s_is_word) .none kV2 dc2 pm2 an2 cd2 ct2), sl2⟩) (c2 : PySem.W.codeIn K cd2 "is_word" = true) (k2 : PySem.W.keepIn K (.ref f2) = true)
    (a3 : PySem.W.nsIn K mainGlobals "is_name" = some (some (.ref f3))) (l3 : K.lookup f3 = some ⟨oc3, od3, .func (PySem.W.fnOf "is_name" "is_name" (defArgs s_is_name) (defBody s_is_name) (defScope s_is_name) .none kV3 dc3 pm3 an3 cd3 ct3), sl3⟩) (c3 : PySem.W.codeIn K cd3 "is_name" = true) (k3 : PySem.W.keepIn K (.ref f3) = true)
    (a4 : PySem.W.nsIn K mainGlobals "is_width" = some (some (.ref f4))) (l4 : K.lookup f4 = some ⟨oc4, od4, .func (PySem.W.fnOf "is_width" "is_width" (defArgs s_is_width) (defBody s_is_width) (defScope s_is_width) .none kV4 dc4 pm4 an4 cd4 ct4), sl4⟩) (c4 : PySem.W.codeIn K cd4 "is_width" = true) (k4 : PySem.W.keepIn K (.ref f4) = true)
    (a5 : PySem.W.nsIn K mainGlobals "two_to" = some (some (.ref f5))) (l5 : K.lookup f5 = some ⟨oc5, od5, .func (PySem.W.fnOf "two_to" "two_to" (defArgs s_two_to) (defBody s_two_to) (defScope s_two_to) .none kV5 dc5 pm5 an5 cd5 ct5), sl5⟩) (c5 : PySem.W.codeIn K cd5 "two_to" = true) (k5 : PySem.W.keepIn K (.ref f5) = true)
    (a6 : PySem.W.nsIn K mainGlobals "is_number" = some (some (.ref f6))) (l6 : K.lookup f6 = some ⟨oc6, od6, .func (PySem.W.fnOf "is_number" "is_number" (defArgs s_is_number) (defBody s_is_number) (defScope s_is_number) .none kV6 dc6 pm6 an6 cd6 ct6), sl6⟩) (c6 : PySem.W.codeIn K cd6 "is_number" = true) (k6 : PySem.W.keepIn K (.ref f6) = true)
    (a7 : PySem.W.nsIn K mainGlobals "is_saying" = some (some (.ref f7))) (l7 : K.lookup f7 = some ⟨oc7, od7, .func (PySem.W.fnOf "is_saying" "is_saying" (defArgs s_is_saying) (defBody s_is_saying) (defScope s_is_saying) .none kV7 dc7 pm7 an7 cd7 ct7), sl7⟩) (c7 : PySem.W.codeIn K cd7 "is_saying" = true) (k7 : PySem.W.keepIn K (.ref f7) = true)
    (a8 : PySem.W.nsIn K mainGlobals "is_formed" = some (some (.ref f8))) (l8 : K.lookup f8 = some ⟨oc8, od8, .func (PySem.W.fnOf "is_formed" "is_formed" (defArgs s_is_formed) (defBody s_is_formed) (defScope s_is_formed) .none kV8 dc8 pm8 an8 cd8 ct8), sl8⟩) (c8 : PySem.W.codeIn K cd8 "is_formed" = true) (k8 : PySem.W.keepIn K (.ref f8) = true)
    (a9 : PySem.W.nsIn K mainGlobals "are_numbers" = some (some (.ref f9))) (l9 : K.lookup f9 = some ⟨oc9, od9, .func (PySem.W.fnOf "are_numbers" "are_numbers" (defArgs s_are_numbers) (defBody s_are_numbers) (defScope s_are_numbers) .none kV9 dc9 pm9 an9 cd9 ct9), sl9⟩) (c9 : PySem.W.codeIn K cd9 "are_numbers" = true) (k9 : PySem.W.keepIn K (.ref f9) = true)
    (a10 : PySem.W.nsIn K mainGlobals "sayings_in" = some (some (.ref f10))) (l10 : K.lookup f10 = some ⟨oc10, od10, .func (PySem.W.fnOf "sayings_in" "sayings_in" (defArgs s_sayings_in) (defBody s_sayings_in) (defScope s_sayings_in) .none kV10 dc10 pm10 an10 cd10 ct10), sl10⟩) (c10 : PySem.W.codeIn K cd10 "sayings_in" = true) (k10 : PySem.W.keepIn K (.ref f10) = true)
    (a11 : PySem.W.nsIn K mainGlobals "_law_bag" = some (some (.ref f11))) (l11 : K.lookup f11 = some ⟨oc11, od11, .func (PySem.W.fnOf "_law_bag" "_law_bag" (defArgs s_L_bag) (defBody s_L_bag) (defScope s_L_bag) .none kV11 dc11 pm11 an11 cd11 ct11), sl11⟩) (c11 : PySem.W.codeIn K cd11 "_law_bag" = true) (k11 : PySem.W.keepIn K (.ref f11) = true)
    (a12 : PySem.W.nsIn K mainGlobals "_law_take" = some (some (.ref f12))) (l12 : K.lookup f12 = some ⟨oc12, od12, .func (PySem.W.fnOf "_law_take" "_law_take" (defArgs s_L_take) (defBody s_L_take) (defScope s_L_take) .none kV12 dc12 pm12 an12 cd12 ct12), sl12⟩) (c12 : PySem.W.codeIn K cd12 "_law_take" = true) (k12 : PySem.W.keepIn K (.ref f12) = true)
    (a13 : PySem.W.nsIn K mainGlobals "_law_name" = some (some (.ref f13))) (l13 : K.lookup f13 = some ⟨oc13, od13, .func (PySem.W.fnOf "_law_name" "_law_name" (defArgs s_L_name) (defBody s_L_name) (defScope s_L_name) .none kV13 dc13 pm13 an13 cd13 ct13), sl13⟩) (c13 : PySem.W.codeIn K cd13 "_law_name" = true) (k13 : PySem.W.keepIn K (.ref f13) = true)
    (a14 : PySem.W.nsIn K mainGlobals "_law_rooms" = some (some (.ref f14))) (l14 : K.lookup f14 = some ⟨oc14, od14, .func (PySem.W.fnOf "_law_rooms" "_law_rooms" (defArgs s_L_rooms) (defBody s_L_rooms) (defScope s_L_rooms) .none kV14 dc14 pm14 an14 cd14 ct14), sl14⟩) (c14 : PySem.W.codeIn K cd14 "_law_rooms" = true) (k14 : PySem.W.keepIn K (.ref f14) = true)
    (a15 : PySem.W.nsIn K mainGlobals "_law_any" = some (some (.ref f15))) (l15 : K.lookup f15 = some ⟨oc15, od15, .func (PySem.W.fnOf "_law_any" "_law_any" (defArgs s_L_any) (defBody s_L_any) (defScope s_L_any) .none kV15 dc15 pm15 an15 cd15 ct15), sl15⟩) (c15 : PySem.W.codeIn K cd15 "_law_any" = true) (k15 : PySem.W.keepIn K (.ref f15) = true)
    (a16 : PySem.W.nsIn K mainGlobals "_law_odd" = some (some (.ref f16))) (l16 : K.lookup f16 = some ⟨oc16, od16, .func (PySem.W.fnOf "_law_odd" "_law_odd" (defArgs s_L_odd) (defBody s_L_odd) (defScope s_L_odd) .none kV16 dc16 pm16 an16 cd16 ct16), sl16⟩) (c16 : PySem.W.codeIn K cd16 "_law_odd" = true) (k16 : PySem.W.keepIn K (.ref f16) = true)
    (a17 : PySem.W.nsIn K mainGlobals "_law_spoilt" = some (some (.ref f17))) (l17 : K.lookup f17 = some ⟨oc17, od17, .func (PySem.W.fnOf "_law_spoilt" "_law_spoilt" (defArgs s_L_spoilt) (defBody s_L_spoilt) (defScope s_L_spoilt) .none kV17 dc17 pm17 an17 cd17 ct17), sl17⟩) (c17 : PySem.W.codeIn K cd17 "_law_spoilt" = true) (k17 : PySem.W.keepIn K (.ref f17) = true)
    (a18 : PySem.W.nsIn K mainGlobals "_law_other" = some (some (.ref f18))) (l18 : K.lookup f18 = some ⟨oc18, od18, .func (PySem.W.fnOf "_law_other" "_law_other" (defArgs s_L_other) (defBody s_L_other) (defScope s_L_other) .none kV18 dc18 pm18 an18 cd18 ct18), sl18⟩) (c18 : PySem.W.codeIn K cd18 "_law_other" = true) (k18 : PySem.W.keepIn K (.ref f18) = true)
    (a19 : PySem.W.nsIn K mainGlobals "_law_from" = some (some (.ref f19))) (l19 : K.lookup f19 = some ⟨oc19, od19, .func (PySem.W.fnOf "_law_from" "_law_from" (defArgs s_L_from) (defBody s_L_from) (defScope s_L_from) .none kV19 dc19 pm19 an19 cd19 ct19), sl19⟩) (c19 : PySem.W.codeIn K cd19 "_law_from" = true) (k19 : PySem.W.keepIn K (.ref f19) = true)
    (a20 : PySem.W.nsIn K mainGlobals "_law_is_name" = some (some (.ref f20))) (l20 : K.lookup f20 = some ⟨oc20, od20, .func (PySem.W.fnOf "_law_is_name" "_law_is_name" (defArgs s_L_is_name) (defBody s_L_is_name) (defScope s_L_is_name) .none kV20 dc20 pm20 an20 cd20 ct20), sl20⟩) (c20 : PySem.W.codeIn K cd20 "_law_is_name" = true) (k20 : PySem.W.keepIn K (.ref f20) = true)
    (a21 : PySem.W.nsIn K mainGlobals "_law_begin" = some (some (.ref f21))) (l21 : K.lookup f21 = some ⟨oc21, od21, .func (PySem.W.fnOf "_law_begin" "_law_begin" (defArgs s_L_begin) (defBody s_L_begin) (defScope s_L_begin) .none kV21 dc21 pm21 an21 cd21 ct21), sl21⟩) (c21 : PySem.W.codeIn K cd21 "_law_begin" = true) (k21 : PySem.W.keepIn K (.ref f21) = true)
    (a22 : PySem.W.nsIn K mainGlobals "_law_pieces" = some (some (.ref f22))) (l22 : K.lookup f22 = some ⟨oc22, od22, .func (PySem.W.fnOf "_law_pieces" "_law_pieces" (defArgs s_L_pieces) (defBody s_L_pieces) (defScope s_L_pieces) .none kV22 dc22 pm22 an22 cd22 ct22), sl22⟩) (c22 : PySem.W.codeIn K cd22 "_law_pieces" = true) (k22 : PySem.W.keepIn K (.ref f22) = true)
    (a23 : PySem.W.nsIn K mainGlobals "_law_of_pieces" = some (some (.ref f23))) (l23 : K.lookup f23 = some ⟨oc23, od23, .func (PySem.W.fnOf "_law_of_pieces" "_law_of_pieces" (defArgs s_L_of_pieces) (defBody s_L_of_pieces) (defScope s_L_of_pieces) .none kV23 dc23 pm23 an23 cd23 ct23), sl23⟩) (c23 : PySem.W.codeIn K cd23 "_law_of_pieces" = true) (k23 : PySem.W.keepIn K (.ref f23) = true)
    (a24 : PySem.W.nsIn K mainGlobals "_law_at_bounds" = some (some (.ref f24))) (l24 : K.lookup f24 = some ⟨oc24, od24, .func (PySem.W.fnOf "_law_at_bounds" "_law_at_bounds" (defArgs s_L_at_bounds) (defBody s_L_at_bounds) (defScope s_L_at_bounds) .none kV24 dc24 pm24 an24 cd24 ct24), sl24⟩) (c24 : PySem.W.codeIn K cd24 "_law_at_bounds" = true) (k24 : PySem.W.keepIn K (.ref f24) = true)
    (a25 : PySem.W.nsIn K mainGlobals "_law_truth" = some (some (.ref f25))) (l25 : K.lookup f25 = some ⟨oc25, od25, .func (PySem.W.fnOf "_law_truth" "_law_truth" (defArgs s_L_truth) (defBody s_L_truth) (defScope s_L_truth) .none kV25 dc25 pm25 an25 cd25 ct25), sl25⟩) (c25 : PySem.W.codeIn K cd25 "_law_truth" = true) (k25 : PySem.W.keepIn K (.ref f25) = true)
    (a26 : PySem.W.nsIn K mainGlobals "law" = some (some (.ref f26))) (l26 : K.lookup f26 = some ⟨oc26, od26, .func (PySem.W.fnOf "law" "law" (defArgs s_law) (defBody s_law) (defScope s_law) .none kV26 dc26 pm26 an26 cd26 ct26), sl26⟩) (c26 : PySem.W.codeIn K cd26 "law" = true) (k26 : PySem.W.keepIn K (.ref f26) = true)
    (z0 : PySem.W.nsIn K mainGlobals "abs" = some none)
    (z1 : PySem.W.nsIn K mainGlobals "all" = some none)
    (z2 : PySem.W.nsIn K mainGlobals "bool" = some none)
    (z3 : PySem.W.nsIn K mainGlobals "int" = some none)
    (z4 : PySem.W.nsIn K mainGlobals "isinstance" = some none)
    (z5 : PySem.W.nsIn K mainGlobals "len" = some none)
    (z6 : PySem.W.nsIn K mainGlobals "max" = some none)
    (z7 : PySem.W.nsIn K mainGlobals "min" = some none)
    (z8 : PySem.W.nsIn K mainGlobals "range" = some none)
    (z9 : PySem.W.nsIn K mainGlobals "str" = some none)
    (z10 : PySem.W.nsIn K mainGlobals "tuple" = some none)
    {t_MOST_LETTERS : Tok} (g_MOST_LETTERS : PySem.W.nsIn K mainGlobals "MOST_LETTERS" = some (some (.int 8 t_MOST_LETTERS)))
    {t_MOST_WIDTH : Tok} (g_MOST_WIDTH : PySem.W.nsIn K mainGlobals "MOST_WIDTH" = some (some (.int 8 t_MOST_WIDTH)))
    {d_FORMS : Addr} (g_FORMS : PySem.W.nsIn K mainGlobals "FORMS" = some (some (.ref d_FORMS)))
    {es : Array DictEntry} {n_F : Nat} (l_FORMS : K.lookup d_FORMS = some ⟨.type "dict", none, .dict es n_F, #[]⟩) (kF : PySem.W.KeysLit w.params es.toList) (lo_F : (d_FORMS == sysModules) = false) {h0 h1 h2 h3 h4 h5 h6 h7 h8 h9 h10 h11 h12 h13 h14 h15 : Int} {t0 t1 t2 t3 t4 t5 t6 t7 t8 t9 t10 t11 t12 t13 t14 t15 : Tok} {p0 p1 p2 p3 p4 p5 p6 p7 p8 p9 p10 p11 p12 p13 p14 p15 : Addr} (eF : es.toList = [⟨h0, .str "wire" t0, .ref p0⟩, ⟨h1, .str "number" t1, .ref p1⟩, ⟨h2, .str "not" t2, .ref p2⟩, ⟨h3, .str "and" t3, .ref p3⟩, ⟨h4, .str "or" t4, .ref p4⟩, ⟨h5, .str "odd" t5, .ref p5⟩, ⟨h6, .str "sum" t6, .ref p6⟩, ⟨h7, .str "less" t7, .ref p7⟩, ⟨h8, .str "under" t8, .ref p8⟩, ⟨h9, .str "same" t9, .ref p9⟩, ⟨h10, .str "choice" t10, .ref p10⟩, ⟨h11, .str "up" t11, .ref p11⟩, ⟨h12, .str "down" t12, .ref p12⟩, ⟨h13, .str "join" t13, .ref p13⟩, ⟨h14, .str "cut" t14, .ref p14⟩, ⟨h15, .str "table" t15, .ref p15⟩]) {uF0 : Option Addr} {nF0 : Nat} {wF0 : Array (Option Value)} {xF0 yF0 : Tok} (lF0 : K.lookup p0 = some ⟨.type "tuple", uF0, .seq #[.int 2 xF0, .int 2 yF0] nF0, wF0⟩) {uF1 : Option Addr} {nF1 : Nat} {wF1 : Array (Option Value)} {xF1 yF1 : Tok} (lF1 : K.lookup p1 = some ⟨.type "tuple", uF1, .seq #[.int 3 xF1, .int 3 yF1] nF1, wF1⟩) {uF2 : Option Addr} {nF2 : Nat} {wF2 : Array (Option Value)} {xF2 yF2 : Tok} (lF2 : K.lookup p2 = some ⟨.type "tuple", uF2, .seq #[.int 2 xF2, .int 1 yF2] nF2, wF2⟩) {uF3 : Option Addr} {nF3 : Nat} {wF3 : Array (Option Value)} {xF3 yF3 : Tok} (lF3 : K.lookup p3 = some ⟨.type "tuple", uF3, .seq #[.int 3 xF3, .int 1 yF3] nF3, wF3⟩) {uF4 : Option Addr} {nF4 : Nat} {wF4 : Array (Option Value)} {xF4 yF4 : Tok} (lF4 : K.lookup p4 = some ⟨.type "tuple", uF4, .seq #[.int 3 xF4, .int 1 yF4] nF4, wF4⟩) {uF5 : Option Addr} {nF5 : Nat} {wF5 : Array (Option Value)} {xF5 yF5 : Tok} (lF5 : K.lookup p5 = some ⟨.type "tuple", uF5, .seq #[.int 3 xF5, .int 1 yF5] nF5, wF5⟩) {uF6 : Option Addr} {nF6 : Nat} {wF6 : Array (Option Value)} {xF6 yF6 : Tok} (lF6 : K.lookup p6 = some ⟨.type "tuple", uF6, .seq #[.int 3 xF6, .int 1 yF6] nF6, wF6⟩) {uF7 : Option Addr} {nF7 : Nat} {wF7 : Array (Option Value)} {xF7 yF7 : Tok} (lF7 : K.lookup p7 = some ⟨.type "tuple", uF7, .seq #[.int 3 xF7, .int 1 yF7] nF7, wF7⟩) {uF8 : Option Addr} {nF8 : Nat} {wF8 : Array (Option Value)} {xF8 yF8 : Tok} (lF8 : K.lookup p8 = some ⟨.type "tuple", uF8, .seq #[.int 3 xF8, .int 1 yF8] nF8, wF8⟩) {uF9 : Option Addr} {nF9 : Nat} {wF9 : Array (Option Value)} {xF9 yF9 : Tok} (lF9 : K.lookup p9 = some ⟨.type "tuple", uF9, .seq #[.int 3 xF9, .int 1 yF9] nF9, wF9⟩) {uF10 : Option Addr} {nF10 : Nat} {wF10 : Array (Option Value)} {xF10 yF10 : Tok} (lF10 : K.lookup p10 = some ⟨.type "tuple", uF10, .seq #[.int 4 xF10, .int 1 yF10] nF10, wF10⟩) {uF11 : Option Addr} {nF11 : Nat} {wF11 : Array (Option Value)} {xF11 yF11 : Tok} (lF11 : K.lookup p11 = some ⟨.type "tuple", uF11, .seq #[.int 3 xF11, .int 2 yF11] nF11, wF11⟩) {uF12 : Option Addr} {nF12 : Nat} {wF12 : Array (Option Value)} {xF12 yF12 : Tok} (lF12 : K.lookup p12 = some ⟨.type "tuple", uF12, .seq #[.int 3 xF12, .int 2 yF12] nF12, wF12⟩) {uF13 : Option Addr} {nF13 : Nat} {wF13 : Array (Option Value)} {xF13 yF13 : Tok} (lF13 : K.lookup p13 = some ⟨.type "tuple", uF13, .seq #[.int 3 xF13, .int 1 yF13] nF13, wF13⟩) {uF14 : Option Addr} {nF14 : Nat} {wF14 : Array (Option Value)} {xF14 yF14 : Tok} (lF14 : K.lookup p14 = some ⟨.type "tuple", uF14, .seq #[.int 4 xF14, .int 3 yF14] nF14, wF14⟩) {uF15 : Option Addr} {nF15 : Nat} {wF15 : Array (Option Value)} {xF15 yF15 : Tok} (lF15 : K.lookup p15 = some ⟨.type "tuple", uF15, .seq #[.int 4 xF15, .int 3 yF15] nF15, wF15⟩)
    {t_MOST_PIECES : Tok} (g_MOST_PIECES : PySem.W.nsIn K mainGlobals "MOST_PIECES" = some (some (.int 40 t_MOST_PIECES)))
    {t_MOST_DEEP : Tok} (g_MOST_DEEP : PySem.W.nsIn K mainGlobals "MOST_DEEP" = some (some (.int 6 t_MOST_DEEP)))
    {t_MOST_SHIFT : Tok} (g_MOST_SHIFT : PySem.W.nsIn K mainGlobals "MOST_SHIFT" = some (some (.int 8 t_MOST_SHIFT)))
    {t_MOST_LOW : Tok} (g_MOST_LOW : PySem.W.nsIn K mainGlobals "MOST_LOW" = some (some (.int 7 t_MOST_LOW)))
    {d_TABLE_SIZES : Addr} (g_TABLE_SIZES : PySem.W.nsIn K mainGlobals "TABLE_SIZES" = some (some (.ref d_TABLE_SIZES)))
    {u_TABLE_SIZES : Option Addr} {n_TABLE_SIZES : Nat} {w_TABLE_SIZES : Array (Option Value)} {x0_TABLE_SIZES x1_TABLE_SIZES x2_TABLE_SIZES x3_TABLE_SIZES : Tok} (l_TABLE_SIZES : K.lookup d_TABLE_SIZES = some ⟨.type "tuple", u_TABLE_SIZES, .seq #[.int 2 x0_TABLE_SIZES, .int 4 x1_TABLE_SIZES, .int 8 x2_TABLE_SIZES, .int 16 x3_TABLE_SIZES] n_TABLE_SIZES, w_TABLE_SIZES⟩)
    : ∃ A : Ad, A.a_law = fa ∧ (∀ (s : Shared) (v : Value), BindsTo s A.d_law ⟨[v], []⟩ [("_law_script", v)]) ∧ Tx w K mg A := by
  have e := hfa.symm.trans (PySem.W.mg_of X G a26)
  cases e
  have F0 := fun_mk (st := s_is_whole) l0 c0 k0
  have F1 := fun_mk (st := s_is_between) l1 c1 k1
  have F2 := fun_mk (st := s_is_word) l2 c2 k2
  have F3 := fun_mk (st := s_is_name) l3 c3 k3
  have F4 := fun_mk (st := s_is_width) l4 c4 k4
  have F5 := fun_mk (st := s_two_to) l5 c5 k5
  have F6 := fun_mk (st := s_is_number) l6 c6 k6
  have F7 := fun_mk (st := s_is_saying) l7 c7 k7
  have F8 := fun_mk (st := s_is_formed) l8 c8 k8
  have F9 := fun_mk (st := s_are_numbers) l9 c9 k9
  have F10 := fun_mk (st := s_sayings_in) l10 c10 k10
  have F11 := fun_mk (st := s_L_bag) l11 c11 k11
  have F12 := fun_mk (st := s_L_take) l12 c12 k12
  have F13 := fun_mk (st := s_L_name) l13 c13 k13
  have F14 := fun_mk (st := s_L_rooms) l14 c14 k14
  have F15 := fun_mk (st := s_L_any) l15 c15 k15
  have F16 := fun_mk (st := s_L_odd) l16 c16 k16
  have F17 := fun_mk (st := s_L_spoilt) l17 c17 k17
  have F18 := fun_mk (st := s_L_other) l18 c18 k18
  have F19 := fun_mk (st := s_L_from) l19 c19 k19
  have F20 := fun_mk (st := s_L_is_name) l20 c20 k20
  have F21 := fun_mk (st := s_L_begin) l21 c21 k21
  have F22 := fun_mk (st := s_L_pieces) l22 c22 k22
  have F23 := fun_mk (st := s_L_of_pieces) l23 c23 k23
  have F24 := fun_mk (st := s_L_at_bounds) l24 c24 k24
  have F25 := fun_mk (st := s_L_truth) l25 c25 k25
  have F26 := fun_mk (st := s_law) l26 c26 k26
  refine ⟨⟨f0, PySem.W.fnOf "is_whole" "is_whole" (defArgs s_is_whole) (defBody s_is_whole) (defScope s_is_whole) .none kV0 dc0 pm0 an0 cd0 ct0, f1, PySem.W.fnOf "is_between" "is_between" (defArgs s_is_between) (defBody s_is_between) (defScope s_is_between) .none kV1 dc1 pm1 an1 cd1 ct1, f2, PySem.W.fnOf "is_word" "is_word" (defArgs s_is_word) (defBody s_is_word) (defScope s_is_word) .none kV2 dc2 pm2 an2 cd2 ct2, f3, PySem.W.fnOf "is_name" "is_name" (defArgs s_is_name) (defBody s_is_name) (defScope s_is_name) .none kV3 dc3 pm3 an3 cd3 ct3, f4, PySem.W.fnOf "is_width" "is_width" (defArgs s_is_width) (defBody s_is_width) (defScope s_is_width) .none kV4 dc4 pm4 an4 cd4 ct4, f5, PySem.W.fnOf "two_to" "two_to" (defArgs s_two_to) (defBody s_two_to) (defScope s_two_to) .none kV5 dc5 pm5 an5 cd5 ct5, f6, PySem.W.fnOf "is_number" "is_number" (defArgs s_is_number) (defBody s_is_number) (defScope s_is_number) .none kV6 dc6 pm6 an6 cd6 ct6, f7, PySem.W.fnOf "is_saying" "is_saying" (defArgs s_is_saying) (defBody s_is_saying) (defScope s_is_saying) .none kV7 dc7 pm7 an7 cd7 ct7, f8, PySem.W.fnOf "is_formed" "is_formed" (defArgs s_is_formed) (defBody s_is_formed) (defScope s_is_formed) .none kV8 dc8 pm8 an8 cd8 ct8, f9, PySem.W.fnOf "are_numbers" "are_numbers" (defArgs s_are_numbers) (defBody s_are_numbers) (defScope s_are_numbers) .none kV9 dc9 pm9 an9 cd9 ct9, f10, PySem.W.fnOf "sayings_in" "sayings_in" (defArgs s_sayings_in) (defBody s_sayings_in) (defScope s_sayings_in) .none kV10 dc10 pm10 an10 cd10 ct10, f11, PySem.W.fnOf "_law_bag" "_law_bag" (defArgs s_L_bag) (defBody s_L_bag) (defScope s_L_bag) .none kV11 dc11 pm11 an11 cd11 ct11, f12, PySem.W.fnOf "_law_take" "_law_take" (defArgs s_L_take) (defBody s_L_take) (defScope s_L_take) .none kV12 dc12 pm12 an12 cd12 ct12, f13, PySem.W.fnOf "_law_name" "_law_name" (defArgs s_L_name) (defBody s_L_name) (defScope s_L_name) .none kV13 dc13 pm13 an13 cd13 ct13, f14, PySem.W.fnOf "_law_rooms" "_law_rooms" (defArgs s_L_rooms) (defBody s_L_rooms) (defScope s_L_rooms) .none kV14 dc14 pm14 an14 cd14 ct14, f15, PySem.W.fnOf "_law_any" "_law_any" (defArgs s_L_any) (defBody s_L_any) (defScope s_L_any) .none kV15 dc15 pm15 an15 cd15 ct15, f16, PySem.W.fnOf "_law_odd" "_law_odd" (defArgs s_L_odd) (defBody s_L_odd) (defScope s_L_odd) .none kV16 dc16 pm16 an16 cd16 ct16, f17, PySem.W.fnOf "_law_spoilt" "_law_spoilt" (defArgs s_L_spoilt) (defBody s_L_spoilt) (defScope s_L_spoilt) .none kV17 dc17 pm17 an17 cd17 ct17, f18, PySem.W.fnOf "_law_other" "_law_other" (defArgs s_L_other) (defBody s_L_other) (defScope s_L_other) .none kV18 dc18 pm18 an18 cd18 ct18, f19, PySem.W.fnOf "_law_from" "_law_from" (defArgs s_L_from) (defBody s_L_from) (defScope s_L_from) .none kV19 dc19 pm19 an19 cd19 ct19, f20, PySem.W.fnOf "_law_is_name" "_law_is_name" (defArgs s_L_is_name) (defBody s_L_is_name) (defScope s_L_is_name) .none kV20 dc20 pm20 an20 cd20 ct20, f21, PySem.W.fnOf "_law_begin" "_law_begin" (defArgs s_L_begin) (defBody s_L_begin) (defScope s_L_begin) .none kV21 dc21 pm21 an21 cd21 ct21, f22, PySem.W.fnOf "_law_pieces" "_law_pieces" (defArgs s_L_pieces) (defBody s_L_pieces) (defScope s_L_pieces) .none kV22 dc22 pm22 an22 cd22 ct22, f23, PySem.W.fnOf "_law_of_pieces" "_law_of_pieces" (defArgs s_L_of_pieces) (defBody s_L_of_pieces) (defScope s_L_of_pieces) .none kV23 dc23 pm23 an23 cd23 ct23, f24, PySem.W.fnOf "_law_at_bounds" "_law_at_bounds" (defArgs s_L_at_bounds) (defBody s_L_at_bounds) (defScope s_L_at_bounds) .none kV24 dc24 pm24 an24 cd24 ct24, f25, PySem.W.fnOf "_law_truth" "_law_truth" (defArgs s_L_truth) (defBody s_L_truth) (defScope s_L_truth) .none kV25 dc25 pm25 an25 cd25 ct25, fa, PySem.W.fnOf "law" "law" (defArgs s_law) (defBody s_law) (defScope s_law) .none kV26 dc26 pm26 an26 cd26 ct26, d_FORMS, d_TABLE_SIZES⟩, rfl, fun s v => .of_eq rfl, ?_⟩
  exact ⟨PySem.W.mg_none_of X G z0, PySem.W.mg_none_of X G z1, PySem.W.mg_none_of X G z2, PySem.W.mg_none_of X G z3, PySem.W.mg_none_of X G z4, PySem.W.mg_none_of X G z5, PySem.W.mg_none_of X G z6, PySem.W.mg_none_of X G z7, PySem.W.mg_none_of X G z8, PySem.W.mg_none_of X G z9, PySem.W.mg_none_of X G z10, ⟨_, PySem.W.mg_of X G g_MOST_LETTERS⟩, ⟨_, PySem.W.mg_of X G g_MOST_WIDTH⟩, PySem.W.mg_of X G g_FORMS, ⟨[("wire", .ref p0), ("number", .ref p1), ("not", .ref p2), ("and", .ref p3), ("or", .ref p4), ("odd", .ref p5), ("sum", .ref p6), ("less", .ref p7), ("under", .ref p8), ("same", .ref p9), ("choice", .ref p10), ("up", .ref p11), ("down", .ref p12), ("join", .ref p13), ("cut", .ref p14), ("table", .ref p15)], ⟨⟨es, n_F, l_FORMS, kF, by rw [eF]; repeat (first | exact .nil | refine .cons ⟨⟨_, rfl⟩, rfl⟩ ?_)⟩, lo_F⟩, rfl, fun z hz => by
    simp only [words, List.mem_cons, List.not_mem_nil, or_false] at hz
    rcases hz with rfl | rfl | rfl | rfl | rfl | rfl | rfl | rfl | rfl | rfl | rfl | rfl | rfl | rfl | rfl | rfl
    · exact ⟨p0, rfl, fun H => .inr ⟨_, _, _, lF0, rfl, rfl, (by show 2 ≤ sizeLine; decide), .cons ⟨_, rfl⟩ (.cons ⟨_, rfl⟩ .nil)⟩⟩
    · exact ⟨p1, rfl, fun H => .inr ⟨_, _, _, lF1, rfl, rfl, (by show 2 ≤ sizeLine; decide), .cons ⟨_, rfl⟩ (.cons ⟨_, rfl⟩ .nil)⟩⟩
    · exact ⟨p2, rfl, fun H => .inr ⟨_, _, _, lF2, rfl, rfl, (by show 2 ≤ sizeLine; decide), .cons ⟨_, rfl⟩ (.cons ⟨_, rfl⟩ .nil)⟩⟩
    · exact ⟨p3, rfl, fun H => .inr ⟨_, _, _, lF3, rfl, rfl, (by show 2 ≤ sizeLine; decide), .cons ⟨_, rfl⟩ (.cons ⟨_, rfl⟩ .nil)⟩⟩
    · exact ⟨p4, rfl, fun H => .inr ⟨_, _, _, lF4, rfl, rfl, (by show 2 ≤ sizeLine; decide), .cons ⟨_, rfl⟩ (.cons ⟨_, rfl⟩ .nil)⟩⟩
    · exact ⟨p5, rfl, fun H => .inr ⟨_, _, _, lF5, rfl, rfl, (by show 2 ≤ sizeLine; decide), .cons ⟨_, rfl⟩ (.cons ⟨_, rfl⟩ .nil)⟩⟩
    · exact ⟨p6, rfl, fun H => .inr ⟨_, _, _, lF6, rfl, rfl, (by show 2 ≤ sizeLine; decide), .cons ⟨_, rfl⟩ (.cons ⟨_, rfl⟩ .nil)⟩⟩
    · exact ⟨p7, rfl, fun H => .inr ⟨_, _, _, lF7, rfl, rfl, (by show 2 ≤ sizeLine; decide), .cons ⟨_, rfl⟩ (.cons ⟨_, rfl⟩ .nil)⟩⟩
    · exact ⟨p8, rfl, fun H => .inr ⟨_, _, _, lF8, rfl, rfl, (by show 2 ≤ sizeLine; decide), .cons ⟨_, rfl⟩ (.cons ⟨_, rfl⟩ .nil)⟩⟩
    · exact ⟨p9, rfl, fun H => .inr ⟨_, _, _, lF9, rfl, rfl, (by show 2 ≤ sizeLine; decide), .cons ⟨_, rfl⟩ (.cons ⟨_, rfl⟩ .nil)⟩⟩
    · exact ⟨p10, rfl, fun H => .inr ⟨_, _, _, lF10, rfl, rfl, (by show 2 ≤ sizeLine; decide), .cons ⟨_, rfl⟩ (.cons ⟨_, rfl⟩ .nil)⟩⟩
    · exact ⟨p11, rfl, fun H => .inr ⟨_, _, _, lF11, rfl, rfl, (by show 2 ≤ sizeLine; decide), .cons ⟨_, rfl⟩ (.cons ⟨_, rfl⟩ .nil)⟩⟩
    · exact ⟨p12, rfl, fun H => .inr ⟨_, _, _, lF12, rfl, rfl, (by show 2 ≤ sizeLine; decide), .cons ⟨_, rfl⟩ (.cons ⟨_, rfl⟩ .nil)⟩⟩
    · exact ⟨p13, rfl, fun H => .inr ⟨_, _, _, lF13, rfl, rfl, (by show 2 ≤ sizeLine; decide), .cons ⟨_, rfl⟩ (.cons ⟨_, rfl⟩ .nil)⟩⟩
    · exact ⟨p14, rfl, fun H => .inr ⟨_, _, _, lF14, rfl, rfl, (by show 2 ≤ sizeLine; decide), .cons ⟨_, rfl⟩ (.cons ⟨_, rfl⟩ .nil)⟩⟩
    · exact ⟨p15, rfl, fun H => .inr ⟨_, _, _, lF15, rfl, rfl, (by show 2 ≤ sizeLine; decide), .cons ⟨_, rfl⟩ (.cons ⟨_, rfl⟩ .nil)⟩⟩⟩, ⟨_, PySem.W.mg_of X G g_MOST_PIECES⟩, ⟨_, PySem.W.mg_of X G g_MOST_DEEP⟩, ⟨_, PySem.W.mg_of X G g_MOST_SHIFT⟩, ⟨_, PySem.W.mg_of X G g_MOST_LOW⟩, PySem.W.mg_of X G g_TABLE_SIZES, fun H => .inr ⟨_, _, _, l_TABLE_SIZES, rfl, rfl, (by show 4 ≤ sizeLine; decide), .cons ⟨_, rfl⟩ (.cons ⟨_, rfl⟩ (.cons ⟨_, rfl⟩ (.cons ⟨_, rfl⟩ (.nil))))⟩, F0, F0.binds fun _ _ _ _ _ _ us hl => match us, hl with | [_], _ => rfl, PySem.W.mg_of X G a0, F1, F1.binds fun _ _ _ _ _ _ us hl => match us, hl with | [_, _, _], _ => rfl, PySem.W.mg_of X G a1, F2, F2.binds fun _ _ _ _ _ _ us hl => match us, hl with | [_], _ => rfl, PySem.W.mg_of X G a2, F3, F3.binds fun _ _ _ _ _ _ us hl => match us, hl with | [_], _ => rfl, PySem.W.mg_of X G a3, F4, F4.binds fun _ _ _ _ _ _ us hl => match us, hl with | [_], _ => rfl, PySem.W.mg_of X G a4, F5, F5.binds fun _ _ _ _ _ _ us hl => match us, hl with | [_], _ => rfl, PySem.W.mg_of X G a5, F6, F6.binds fun _ _ _ _ _ _ us hl => match us, hl with | [_, _], _ => rfl, PySem.W.mg_of X G a6, F7, F7.binds fun _ _ _ _ _ _ us hl => match us, hl with | [_], _ => rfl, PySem.W.mg_of X G a7, F8, F8.binds fun _ _ _ _ _ _ us hl => match us, hl with | [_], _ => rfl, PySem.W.mg_of X G a8, F9, F9.binds fun _ _ _ _ _ _ us hl => match us, hl with | [_, _], _ => rfl, PySem.W.mg_of X G a9, F10, F10.binds fun _ _ _ _ _ _ us hl => match us, hl with | [_], _ => rfl, PySem.W.mg_of X G a10, F11, F11.binds fun _ _ _ _ _ _ us hl => match us, hl with | [_, _], _ => rfl, PySem.W.mg_of X G a11, F12, F12.binds fun _ _ _ _ _ _ us hl => match us, hl with | [_, _], _ => rfl, PySem.W.mg_of X G a12, F13, F13.binds fun _ _ _ _ _ _ us hl => match us, hl with | [_], _ => rfl, PySem.W.mg_of X G a13, F14, F14.binds fun _ _ _ _ _ _ us hl => match us, hl with | [_, _, _], _ => rfl, PySem.W.mg_of X G a14, F15, F15.binds fun _ _ _ _ _ _ us hl => match us, hl with | [_, _, _], _ => rfl, PySem.W.mg_of X G a15, F16, F16.binds fun _ _ _ _ _ _ us hl => match us, hl with | [_], _ => rfl, PySem.W.mg_of X G a16, F17, F17.binds fun _ _ _ _ _ _ us hl => match us, hl with | [_, _], _ => rfl, PySem.W.mg_of X G a17, F18, F18.binds fun _ _ _ _ _ _ us hl => match us, hl with | [_, _], _ => rfl, PySem.W.mg_of X G a18, F19, F19.binds fun _ _ _ _ _ _ us hl => match us, hl with | [_, _, _], _ => rfl, PySem.W.mg_of X G a19, F20, F20.binds fun _ _ _ _ _ _ us hl => match us, hl with | [_], _ => rfl, PySem.W.mg_of X G a20, F21, F21.binds fun _ _ _ _ _ _ us hl => match us, hl with | [_], _ => rfl, PySem.W.mg_of X G a21, F22, F22.binds fun _ _ _ _ _ _ us hl => match us, hl with | [_, _], _ => rfl, PySem.W.mg_of X G a22, F23, F23.binds fun _ _ _ _ _ _ us hl => match us, hl with | [_], _ => rfl, PySem.W.mg_of X G a23, F24, F24.binds fun _ _ _ _ _ _ us hl => match us, hl with | [_], _ => rfl, PySem.W.mg_of X G a24, F25, F25.binds fun _ _ _ _ _ _ us hl => match us, hl with | [_, _], _ => rfl, PySem.W.mg_of X G a25, F26, F26.binds fun _ _ _ _ _ _ us hl => match us, hl with | [_], _ => rfl, PySem.W.mg_of X G a26⟩
theorem walk {l : PySem.W.OpenLaw} {q : Program} {loose : List Str} {XP : (Str → Option Value) → Heap → Prop} {YP : World → Heap → Prop} {d : DefRec} {K : Params → PySem.W.Frag} (hn : l.most = some 63) (hdf : d.params.defaults = []) (hnm : d.name = "law")
    (hY : ∀ (w : World) (h : Heap), YP w h → (K w.params).In h)
    (F : ∀ (w : World) (mg : Str → Option Value) (fa : Addr) (h : Heap), (K w.params).In h → h.Ns mainGlobals mg → mg "law" = some (.ref fa) →
      ∃ A : Ad, A.a_law = fa ∧ (∀ (s : Shared) (v : Value), BindsTo s A.d_law ⟨[v], []⟩ [("_law_script", v)]) ∧ Tx w (K w.params) mg A) :
    PySem.W.WalkO q loose XP YP l.row.toRowW d [] (fun f vs => PySem.call f vs) := by
  refine L2.walk_of (n := 63) (k := 11) (x := "_law_script") (CX := fun _ => CX0) (sp := fun w => sp_law (K w.params)) hn (by decide) hdf ⟨rfl, by decide, by decide⟩ hY (fun w mg fa h k1 k2 k3 => ?_) (fun _ _ a ns hl _ hS => ⟨a, ns, rfl, hS, hl, fun _ => rfl⟩) fun _ _ _ _ _ z => z
  obtain ⟨A, rfl, hb, T⟩ := F w mg fa h k1 k2 (by rw [← hnm]; exact k3)
  exact ⟨A.d_law, hb, fun base _ _ => all_ok T⟩
end K02
open PySem PySem.W PyProof.Rows
set_option maxRecDepth 100000 in
set_option maxHeartbeats 0 in
theorem PySem.Challenge.cw_lampforge_k02_sayings_of_any_thing_holds : PySem.Challenge.rw_lampforge_k02_sayings_of_any_thing.Holds := by
  w_on; o_law; k_head; (case hw => w_witness2)
  k_fill
  refine K02.walk (l := PySem.Challenge.rw_lampforge_k02_sayings_of_any_thing) rfl rfl rfl (fun w h Y => PySem.W.kIn_of Y) ?F
  case F =>
    intro w mg fa h KX G hmg
    refine' K02.all_mk KX G hmg ?a0 ?l0 ?c0 ?k0 ?a1 ?l1 ?c1 ?k1 ?a2 ?l2 ?c2 ?k2 ?a3 ?l3 ?c3 ?k3 ?a4 ?l4 ?c4 ?k4 ?a5 ?l5 ?c5 ?k5 ?a6 ?l6 ?c6 ?k6 ?a7 ?l7 ?c7 ?k7 ?a8 ?l8 ?c8 ?k8 ?a9 ?l9 ?c9 ?k9 ?a10 ?l10 ?c10 ?k10 ?a11 ?l11 ?c11 ?k11 ?a12 ?l12 ?c12 ?k12 ?a13 ?l13 ?c13 ?k13 ?a14 ?l14 ?c14 ?k14 ?a15 ?l15 ?c15 ?k15 ?a16 ?l16 ?c16 ?k16 ?a17 ?l17 ?c17 ?k17 ?a18 ?l18 ?c18 ?k18 ?a19 ?l19 ?c19 ?k19 ?a20 ?l20 ?c20 ?k20 ?a21 ?l21 ?c21 ?k21 ?a22 ?l22 ?c22 ?k22 ?a23 ?l23 ?c23 ?k23 ?a24 ?l24 ?c24 ?k24 ?a25 ?l25 ?c25 ?k25 ?a26 ?l26 ?c26 ?k26 ?z0 ?z1 ?z2 ?z3 ?z4 ?z5 ?z6 ?z7 ?z8 ?z9 ?z10 ?g_MOST_LETTERS ?g_MOST_WIDTH ?g_FORMS ?l_FORMS ?kF ?lo_F ?eF ?lF0 ?lF1 ?lF2 ?lF3 ?lF4 ?lF5 ?lF6 ?lF7 ?lF8 ?lF9 ?lF10 ?lF11 ?lF12 ?lF13 ?lF14 ?lF15 ?g_MOST_PIECES ?g_MOST_DEEP ?g_MOST_SHIFT ?g_MOST_LOW ?g_TABLE_SIZES ?l_TABLE_SIZES
    (case a0 => k_is)
    (case l0 => k_is)
    (case c0 => k_is)
    (case k0 => k_is)
    (case a1 => k_is)
    (case l1 => k_is)
    (case c1 => k_is)
    (case k1 => k_is)
    (case a2 => k_is)
    (case l2 => k_is)
    (case c2 => k_is)
    (case k2 => k_is)
    (case a3 => k_is)
    (case l3 => k_is)
    (case c3 => k_is)
    (case k3 => k_is)
    (case a4 => k_is)
    (case l4 => k_is)
    (case c4 => k_is)
    (case k4 => k_is)
    (case a5 => k_is)
    (case l5 => k_is)
    (case c5 => k_is)
    (case k5 => k_is)
    (case a6 => k_is)
    (case l6 => k_is)
    (case c6 => k_is)
    (case k6 => k_is)
    (case a7 => k_is)
    (case l7 => k_is)
    (case c7 => k_is)
    (case k7 => k_is)
    (case a8 => k_is)
    (case l8 => k_is)
    (case c8 => k_is)
    (case k8 => k_is)
    (case a9 => k_is)
    (case l9 => k_is)
    (case c9 => k_is)
    (case k9 => k_is)
    (case a10 => k_is)
    (case l10 => k_is)
    (case c10 => k_is)
    (case k10 => k_is)
    (case a11 => k_is)
    (case l11 => k_is)
    (case c11 => k_is)
    (case k11 => k_is)
    (case a12 => k_is)
    (case l12 => k_is)
    (case c12 => k_is)
    (case k12 => k_is)
    (case a13 => k_is)
    (case l13 => k_is)
    (case c13 => k_is)
    (case k13 => k_is)
    (case a14 => k_is)
    (case l14 => k_is)
    (case c14 => k_is)
    (case k14 => k_is)
    (case a15 => k_is)
    (case l15 => k_is)
    (case c15 => k_is)
    (case k15 => k_is)
    (case a16 => k_is)
    (case l16 => k_is)
    (case c16 => k_is)
    (case k16 => k_is)
    (case a17 => k_is)
    (case l17 => k_is)
    (case c17 => k_is)
    (case k17 => k_is)
    (case a18 => k_is)
    (case l18 => k_is)
    (case c18 => k_is)
    (case k18 => k_is)
    (case a19 => k_is)
    (case l19 => k_is)
    (case c19 => k_is)
    (case k19 => k_is)
    (case a20 => k_is)
    (case l20 => k_is)
    (case c20 => k_is)
    (case k20 => k_is)
    (case a21 => k_is)
    (case l21 => k_is)
    (case c21 => k_is)
    (case k21 => k_is)
    (case a22 => k_is)
    (case l22 => k_is)
    (case c22 => k_is)
    (case k22 => k_is)
    (case a23 => k_is)
    (case l23 => k_is)
    (case c23 => k_is)
    (case k23 => k_is)
    (case a24 => k_is)
    (case l24 => k_is)
    (case c24 => k_is)
    (case k24 => k_is)
    (case a25 => k_is)
    (case l25 => k_is)
    (case c25 => k_is)
    (case k25 => k_is)
    (case a26 => k_is)
    (case l26 => k_is)
    (case c26 => k_is)
    (case k26 => k_is)
    (case z0 => k_is)
    (case z1 => k_is)
    (case z2 => k_is)
    (case z3 => k_is)
    (case z4 => k_is)
    (case z5 => k_is)
    (case z6 => k_is)
    (case z7 => k_is)
    (case z8 => k_is)
    (case z9 => k_is)
    (case z10 => k_is)
    (case g_MOST_LETTERS => k_is)
    (case g_MOST_WIDTH => k_is)
    (case g_FORMS => k_is)
    (case l_FORMS => k_is)
    (case kF => k_keys)
    (case lo_F => decide)
    (case eF => rfl)
    (case lF0 => k_is)
    (case lF1 => k_is)
    (case lF2 => k_is)
    (case lF3 => k_is)
    (case lF4 => k_is)
    (case lF5 => k_is)
    (case lF6 => k_is)
    (case lF7 => k_is)
    (case lF8 => k_is)
    (case lF9 => k_is)
    (case lF10 => k_is)
    (case lF11 => k_is)
    (case lF12 => k_is)
    (case lF13 => k_is)
    (case lF14 => k_is)
    (case lF15 => k_is)
    (case g_MOST_PIECES => k_is)
    (case g_MOST_DEEP => k_is)
    (case g_MOST_SHIFT => k_is)
    (case g_MOST_LOW => k_is)
    (case g_TABLE_SIZES => k_is)
    (case l_TABLE_SIZES => k_is)

