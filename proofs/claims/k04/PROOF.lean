import PyProof.Rows.All
import Wide.All
import OpenK.AllK
import Wide.FinOn
import Lean
import PyProof.EqAt
import PyProof.EqKinds
import PyProof.TupleCall
import KE.BitLaws
import PySem.Challenge.RW_lampforge_k04_widths
set_option Elab.async false
set_option linter.all false
set_option maxRecDepth 100000
/-! THE HAND LAYER, for ints, bools, texts, own classes, LISTS and tuples (index, slices, in, append, pop ..), calls, loops. Paste it whole ahead of your own text; what your proof does not reach may be deleted. -/
namespace L2
open PySem PySem.Spec PyProof.Rows

/-- a key: an int or a str -/
abbrev Key := Sum Int Str
def keyIs : Key → Value → Bool
  | .inl k, v => Value.isInt k v
  | .inr x, v => Value.isStrOf x v
def keyH (w : World) : Key → Int
  | .inl k => hashInt k
  | .inr x => hashStr w x
theorem keyIs_shape : ∀ {k : Key} {v : Value}, keyIs k v = true → (∃ i t, k = Sum.inl i ∧ v = Value.int i t) ∨ (∃ x t, k = Sum.inr x ∧ v = Value.str x t)
  | .inl i, v, h => by
    obtain ⟨t, e⟩ := Value.isInt_shape (k := i) (v := v) h
    exact .inl ⟨i, t, rfl, e⟩
  | .inr x, v, h => by
    obtain ⟨t, e⟩ := Value.isStrOf_shape (x := x) (v := v) h
    exact .inr ⟨x, t, rfl, e⟩
theorem keyIs_int (i : Int) (t : Tok) : keyIs (.inl i) (.int i t) = true := by simp [keyIs, Value.isInt]
theorem keyIs_str (x : Str) (t : Tok) : keyIs (.inr x) (.str x t) = true := by simp [keyIs, Value.isStrOf]
theorem key_ll (a b : Int) : decide ((Sum.inl a : Key) = Sum.inl b) = (a == b) := by
  by_cases e : a = b
  · subst e; simp
  · have h : ¬ (Sum.inl a : Key) = Sum.inl b := fun q => e (Sum.inl.inj q)
    rw [decide_eq_false h]
    exact (beq_eq_false_iff_ne.mpr e).symm
theorem key_rr (a b : Str) : decide ((Sum.inr a : Key) = Sum.inr b) = decide (a = b) := by
  by_cases e : a = b
  · subst e; simp
  · have h : ¬ (Sum.inr a : Key) = Sum.inr b := fun q => e (Sum.inr.inj q)
    rw [decide_eq_false h, decide_eq_false e]
theorem key_lr (a : Int) (b : Str) : decide ((Sum.inl a : Key) = Sum.inr b) = false := decide_eq_false (fun q => nomatch q)
theorem key_rl (a : Str) (b : Int) : decide ((Sum.inr a : Key) = Sum.inl b) = false := decide_eq_false (fun q => nomatch q)

def mixKind (prog : Program) (w : World) : PySem.KeyKind prog w Key where
  is := keyIs
  hash := keyH w
  inj := fun v a b ha hb => by
    rcases keyIs_shape ha with ⟨i, t, rfl, rfl⟩ | ⟨x, t, rfl, rfl⟩
    · rcases keyIs_shape hb with ⟨j, u, rfl, e⟩ | ⟨y, u, rfl, e⟩
      · injection e with e1 _; rw [e1]
      · exact nomatch e
    · rcases keyIs_shape hb with ⟨j, u, rfl, e⟩ | ⟨y, u, rfl, e⟩
      · exact nomatch e
      · injection e with e1 _; rw [e1]
  byValue := fun k v h => by
    rcases keyIs_shape h with ⟨i, t, rfl, rfl⟩ | ⟨x, t, rfl, rfl⟩ <;> rfl
  pyHash := fun hv h => by
    rcases keyIs_shape hv with ⟨i, t, rfl, rfl⟩ | ⟨x, t, rfl, rfl⟩
    · exact wpAny_pyHash_int h
    · exact wpAny_pyHash_str h
  eqBool := fun hu hv h => by
    rcases keyIs_shape hu with ⟨i, t, rfl, rfl⟩ | ⟨x, t, rfl, rfl⟩
    · rcases keyIs_shape hv with ⟨j, u, rfl, rfl⟩ | ⟨y, u, rfl, rfl⟩
      · rw [key_ll] at h; exact wpAny_eqBool_int h
      · rw [key_lr] at h; exact SeqAt.EqAt.int_str i t y u _ _ _ _ h
    · rcases keyIs_shape hv with ⟨j, u, rfl, rfl⟩ | ⟨y, u, rfl, rfl⟩
      · rw [key_rl] at h; exact SeqAt.EqAt.str_int x t j u _ _ _ _ h
      · rw [key_rr] at h; exact wpAny_eqBool_str h
  «strs» := fun k x t v h => by
    rcases keyIs_shape h with ⟨i, u, rfl, e⟩ | ⟨y, u, rfl, e⟩
    · exact nomatch e
    · injection e with e1 _
      subst e1
      cases v <;> rfl

theorem mixKind_is (prog : Program) (w : World) (k : Key) (v : Value) : (mixKind prog w).is k v = keyIs k v := rfl
theorem mixKind_int (prog : Program) (w : World) (i : Int) (t : Tok) : (mixKind prog w).is (.inl i) (.int i t) = true := keyIs_int i t
theorem mixKind_str (prog : Program) (w : World) (x : Str) (t : Tok) : (mixKind prog w).is (.inr x) (.str x t) = true := keyIs_str x t
end L2

namespace L2
open PySem PySem.Spec PyProof.Rows

/-- a value, without the heap -/
inductive V where
  | non | bl (b : Bool) | int (i : Int) | str (x : Str) | byt (b : Array UInt8) | flt (b : UInt64) | ref (a : Addr) | ty (n : String)
  deriving DecidableEq

def RelV : V → Value → Prop
  | .non, u => u = Value.none
  | .bl b, u => u = Value.bool b
  | .int i, u => ∃ t, u = Value.int i t
  | .str x, u => ∃ t, u = Value.str x t
  | .byt b, u => ∃ t, u = Value.bytes b t
  | .flt b, u => ∃ t, u = Value.float b t
  | .ref a, u => u = Value.ref a
  | .ty n, u => u = Value.type n

abbrev Vals : List V → List Value → Prop := Paired RelV
theorem Vals.length {xs : List V} {us : List Value} (r : Vals xs us) : xs.length = us.length := Paired.length r
theorem Vals.get : ∀ {xs : List V} {us : List Value} {i : Nat} {x : V}, Vals xs us → xs[i]? = some x → ∃ u, us[i]? = some u ∧ RelV x u
  | _, _, _, _, .nil, e => by simp at e
  | _, _, 0, _, .cons r _, e => by simp at e; subst e; exact ⟨_, rfl, r⟩
  | _, _, i + 1, x, .cons _ t, e => by
    obtain ⟨u, h1, h2⟩ := Vals.get (i := i) (x := x) t (by simpa using e)
    exact ⟨u, by simpa using h1, h2⟩
theorem Vals.set {x : V} {u : Value} (r : RelV x u) : ∀ {xs : List V} {us : List Value} (i : Nat), Vals xs us → Vals (xs.set i x) (us.set i u)
  | _, _, _, .nil => .nil
  | _, _, 0, .cons _ t => .cons r t
  | _, _, i + 1, .cons q t => .cons q (Vals.set r i t)
theorem Vals.append : ∀ {xs ys : List V} {us ws : List Value}, Vals xs us → Vals ys ws → Vals (xs ++ ys) (us ++ ws)
  | _, _, _, _, .nil, s => s
  | _, _, _, _, .cons r t, s => .cons r (Vals.append t s)
theorem Vals.take : ∀ {xs : List V} {us : List Value} (n : Nat), Vals xs us → Vals (xs.take n) (us.take n)
  | _, _, 0, _ => .nil
  | _, _, _ + 1, .nil => .nil
  | _, _, n + 1, .cons r t => .cons r (Vals.take n t)
theorem Vals.drop : ∀ {xs : List V} {us : List Value} (n : Nat), Vals xs us → Vals (xs.drop n) (us.drop n)
  | _, _, 0, r => r
  | _, _, _ + 1, .nil => .nil
  | _, _, n + 1, .cons _ t => Vals.drop n t
theorem Vals.none_of : ∀ {xs : List V} {us : List Value} {i : Nat}, Vals xs us → xs[i]? = none → us[i]? = none := fun {xs us i} r e => by
  have h1 := r.length
  have h2 : xs.length ≤ i := List.getElem?_eq_none_iff.mp e
  exact List.getElem?_eq_none_iff.mpr (by omega)

def RelO : Option V → Option Value → Prop
  | some v, some u => RelV v u
  | none, none => True
  | _, _ => False
def KV {κ : Type} : List (κ × V) → List (κ × Value) → Prop := Paired fun (p : κ × V) (q : κ × Value) => p.1 = q.1 ∧ RelV p.2 q.2

/-- a key of a dict (00_mix): an int or a text -/
def kV : Key → V
  | .inl i => .int i
  | .inr x => .str x

/-- what stands at a tracked address -/
inductive HO where
  /-- a list -/
  | lst (xs : List V)
  /-- a tuple (never changes) -/
  | tup (xs : List V)
  /-- a dict whose keys are ints and texts; one whose keys are tuples of ints and texts (the empty one is both) -/
  | dK (kvs : List (Key × V)) | dT (kvs : List (List Key × V))
  /-- a set of ints: its members, its size -/
  | set (S : Int → Bool) (n : Nat)
  /-- an instance of the class at C, its dict at dx, its attributes -/
  | ins (C dx : Addr) (fs : List (Str × V))
  /-- the dict of the instance at x -/
  | own (x : Addr)
  /-- the dict of an exception -/
  | xd (fs : List (Str × V))
  /-- a bound method, f of x -/
  | met (f x : Addr)
  /-- a range object lo, lo + 1, .. below hi -/
  | rng (lo hi : Int)
  /-- a thing that is known to the object (the script; a dict while a loop walks it): read, never written while it is so -/
  | frz (o : Obj) (u : HO)
  /-- a code object's table -/
  | tbl (ps : Array Value)
  /-- any other thing, by what is true of its one object (a def of one's own: SetO a S n := HO.ext fun h => ..) -/
  | ext (φ : Heap → Prop)

abbrev Hp := Addr → Option HO
def upd (H : Hp) (a : Addr) (o : HO) : Hp := fun b => if b = a then some o else H b
theorem upd_same {H : Hp} {a : Addr} {o : HO} : upd H a o a = some o := by unfold upd; rw [if_pos rfl]
theorem upd_ne {H : Hp} {a b : Addr} {o : HO} (h : b ≠ a) : upd H a o b = H b := by unfold upd; rw [if_neg h]
theorem upd_upd {H : Hp} {a : Addr} {o u : HO} : upd (upd H a o) a u = upd H a u := by
  funext b; unfold upd; split <;> rfl
/-- two objects of different content stand apart -/
theorem ne_of {H : Hp} {a b : Addr} {o u : HO} (h : H a = some o) (h' : H b = some u) (d : o ≠ u) : a ≠ b := by
  intro e; subst e; rw [h] at h'; exact d (Option.some.inj h')
theorem ne_of_none {H : Hp} {a b : Addr} {o : HO} (h : H a = some o) (h' : H b = none) : a ≠ b := by
  intro e; subst e; rw [h] at h'; cases h'

section
variable (P : Program) (w : World)
def ObjOk (H : Hp) (h : Heap) (a : Addr) : HO → Prop
  | .lst xs => xs.length ≤ sizeLine ∧ ∃ (its : List Value) (n : Nat), Vals xs its ∧ h.get? a = some { cls := .type "list", data := .seq its.toArray n }
  | .tup xs => xs.length ≤ sizeLine ∧ ∃ its : List Value, Vals xs its ∧ IsTup h a its.toArray
  | .dK kvs => kvs.length ≤ sizeLine ∧ (a == sysModules) = false ∧ ∃ vs, KV kvs vs ∧ h.DictOf (mixKind P w) a vs
  | .dT kvs => kvs.length ≤ sizeLine ∧ (a == sysModules) = false ∧ ∃ xs : List (List Key × Addr × Value),
      Paired (fun (p : List Key × V) (q : List Key × Addr × Value) => p.1 = q.1 ∧ H q.2.1 = some (.tup (p.1.map kV)) ∧ RelV p.2 q.2.2) kvs xs ∧
      ∃ o es ep, h.get? a = some o ∧ o.ExactDict ∧ o.data = .dict es ep ∧ es.toList = xs.map (entryOfKey (tupleKind (mixKind P w))) ∧ (xs.map (·.1)).Nodup
  | .set S n => h.SetOf (intKind P w) a S n
  | .ins C dx fs => H dx = some (.own a) ∧ fs.length ≤ 1000 ∧ dx ≠ a ∧ h.get? a = some (PySem.W.instObj C dx) ∧
      ∃ mA, h.Ns1 dx mA ∧ (∀ f, RelO (fs.lookup f) (mA f)) ∧ PySem.Within mA (fs.map (·.1))
  | .own _ => ∃ o, h.get? a = some o
  | .xd fs => ∃ mA, h.Ns1 a mA ∧ ∀ f, RelO (fs.lookup f) (mA f)
  | .rng lo hi => ∃ t u v, h.get? a = some { cls := .type "range", data := .fields #[.int lo t, .int hi u, .int 1 v] }
  | .frz o u => h.get? a = some o ∧ ObjOk H h a u
  | .tbl ps => h.get? a = some { cls := .none, data := .fields ps }
  | .met f x => h.get? a = some (PySem.W.methodObj (.ref f) (.ref x))
  | .ext φ => φ h ∧ (∃ o, h.get? a = some o) ∧ ∀ h1 h2 : Heap, φ h1 → (∀ o, h1.get? a = some o → h2.get? a = some o) → φ h2
/-- the abstract heap is held -/
def HOk (H : Hp) (h : Heap) : Prop := ∀ a o, H a = some o → ObjOk P w H h a o
end

section
variable {P : Program} {w : World} {H H' : Hp} {h h' : Heap} {a : Addr} {o : HO}
theorem ObjOk.lt (x : ObjOk P w H h a o) : a < h.objs.size := by
  cases o with
  | lst xs => obtain ⟨_, _, _, _, e⟩ := x; exact Heap.lt_size e
  | tup xs => obtain ⟨_, _, _, p⟩ := x; exact p.lt
  | dK kvs => obtain ⟨_, _, _, _, o, _, _, e, _⟩ := x; exact Heap.lt_size e
  | dT kvs => obtain ⟨_, _, _, _, o, _, _, e, _⟩ := x; exact Heap.lt_size e
  | set S n => obtain ⟨o, _, _, _, e, _⟩ := x; exact Heap.lt_size e
  | ins C dx fs => obtain ⟨_, _, _, e, _⟩ := x; exact Heap.lt_size e
  | own y => obtain ⟨_, e⟩ := x; exact Heap.lt_size e
  | xd fs => obtain ⟨_, ⟨_, _, _, e, _⟩, _⟩ := x; exact Heap.lt_size e
  | rng lo hi => obtain ⟨_, _, _, e⟩ := x; exact Heap.lt_size e
  | frz ob u => obtain ⟨e, _⟩ := x; exact Heap.lt_size e
  | tbl ps => exact Heap.lt_size (show h.get? a = some _ from x)
  | met f y => exact Heap.lt_size (show h.get? a = some _ from x)
  | ext φ => obtain ⟨_, ⟨_, e⟩, _⟩ := x; exact Heap.lt_size e
theorem Paired.mapP {α β : Type} {F G : α → β → Prop} : ∀ {l₁ : List α} {l₂ : List β}, Paired F l₁ l₂ → (∀ a b, F a b → G a b) → Paired G l₁ l₂
  | _, _, .nil, _ => .nil
  | _, _, .cons r t, f => .cons (f _ _ r) (Paired.mapP t f)
theorem Paired.imp' {α β : Type} {F G : α → β → Prop} (f : ∀ a b, F a b → G a b) {l₁ : List α} {l₂ : List β} (r : Paired F l₁ l₂) : Paired G l₁ l₂ := Paired.mapP r f
/-- what an object's description leans on: its own object, its own dict, the tuples -/
theorem ObjOk.stay (x : ObjOk P w H h a o) (k : ∀ b u, (b = a ∨ H b = some (.own a)) → h.get? b = some u → h'.get? b = some u)
    (ho : ∀ b, H b = some (.own a) → H' b = some (.own a)) (ht : ∀ b xs, H b = some (.tup xs) → H' b = some (.tup xs)) : ObjOk P w H' h' a o := by
  induction o with
  | lst xs => obtain ⟨z, its, n, r, e⟩ := x; exact ⟨z, its, n, r, k _ _ (.inl rfl) e⟩
  | tup xs => obtain ⟨z, its, r, ob, e, c⟩ := x; exact ⟨z, its, r, ob, k _ _ (.inl rfl) e, c⟩
  | dK kvs => obtain ⟨z, y, vs, r, ob, es, ep, e, c⟩ := x; exact ⟨z, y, vs, r, ob, es, ep, k _ _ (.inl rfl) e, c⟩
  | dT kvs =>
    obtain ⟨z, y, xs, r, ob, es, ep, e, c⟩ := x
    exact ⟨z, y, xs, Paired.mapP r fun p q z => ⟨z.1, ht _ _ z.2.1, z.2.2⟩, ob, es, ep, k _ _ (.inl rfl) e, c⟩
  | set S n => obtain ⟨ob, es, ep, t, e, c⟩ := x; exact ⟨ob, es, ep, t, k _ _ (.inl rfl) e, c⟩
  | ins C dx fs =>
    obtain ⟨d, z, ne, e, mA, ⟨od, es, ep, e2, c⟩, r⟩ := x
    exact ⟨ho _ d, z, ne, k _ _ (.inl rfl) e, mA, ⟨od, es, ep, k _ _ (.inr d) e2, c⟩, r⟩
  | own y => obtain ⟨ob, e⟩ := x; exact ⟨ob, k _ _ (.inl rfl) e⟩
  | xd fs => obtain ⟨mA, ⟨od, es, ep, e, c⟩, r⟩ := x; exact ⟨mA, ⟨od, es, ep, k _ _ (.inl rfl) e, c⟩, r⟩
  | rng lo hi => obtain ⟨t, u, v, e⟩ := x; exact ⟨t, u, v, k _ _ (.inl rfl) e⟩
  | frz ob u ih => obtain ⟨e, q⟩ := x; exact ⟨k _ _ (.inl rfl) e, ih q⟩
  | tbl ps =>
    have e : h.get? a = some { cls := .none, data := .fields ps } := x
    show h'.get? a = some { cls := .none, data := .fields ps }
    exact k a _ (.inl rfl) e
  | met f y =>
    have e : h.get? a = some (PySem.W.methodObj (.ref f) (.ref y)) := x
    show h'.get? a = some (PySem.W.methodObj (.ref f) (.ref y))
    exact k a _ (.inl rfl) e
  | ext φ => obtain ⟨p, ⟨o, e⟩, st⟩ := x; exact ⟨st _ _ p fun o q => k _ _ (.inl rfl) q, ⟨o, k _ _ (.inl rfl) e⟩, st⟩
theorem HOk.lt (x : HOk P w H h) (e : H a = some o) : a < h.objs.size := (x a o e).lt
theorem HOk.fresh (x : HOk P w H h) (e : h.objs.size ≤ a) : H a = none := by
  cases q : H a with
  | none => rfl
  | some u => exact absurd (Nat.lt_of_lt_of_le (x.lt q) e) (Nat.lt_irrefl _)
/-- every object of the heap is kept -/
theorem HOk.kept (x : HOk P w H h) (k : ∀ b u, h.get? b = some u → h'.get? b = some u) : HOk P w H h' := fun a o e =>
  (x a o e).stay (fun b u _ q => k b u q) (fun _ q => q) fun _ _ q => q
/-- a new object is laid and tracked -/
theorem HOk.laid (x : HOk P w H h) (k : ∀ b u, h.get? b = some u → h'.get? b = some u) (hp : h.objs.size ≤ a) (new : ObjOk P w (upd H a o) h' a o) : HOk P w (upd H a o) h' := fun b u e => by
  have hn := x.fresh hp
  by_cases hb : b = a
  · subst hb; rw [upd_same] at e; cases e; exact new
  · rw [upd_ne hb] at e
    exact (x b u e).stay (fun c v _ q => k c v q) (fun c q => by rw [upd_ne (ne_of_none q hn)]; exact q) fun c xs q => by rw [upd_ne (ne_of_none q hn)]; exact q
end

/-- what may be read as u: it is u, or a known u -/
def Rd (H : Hp) (a : Addr) (u : HO) : Prop := H a = some u ∨ ∃ o, H a = some (.frz o u)
theorem Rd.of {H : Hp} {a : Addr} {u : HO} (h : H a = some u) : Rd H a u := .inl h
theorem Rd.ok {P : Program} {w : World} {H : Hp} {h : Heap} {a : Addr} {u : HO} (r : Rd H a u) (x : HOk P w H h) : ObjOk P w H h a u := by
  rcases r with r | ⟨o, r⟩
  · exact x a u r
  · obtain ⟨_, q⟩ := x a _ r
    exact q
/-- what may be written -/
def Mut : Option HO → Prop
  | some (.lst _) => True
  | some (.dK _) => True
  | some (.dT _) => True
  | some (.set _ _) => True
  | some (.ins _ _ _) => True
  | some (.ext _) => True
  | _ => False
section
variable {P : Program} {w : World} {H : Hp} {h h' : Heap} {x e : Addr} {o' : HO}
/-- the object at e is changed: x itself, or the dict of the instance x -/
theorem HOk.write (ok : HOk P w H h) (mu : Mut (H x)) (he : e = x ∨ H e = some (.own x)) (k : ∀ b u, b ≠ e → h.get? b = some u → h'.get? b = some u) (heo : ∃ u, h'.get? e = some u)
    (new : ObjOk P w (upd H x o') h' x o') : HOk P w (upd H x o') h' := fun b u q => by
  have nown : ∀ c y, H c = some (.own y) → c ≠ x := fun c y r z => by subst z; rw [r] at mu; exact mu
  have ntup : ∀ c xs, H c = some (.tup xs) → c ≠ x := fun c xs r z => by subst z; rw [r] at mu; exact mu
  by_cases hb : b = x
  · subst hb; rw [upd_same] at q; cases q; exact new
  · rw [upd_ne hb] at q
    by_cases hbe : b = e
    · have q' : H b = some (.own x) := by
        rcases he with z | z
        · exact absurd (hbe.trans z) hb
        · rw [hbe]; exact z
      rw [q] at q'; cases q'
      obtain ⟨v, hv⟩ := heo
      exact ⟨v, by rw [hbe]; exact hv⟩
    · refine (ok b u q).stay (fun c v hc r => k c v ?_ r) (fun c r => by rw [upd_ne (nown c b r)]; exact r) fun c xs r => by rw [upd_ne (ntup c xs r)]; exact r
      rcases hc with rfl | hc
      · exact hbe
      · rintro rfl
        rcases he with z | z
        · exact nown c b hc z
        · rw [hc] at z; cases z; exact hb rfl
end

/-! ### kept unless tracked; of the frames at fs (the callers') the slots may change (an exception that passes writes there); of the records at ex (iterators) nothing is said -/
structure Un (fs ex : List Addr) (H H' : Hp) (h h' : Heap) : Prop where
  keep : ∀ b o, h.get? b = some o → H b = none → b ∉ fs → b ∉ ex → h'.get? b = some o
  slot : ∀ b o, h.get? b = some o → H b = none → b ∈ fs → b ∉ ex → ∃ sl, h'.get? b = some { o with slots := sl }
  free : ∀ b o, h.get? b = some o → H b = none → b ∉ ex → H' b = none
  there : ∀ b o, h.get? b = some o → b ∉ ex → ∃ o', h'.get? b = some o'
  tups : ∀ b xs, H b = some (.tup xs) → H' b = some (.tup xs)
  frzs : ∀ b o u, H b = some (.frz o u) → H' b = some (.frz o u)
  tbls : ∀ b ps, H b = some (.tbl ps) → ∃ more, H' b = some (.tbl (ps ++ more))
section
variable {fs fs' ex ex' : List Addr} {H H1 H2 : Hp} {h h1 h2 h' : Heap} {a x e : Addr} {o : HO}
theorem Un.any (u : Un fs ex H H1 h h1) {b : Addr} {ob : Obj} (q : h.get? b = some ob) (n : H b = none) (hx : b ∉ ex) : ∃ sl, h1.get? b = some { ob with slots := sl } := by
  by_cases hb : b ∈ fs
  · exact u.slot b ob q n hb hx
  · exact ⟨ob.slots, u.keep b ob q n hb hx⟩
theorem Un.trans (a : Un fs ex H H1 h h1) (b : Un fs ex H1 H2 h1 h2) : Un fs ex H H2 h h2 where
  keep := fun c ob q n hc hx => b.keep c ob (a.keep c ob q n hc hx) (a.free c ob q n hx) hc hx
  slot := fun c ob q n hc hx => by
    obtain ⟨sl, e1⟩ := a.slot c ob q n hc hx
    obtain ⟨sl', e2⟩ := b.slot c _ e1 (a.free c ob q n hx) hc hx
    exact ⟨sl', e2⟩
  free := fun c ob q n hx => by
    obtain ⟨o', e1⟩ := a.there c ob q hx
    exact b.free c o' e1 (a.free c ob q n hx) hx
  there := fun c ob q hx => by
    obtain ⟨o', e1⟩ := a.there c ob q hx
    exact b.there c o' e1 hx
  tups := fun c xs q => b.tups c xs (a.tups c xs q)
  frzs := fun c ob xs q => b.frzs c ob xs (a.frzs c ob xs q)
  tbls := fun c ps q => by
    obtain ⟨m1, e1⟩ := a.tbls c ps q
    obtain ⟨m2, e2⟩ := b.tbls c _ e1
    exact ⟨m1 ++ m2, by rw [e2, Array.append_assoc]⟩
theorem Un.kept (k : ∀ b u, h.get? b = some u → h'.get? b = some u) : Un fs ex H H h h' :=
  ⟨fun b ob q _ _ _ => k b ob q, fun b ob q _ _ _ => ⟨ob.slots, k b ob q⟩, fun _ _ _ n _ => n, fun b ob q _ => ⟨ob, k b ob q⟩, fun _ _ q => q, fun _ _ _ q => q, fun _ ps q => ⟨#[], by rw [q]; simp⟩⟩
theorem Un.refl : Un fs ex H H h h := Un.kept fun _ _ q => q
theorem Un.laid (k : ∀ b u, h.get? b = some u → h'.get? b = some u) (hp : h.objs.size ≤ a) (hn : H a = none) : Un fs ex H (upd H a o) h h' where
  keep := fun b u q _ _ _ => k b u q
  slot := fun b u q _ _ _ => ⟨u.slots, k b u q⟩
  free := fun b u q n _ => by rw [upd_ne (Nat.ne_of_lt (Nat.lt_of_lt_of_le (Heap.lt_size q) hp))]; exact n
  there := fun b u q _ => ⟨u, k b u q⟩
  tups := fun b xs q => by rw [upd_ne (ne_of_none q hn)]; exact q
  frzs := fun b u xs q => by rw [upd_ne (ne_of_none q hn)]; exact q
  tbls := fun b ps q => ⟨#[], by rw [upd_ne (ne_of_none q hn), q]; simp⟩
theorem Un.write (mu : Mut (H x)) (he : e = x ∨ H e = some (.own x)) (k : ∀ b u, b ≠ e → h.get? b = some u → h'.get? b = some u) (heo : ∃ u, h'.get? e = some u) : Un fs ex H (upd H x o) h h' := by
  have hx : ∀ b, H b = none → b ≠ x := fun b n z => by subst z; rw [n] at mu; exact mu
  have hb : ∀ b, H b = none → b ≠ e := fun b n z => by
    subst z
    rcases he with r | r
    · exact hx b n r
    · rw [n] at r; cases r
  have hm : ∀ b u, H b = some u → ¬ Mut (some u) → b ≠ x := fun b u q nm z => by subst z; rw [q] at mu; exact nm mu
  refine ⟨fun b u q n _ _ => k b u (hb b n) q, fun b u q n _ _ => ⟨u.slots, k b u (hb b n) q⟩, fun b u q n _ => by rw [upd_ne (hx b n)]; exact n, fun b u q _ => ?_,
    fun b xs q => by rw [upd_ne (hm b _ q fun z => z)]; exact q, fun b u xs q => by rw [upd_ne (hm b _ q fun z => z)]; exact q, fun b ps q => ⟨#[], by rw [upd_ne (hm b _ q fun z => z), q]; simp⟩⟩
  by_cases hbe : b = e
  · subst hbe; exact heo
  · exact ⟨u, k b u hbe q⟩
theorem Un.mono (u : Un fs ex H H1 h h1) (hs : ∀ b ∈ fs, b ∈ fs') (hx : ∀ b ∈ ex, b ∈ ex') : Un fs' ex' H H1 h h1 :=
  ⟨fun b ob q n hb he => u.keep b ob q n (fun z => hb (hs b z)) fun z => he (hx b z), fun _ _ q n _ he => u.any q n fun z => he (hx _ z), fun b ob q n he => u.free b ob q n fun z => he (hx b z), fun b ob q he => u.there b ob q fun z => he (hx b z), u.tups, u.frzs, u.tbls⟩
end

/-! ### the heap without what is tracked -/
def trk (h : Heap) (H : Hp) : List Addr := (List.range h.objs.size).filter fun a => (H a).isSome
def hidT (h : Heap) (H : Hp) : Heap := PySem.W.hideAll h (trk h H)
theorem hidT_size (h : Heap) (H : Hp) : (hidT h H).objs.size = h.objs.size := PySem.W.hideAll_size _ _
theorem hidT_get {h : Heap} {H : Hp} {b : Addr} {o : Obj} (e : h.get? b = some o) (n : H b = none) : (hidT h H).get? b = some o :=
  PySem.W.hideAll_get _ e fun hm => by
    have q : (H b).isSome = true := (List.mem_filter.mp hm).2
    rw [n] at q; simp at q
theorem of_hidT {h : Heap} {H : Hp} {b : Addr} {o : Obj} (e : (hidT h H).get? b = some o) : h.get? b = some o ∧ H b = none := by
  have e' : h.get? b = some o := PySem.W.of_hideAll (trk h H) e
  refine ⟨e', ?_⟩
  cases q : H b with
  | none => rfl
  | some x =>
    have hm : b ∈ trk h H := List.mem_filter.mpr ⟨List.mem_range.mpr (Heap.lt_size e'), by simp [q]⟩
    have z : (hidT h H).get? b = none := PySem.W.hideAll_none (trk h H) hm
    rw [z] at e; cases e

/-! ### OpenK's ledger, filled with every new object but one -/
def allNews (g h : Heap) (L : Addr) : List (Addr × Obj) := (List.range h.objs.size).filterMap fun a => if a = L ∨ (g.get? a).isSome = true then none else (h.get? a).map fun o => (a, o)
theorem mem_allNews {g h : Heap} {L a : Addr} {o : Obj} (h1 : a ≠ L) (h2 : g.get? a = none) (h3 : h.get? a = some o) : (a, o) ∈ allNews g h L :=
  List.mem_filterMap.mpr ⟨a, List.mem_range.mpr (Heap.lt_size h3), by simp [h1, h2, h3]⟩
theorem of_mem_allNews {g h : Heap} {L : Addr} {p : Addr × Obj} (hp : p ∈ allNews g h L) : p.1 ≠ L ∧ g.get? p.1 = none ∧ h.get? p.1 = some p.2 := by
  obtain ⟨b, _, e⟩ := List.mem_filterMap.mp hp
  split at e
  · cases e
  · rename_i hn
    cases q : h.get? b with
    | none => rw [q] at e; simp at e
    | some u =>
      rw [q] at e
      simp only [Option.map_some, Option.some.injEq] at e
      subst e
      refine ⟨fun z => hn (.inl z), ?_, q⟩
      show g.get? b = none
      cases r : g.get? b with
      | none => rfl
      | some v => exact (hn (.inr (by simp [r]))).elim
def rest (g h : Heap) (L d : Addr) : List (Addr × Obj) := (allNews g h L).filter fun p => decide (p.1 ≠ d)
theorem rest_ne {g h : Heap} {L d : Addr} : ∀ p ∈ rest g h L d, p.1 ≠ d := fun p hp => of_decide_eq_true (List.mem_filter.mp hp).2
theorem mem_rest {g h : Heap} {L d a : Addr} {o : Obj} (h1 : a ≠ L) (h2 : g.get? a = none) (h3 : h.get? a = some o) (h4 : a ≠ d) : (a, o) ∈ rest g h L d :=
  List.mem_filter.mpr ⟨mem_allNews h1 h2 h3, decide_eq_true h4⟩
theorem news_all {g h : Heap} {L : Addr} : News g L h (allNews g h L) := fun p hp => let ⟨a, b, c⟩ := of_mem_allNews hp; ⟨c, a, b⟩
theorem news_at {g h : Heap} {L d : Addr} {o : Obj} (h1 : d ≠ L) (h2 : g.get? d = none) (h3 : h.get? d = some o) : News g L h ((d, o) :: rest g h L d) := fun p hp => by
  rcases List.mem_cons.mp hp with rfl | hp
  · exact ⟨h3, h1, h2⟩
  · exact news_all p (List.mem_filter.mp hp).1
/-- behind a rule that changed d alone: all else but the frame is kept -/
theorem kept_of_news {g h h' : Heap} {L d : Addr} {m : Str → Option Value} (k : ∀ b o, g.get? b = some o → h.get? b = some o) (F : Fr g L h' m) (N : News g L h' (rest g h L d)) :
    ∀ b o, b ≠ L → b ≠ d → h.get? b = some o → h'.get? b = some o := fun b o h1 h2 e => by
  cases q : g.get? b with
  | some u =>
    have := k b u q
    rw [e] at this; cases this
    exact F.keep b _ q
  | none => exact (N (b, o) (mem_rest h1 q e h2)).1
end L2

namespace L2
open PySem PySem.Spec PyProof.Rows

/-- the module's facts, over the base: the heap at the law's entry without what is tracked there -/
structure Mod (K : PySem.W.Frag) (mg : Str → Option Value) (base : Heap) : Prop where
  kin : K.In base
  glob : base.Ns mainGlobals mg
  blt : ∃ mb, base.Ns builtinsNs mb ∧ ∀ x : Str, x ≠ "__name__" → mb x = bootBuiltins x
  nolimit : base.NoLimit

/-- the context: a def's body (or a comprehension's block) running. base: fixed through the whole law; s₀, H₀: the entry; outer: the frames whose slots others may change (a def's callers); stack: all frames that run;
   ex: iterators that were made ahead of the entry and are walked here (a comprehension's); fn: the names whose cells were made at the entry (a def: all; a comprehension's block: its own); calm: not within an except suite; pn: pins that every state bears; xe: what is wanted of an exception that leaves the code -/
structure Cx where
  prog : Program
  w : World
  K : PySem.W.Frag
  mg : Str → Option Value
  base : Heap
  A : Around
  N : List Str
  s₀ : Shared
  H₀ : Hp
  env : Env
  outer : List Env
  stack : List Env
  ex : List Addr
  fn : Str → Bool
  calm : Bool
  pn : List (Addr × Obj)
  xe : Value → Shared → Prop
/-- the callers' frames -/
def frs (l : List Env) : List Addr := l.filterMap (·.frame)
abbrev Cx.fs (X : Cx) : List Addr := frs X.outer

def Vis (sc : Scope) (x : Str) : Prop := sc.names.lookup x = some .local ∨ sc.names.lookup x = some .cell ∨ sc.names.lookup x = some .free
def Loc (sc : Scope) (x : Str) : Prop := sc.names.lookup x = some .local ∨ sc.names.lookup x = some .cell
def Look (env : Env) (h : Heap) (m : Str → Option Value) (x : Str) (u : Value) : Prop :=
  (env.kindOf x = some .local ∧ m x = some u) ∨ ((env.kindOf x = some .cell ∨ env.kindOf x = some .free) ∧ ∃ c, env.cells.lookup x = some c ∧ h.IsCell c (some u))

structure Cx.Ok (X : Cx) : Prop where
  mod : Mod X.K X.mg X.base
  kind : X.env.scope.kind = .function
  glob : X.env.globals = mainGlobals
  blt : X.env.builtins = builtinsNs
  above : X.s₀.heap.objs.size ≤ X.env.locals
  inj : ∀ x y c, X.env.cells.lookup x = some c → X.env.cells.lookup y = some c → x = y
  has : ∀ x, (X.env.kindOf x = some .cell ∨ X.env.kindOf x = some .free) → ∃ c, X.env.cells.lookup x = some c
  cab : ∀ x c, X.fn x = true → X.env.cells.lookup x = some c → X.s₀.heap.objs.size ≤ c
  hd : X.calm = true → X.A.handled = none
  frames : X.A.frames = some X.stack
  stk : X.stack = X.outer ∨ (X.stack = X.env :: X.outer ∧ X.env.frame = some X.env.locals)
  exf : ∀ b ∈ X.ex, b ≠ X.env.locals ∧ ∀ x c, X.env.cells.lookup x = some c → c ≠ b
  bs : ∀ b o, X.base.get? b = some o → X.s₀.heap.get? b = some o ∧ X.H₀ b = none
  bsz : X.base.objs.size ≤ X.s₀.heap.objs.size
  noex : ∀ b o, X.base.get? b = some o → b ∉ X.ex
  exfs : ∀ b ∈ X.ex, b ∉ X.fs
  funs : X.s₀.heap.FunFrames X.base X.outer
  frf : ∀ b ∈ X.fs, X.H₀ b = none

structure Inv (X : Cx) (pins : List (Addr × Obj)) (σ : List (Option V)) (H : Hp) (s : Shared) : Prop where
  ok : X.Ok
  os : s.os = X.s₀.os
  bare : AllBare s.gens
  base : Un X.fs X.ex X.H₀ H X.s₀.heap s.heap
  loc : ∃ m, s.heap.Ns X.env.locals m ∧ ∀ (i : Nat) (x : Str) (v : V), X.N[i]? = some x → σ[i]? = some (some v) → Vis X.env.scope x → ∃ u, RelV v u ∧ Look X.env s.heap m x u
  cell : ∀ x c, X.env.cells.lookup x = some c → ∃ v, s.heap.IsCell c v
  free : H X.env.locals = none
  freeC : ∀ x c, X.env.cells.lookup x = some c → H c = none
  pin : ∀ p ∈ X.pn ++ pins, s.heap.get? p.1 = some p.2 ∧ H p.1 = none ∧ p.1 ≠ X.env.locals ∧ p.1 ∉ X.fs ∧ ∀ v, p.2.data ≠ .cell v
  hok : HOk X.prog X.w H s.heap
  len : σ.length = X.N.length

section
variable {X : Cx} {pins : List (Addr × Obj)} {σ : List (Option V)} {H H' : Hp} {s : Shared} {h' : Heap}

theorem Cx.Ok.nofr (ok : X.Ok) {b : Addr} {o : Obj} (e : X.base.get? b = some o) : b ∉ X.fs := fun hb => by
  have := (ok.funs.mem hb).1
  rw [e] at this; cases this
theorem Inv.bs (I : Inv X pins σ H s) : ∀ b o, X.base.get? b = some o → s.heap.get? b = some o ∧ H b = none := fun b o e =>
  ⟨I.base.keep b o (I.ok.bs b o e).1 (I.ok.bs b o e).2 (I.ok.nofr e) (I.ok.noex b o e), I.base.free b o (I.ok.bs b o e).1 (I.ok.bs b o e).2 (I.ok.noex b o e)⟩
theorem Inv.bk (I : Inv X pins σ H s) : ∀ b o, X.base.get? b = some o → s.heap.get? b = some o := fun b o e => (I.bs b o e).1
theorem Inv.mod (I : Inv X pins σ H s) : Mod X.K X.mg X.base := I.ok.mod
theorem Inv.kIn (I : Inv X pins σ H s) : X.K.In s.heap := I.ok.mod.kin.keeps I.bk
theorem Inv.nolimit (I : Inv X pins σ H s) : s.heap.NoLimit := I.ok.mod.nolimit.keeps I.bk
/-- the frame over the base: for OpenK's rules (K.In X.base is I.mod.kin) -/
theorem Inv.fr (I : Inv X pins σ H s) : ∃ m, Fr X.base X.env.locals s.heap m :=
  let ⟨m, hn, _⟩ := I.loc
  ⟨m, hn, I.bk, Nat.le_trans I.ok.bsz I.ok.above⟩
theorem Inv.lt (I : Inv X pins σ H s) : X.env.locals < s.heap.objs.size := let ⟨_, hn, _⟩ := I.loc; hn.lt
theorem Inv.sz (I : Inv X pins σ H s) : X.s₀.heap.objs.size ≤ s.heap.objs.size := Nat.le_trans I.ok.above (Nat.le_of_lt I.lt)
theorem Inv.nofs (I : Inv X pins σ H s) {a : Addr} (h : s.heap.objs.size ≤ a) : a ∉ X.fs := fun hb => by
  obtain ⟨_, o, ho, _⟩ := I.ok.funs.mem hb
  exact absurd (Nat.lt_of_lt_of_le (Heap.lt_size ho) (Nat.le_trans I.sz h)) (Nat.lt_irrefl _)
theorem Inv.cne (I : Inv X pins σ H s) : ∀ x c, X.env.cells.lookup x = some c → c ≠ X.env.locals := fun x c e z => by
  obtain ⟨v, o, ho, hd⟩ := I.cell x c e
  obtain ⟨m, ⟨o', es, ep, ho', hd', _⟩, _⟩ := I.loc
  rw [z, ho'] at ho; cases ho; rw [hd'] at hd; cases hd
theorem Inv.funs (I : Inv X pins σ H s) : s.heap.FunFrames X.base X.outer := by
  have all : ∀ (l : List Env), (∀ b ∈ frs l, b ∈ X.fs) → X.s₀.heap.FunFrames X.base l → s.heap.FunFrames X.base l := by
    intro l
    induction l with
    | nil => intro _ _; trivial
    | cons env r ih =>
      intro hs hl
      obtain ⟨hk, ⟨L, o, hf, hn, ho, hd⟩, hr⟩ := hl
      have hL : L ∈ X.fs := hs L (by unfold frs; rw [List.filterMap_cons, hf]; exact List.mem_cons_self)
      obtain ⟨sl, e⟩ := I.base.slot L o ho (I.ok.frf L hL) hL fun z => I.ok.exfs L z hL
      exact ⟨hk, ⟨L, _, hf, hn, e, hd⟩, ih (fun b hb => hs b (by unfold frs; rw [List.filterMap_cons, hf]; exact List.mem_cons_of_mem _ hb)) hr⟩
  exact all X.outer (fun _ hb => hb) I.ok.funs

/-- the frames that run, for a call -/
theorem Inv.stack (I : Inv X pins σ H s) : s.heap.FunFrames X.base X.stack := by
  rcases I.ok.stk with e | ⟨e, hf⟩
  · rw [e]; exact I.funs
  · rw [e]
    obtain ⟨m, hn, _⟩ := I.loc
    refine .cons (by rw [I.ok.kind]; decide) hf hn ?_ I.funs
    exact Heap.get?_none_of_le (Nat.le_trans I.ok.bsz I.ok.above)
theorem Inv.stkSub (I : Inv X pins σ H s) : ∀ b ∈ frs X.stack, b ∈ X.env.locals :: X.fs := fun b hb => by
  rcases I.ok.stk with e | ⟨e, hf⟩
  · rw [e] at hb; exact List.mem_cons_of_mem _ hb
  · rw [e] at hb
    unfold frs at hb
    rw [List.filterMap_cons, hf] at hb
    exact hb
theorem Inv.stkFree (I : Inv X pins σ H s) : ∀ b ∈ frs X.stack, H b = none := fun b hb => by
  rcases List.mem_cons.mp (I.stkSub b hb) with e | hb
  · rw [e]; exact I.free
  · obtain ⟨_, o, ho, _⟩ := I.ok.funs.mem hb
    exact I.base.free b o ho (I.ok.frf b hb) fun z => I.ok.exfs b z hb

/-- THE STEP: the untracked objects but the frame and the records at ch are kept (the callers' frames up to slots), the frame's map is kept, the new abstract heap is held -/
theorem Inv.step {g' : Array GenState} {t' : Nat} {d' : Drawn} {ch : List Addr} (I : Inv X pins σ H s)
    (hch : ∀ b ∈ ch, (b ∈ X.ex ∨ X.s₀.heap.objs.size ≤ b) ∧ b ≠ X.env.locals ∧ (∀ x c, X.env.cells.lookup x = some c → c ≠ b) ∧ ∀ p ∈ X.pn ++ pins, p.1 ≠ b)
    (keep : ∀ b o, b ≠ X.env.locals → b ∉ X.fs → b ∉ ch → s.heap.get? b = some o → H b = none → h'.get? b = some o)
    (slot : ∀ b o, b ≠ X.env.locals → b ∈ X.fs → b ∉ ch → s.heap.get? b = some o → H b = none → ∃ sl, h'.get? b = some { o with slots := sl }) (free : ∀ b o, b ∉ ch → s.heap.get? b = some o → H b = none → H' b = none)
    (there : ∀ b o, b ∉ ch → s.heap.get? b = some o → ∃ o', h'.get? b = some o')
    (tups : ∀ b xs, H b = some (.tup xs) → H' b = some (.tup xs)) (frzs : ∀ b o u, H b = some (.frz o u) → H' b = some (.frz o u)) (tbls : ∀ b ps, H b = some (.tbl ps) → ∃ more, H' b = some (.tbl (ps ++ more)))
    (ns : ∀ m, s.heap.Ns X.env.locals m → h'.Ns X.env.locals m) (hok : HOk X.prog X.w H' h') (hg : AllBare g') :
    Inv X pins σ H' { s with heap := h', gens := g', drawn := d', toks := t' } := by
  have neL : ∀ b o, X.s₀.heap.get? b = some o → b ≠ X.env.locals := fun b o e => Nat.ne_of_lt (Nat.lt_of_lt_of_le (Heap.lt_size e) I.ok.above)
  have neC : ∀ b o, X.s₀.heap.get? b = some o → b ∉ X.ex → b ∉ ch := fun b o e hx hb => by
    rcases (hch b hb).1 with z | z
    · exact hx z
    · exact absurd (Nat.lt_of_lt_of_le (Heap.lt_size e) z) (Nat.lt_irrefl _)
  have cellK : ∀ x c, X.env.cells.lookup x = some c → ∀ v, s.heap.IsCell c v → h'.IsCell c v := fun x c e v ⟨o, ho, hd⟩ => by
    have nch : c ∉ ch := fun z => (hch c z).2.2.1 x c e rfl
    by_cases hc : c ∈ X.fs
    · obtain ⟨sl, q⟩ := slot c o (I.cne x c e) hc nch ho (I.freeC x c e)
      exact ⟨_, q, hd⟩
    · exact ⟨o, keep c o (I.cne x c e) hc nch ho (I.freeC x c e), hd⟩
  refine ⟨I.ok, I.os, hg, ⟨fun b o e n hb hx => ?_, fun b o e n hb hx => ?_, fun b o e n hx => ?_, fun b o e hx => ?_, fun b xs e => tups b xs (I.base.tups b xs e), fun b o xs e => frzs b o xs (I.base.frzs b o xs e), fun b ps e => ?_⟩, ?_, fun x c e => ?_, ?_, fun x c e => ?_, fun p hp => ?_, hok, I.len⟩
  · exact keep b o (neL b o e) hb (neC b o e hx) (I.base.keep b o e n hb hx) (I.base.free b o e n hx)
  · obtain ⟨sl, e1⟩ := I.base.slot b o e n hb hx
    obtain ⟨sl', e2⟩ := slot b _ (neL b o e) hb (neC b o e hx) e1 (I.base.free b o e n hx)
    exact ⟨sl', e2⟩
  · obtain ⟨o', e1⟩ := I.base.there b o e hx
    exact free b o' (neC b o e hx) e1 (I.base.free b o e n hx)
  · obtain ⟨o', e1⟩ := I.base.there b o e hx
    exact there b o' (neC b o e hx) e1
  · obtain ⟨m1, e1⟩ := I.base.tbls b ps e
    obtain ⟨m2, e2⟩ := tbls b _ e1
    exact ⟨m1 ++ m2, by rw [e2, Array.append_assoc]⟩
  · obtain ⟨m, hn, hl⟩ := I.loc
    refine ⟨m, ns m hn, fun i x v e1 e2 e3 => ?_⟩
    obtain ⟨u, r, l⟩ := hl i x v e1 e2 e3
    refine ⟨u, r, ?_⟩
    rcases l with l | ⟨k, c, e, z⟩
    · exact .inl l
    · exact .inr ⟨k, c, e, cellK x c e _ z⟩
  · obtain ⟨v, z⟩ := I.cell x c e
    exact ⟨v, cellK x c e v z⟩
  · obtain ⟨m, ⟨o, _, _, ho, _⟩, _⟩ := I.loc
    exact free _ o (fun z => (hch _ z).2.1 rfl) ho I.free
  · obtain ⟨v, o, ho, hd⟩ := I.cell x c e
    exact free c o (fun z => (hch c z).2.2.1 x c e rfl) ho (I.freeC x c e)
  · obtain ⟨e, n, ne, nf, d⟩ := I.pin p hp
    have nch : p.1 ∉ ch := fun z => (hch p.1 z).2.2.2 p hp rfl
    exact ⟨keep p.1 p.2 ne nf nch e n, free p.1 p.2 nch e n, ne, nf, d⟩
/-- .. where the frame's own object is kept too -/
theorem Inv.un {t' : Nat} (I : Inv X pins σ H s) (u : Un X.fs [] H H' s.heap h') (hok : HOk X.prog X.w H' h') : Inv X pins σ H' { s with heap := h', toks := t' } := by
  obtain ⟨m, ⟨o, es, ep, ho, r⟩, _⟩ := id I.loc
  obtain ⟨sl, hL⟩ := u.any ho I.free (by simp)
  exact I.step (g' := s.gens) (d' := s.drawn) (ch := []) (fun _ z => nomatch z) (fun b o _ hb _ e n => u.keep b o e n hb (by simp)) (fun b o _ hb _ e n => u.slot b o e n hb (by simp)) (fun b o _ e n => u.free b o e n (by simp)) (fun b o _ e => u.there b o e (by simp)) u.tups u.frzs u.tbls (fun m' hm => by
    obtain ⟨o', es', ep', ho', r'⟩ := hm
    rw [ho] at ho'; cases ho'
    exact ⟨_, es', ep', hL, r'⟩) hok I.bare
/-- behind a call (or a comprehension's block): the slots of this frame may have changed too, the records at ch may have turned -/
theorem Inv.call {g' : Array GenState} {t' : Nat} {d' : Drawn} {ch : List Addr} (I : Inv X pins σ H s) (u : Un (frs X.stack) ch H H' s.heap h') (hok : HOk X.prog X.w H' h') (hg : AllBare g')
    (hch : ∀ b ∈ ch, (b ∈ X.ex ∨ X.s₀.heap.objs.size ≤ b) ∧ b ≠ X.env.locals ∧ (∀ x c, X.env.cells.lookup x = some c → c ≠ b) ∧ ∀ p ∈ X.pn ++ pins, p.1 ≠ b) :
    Inv X pins σ H' { s with heap := h', gens := g', drawn := d', toks := t' } := by
  obtain ⟨m, ⟨o, es, ep, ho, r⟩, _⟩ := id I.loc
  obtain ⟨sl, hL⟩ := u.any ho I.free fun z => (hch _ z).2.1 rfl
  exact I.step (ch := ch) hch (fun b o hL hb hc e n => u.keep b o e n (fun z => (List.mem_cons.mp (I.stkSub b z)).elim hL hb) hc) (fun b o _ _ hc e n => u.any e n hc) (fun b o hc e n => u.free b o e n hc) (fun b o hc e => u.there b o e hc) u.tups u.frzs u.tbls (fun m' hm => by
    obtain ⟨o', es', ep', ho', r'⟩ := hm
    rw [ho] at ho'; cases ho'
    exact ⟨_, es', ep', hL, r'⟩) hok hg
/-- an untracked record of ours (an iterator) has turned -/
theorem Inv.turned {t' : Nat} {it : Addr} (I : Inv X pins σ H s) (k : ∀ b o, b ≠ it → s.heap.get? b = some o → h'.get? b = some o) (hn : H it = none) (hL : it ≠ X.env.locals)
    (h1 : it ∈ X.ex ∨ X.s₀.heap.objs.size ≤ it) (h2 : ∀ x c, X.env.cells.lookup x = some c → c ≠ it) (h3 : ∀ p ∈ X.pn ++ pins, p.1 ≠ it) : Inv X pins σ H { s with heap := h', toks := t' } := by
  have nit : ∀ b u, H b = some u → b ≠ it := fun b u e z => by rw [z, hn] at e; cases e
  refine I.step (g' := s.gens) (d' := s.drawn) (ch := [it]) (fun b hb => ?_) (fun b o _ _ hc e _ => k b o (fun z => hc (by simp [z])) e) (fun b o _ _ hc e _ => ⟨o.slots, k b o (fun z => hc (by simp [z])) e⟩) (fun _ _ _ _ n => n)
    (fun b o hc e => ⟨o, k b o (fun z => hc (by simp [z])) e⟩) (fun _ _ e => e) (fun _ _ _ e => e) (fun b ps e => ⟨#[], by rw [e]; simp⟩) (fun m hm => ?_) (fun b u e => ?_) I.bare
  · have e : b = it := by simpa using hb
    subst e
    exact ⟨h1, hL, h2, h3⟩
  · obtain ⟨o, es, ep, ho, r⟩ := hm
    exact ⟨o, es, ep, k _ o (Ne.symm hL) ho, r⟩
  · refine (I.hok b u e).stay (fun c v hc q => k c v ?_ q) (fun _ q => q) fun _ _ q => q
    rcases hc with z | z
    · rw [z]; exact nit b u e
    · exact nit c _ z
theorem Inv.tok (I : Inv X pins σ H s) (t : Nat) : Inv X pins σ H { s with toks := t } := I.un (h' := s.heap) (t' := t) Un.refl I.hok
/-- all objects kept -/
theorem Inv.kept {t' : Nat} (I : Inv X pins σ H s) (k : ∀ b u, s.heap.get? b = some u → h'.get? b = some u) : Inv X pins σ H { s with heap := h', toks := t' } := I.un (Un.kept k) (I.hok.kept k)
/-- a new object laid and tracked -/
theorem Inv.laid {a : Addr} {o : HO} {t' : Nat} (I : Inv X pins σ H s) (k : ∀ b u, s.heap.get? b = some u → h'.get? b = some u) (hp : s.heap.objs.size ≤ a) (new : ObjOk X.prog X.w (upd H a o) h' a o) :
    Inv X pins σ (upd H a o) { s with heap := h', toks := t' } := I.un (Un.laid k hp (I.hok.fresh hp)) (I.hok.laid k hp new)
/-- an object written -/
theorem Inv.write {x e : Addr} {o : HO} {t' : Nat} (I : Inv X pins σ H s) (mu : Mut (H x)) (he : e = x ∨ H e = some (.own x)) (k : ∀ b u, b ≠ e → s.heap.get? b = some u → h'.get? b = some u) (heo : ∃ u, h'.get? e = some u)
    (new : ObjOk X.prog X.w (upd H x o) h' x o) : Inv X pins σ (upd H x o) { s with heap := h', toks := t' } := I.un (Un.write mu he k heo) (I.hok.write mu he k heo new)
/-- forgetting slots, pins -/
theorem Inv.weak {σ' : List (Option V)} (I : Inv X pins σ H s) (hl : σ'.length = σ.length) (w : ∀ (i : Nat) v, σ'[i]? = some (some v) → σ[i]? = some (some v)) : Inv X pins σ' H s :=
  ⟨I.ok, I.os, I.bare, I.base, let ⟨m, hn, hl'⟩ := I.loc; ⟨m, hn, fun i x v e1 e2 e3 => hl' i x v e1 (w i v e2) e3⟩, I.cell, I.free, I.freeC, I.pin, I.hok, hl.trans I.len⟩
theorem Inv.pins_of {pins' : List (Addr × Obj)} (I : Inv X pins σ H s) (h : ∀ p ∈ pins', s.heap.get? p.1 = some p.2 ∧ H p.1 = none ∧ p.1 ≠ X.env.locals ∧ p.1 ∉ X.fs ∧ ∀ v, p.2.data ≠ .cell v) : Inv X pins' σ H s :=
  ⟨I.ok, I.os, I.bare, I.base, I.loc, I.cell, I.free, I.freeC, fun p hp => (List.mem_append.mp hp).elim (fun z => I.pin p (List.mem_append_left _ z)) (h p), I.hok, I.len⟩

theorem nodup_ix {N : List Str} (hN : N.Nodup) {i j : Nat} {x : Str} (a : N[i]? = some x) (b : N[j]? = some x) : i = j := by
  obtain ⟨h1, e1⟩ := List.getElem?_eq_some_iff.mp a
  obtain ⟨h2, e2⟩ := List.getElem?_eq_some_iff.mp b
  exact (List.getElem_inj hN).mp (e1.trans e2.symm)

/-- a name is stored; what changed -/
theorem store_ok2 {M : Model} {A : Around} {E : Value → Shared → Prop} {i : Nat} {x : Str} {v : V} {u : Value} {Q : Unit → Shared → Prop} (I : Inv X pins σ H s) (hN : X.N.Nodup) (hi : X.N[i]? = some x) (hx : Loc X.env.scope x) (r : RelV v u)
    (h : ∀ s', Inv X pins (σ.set i (some v)) H s' → (∃ a, Heap.SameBut a s.heap s'.heap ∧ (a = X.env.locals ∨ X.env.cells.lookup x = some a)) → Q () s') (hf : X.fn x = true ∨ X.env.scope.names.lookup x = some .local := by first | exact .inl rfl | exact .inr rfl | assumption) : wpAny M A (storeName X.env x u) Q E s := by
  obtain ⟨m, hn, hl⟩ := id I.loc
  have hcls : (X.env.scope.kind == .class || (X.env.scope.kind == .module && X.env.locals != X.env.globals)) = false := by rw [I.ok.kind]; rfl
  have hiσ : i < σ.length := by rw [I.len]; exact (List.getElem?_eq_some_iff.mp hi).1
  have cne := I.cne
  have tracked : ∀ {a : Addr} {h' : Heap}, (∃ o, s.heap.get? a = some o ∧ H a = none) → Heap.SameBut a s.heap h' → HOk X.prog X.w H h' := fun {a h'} ha hs b ob e => by
    obtain ⟨_, _, hfree⟩ := ha
    refine (I.hok b ob e).stay (fun c w' hc q => (hs.2 c ?_).trans q) (fun _ q => q) fun _ _ q => q
    rintro rfl
    rcases hc with rfl | hc
    · rw [hfree] at e; cases e
    · rw [hfree] at hc; cases hc
  rcases hx with hk | hk
  · refine wpAny_storeName_local hk hn (fun h' hn' hs => ?_) hcls
    obtain ⟨oL, _, _, hoL, _⟩ := id hn
    refine h _ ⟨I.ok, I.os, I.bare, ⟨fun b o e n hb hx => ?_, fun b o e n hb hx => ?_, I.base.free, fun b o e hx => ?_, I.base.tups, I.base.frzs, I.base.tbls⟩, ⟨_, hn', fun j y v' e1 e2 e3 => ?_⟩, fun y c e => ?_, I.free, I.freeC, fun p hp => ?_, tracked ⟨oL, hoL, I.free⟩ hs, by simpa using I.len⟩ ⟨_, hs, .inl rfl⟩
    · exact (hs.2 b (Nat.ne_of_lt (Nat.lt_of_lt_of_le (Heap.lt_size e) I.ok.above))).trans (I.base.keep b o e n hb hx)
    · obtain ⟨sl, e1⟩ := I.base.slot b o e n hb hx
      exact ⟨sl, (hs.2 b (Nat.ne_of_lt (Nat.lt_of_lt_of_le (Heap.lt_size e) I.ok.above))).trans e1⟩
    · obtain ⟨o', e1⟩ := I.base.there b o e hx
      exact ⟨o', (hs.2 b (Nat.ne_of_lt (Nat.lt_of_lt_of_le (Heap.lt_size e) I.ok.above))).trans e1⟩
    · by_cases hj : j = i
      · subst hj
        rw [hi] at e1; cases e1
        rw [List.getElem?_set_self hiσ] at e2
        cases e2
        exact ⟨u, r, .inl ⟨hk, by simp⟩⟩
      · rw [List.getElem?_set_ne (Ne.symm hj)] at e2
        obtain ⟨u', r', q⟩ := hl j y v' e1 e2 e3
        refine ⟨u', r', ?_⟩
        rcases q with ⟨k, e⟩ | ⟨k, c, e, z⟩
        · refine .inl ⟨k, ?_⟩
          have : y ≠ x := fun e => hj (nodup_ix hN e1 (e ▸ hi))
          simp [this, e]
        · exact .inr ⟨k, c, e, z.sameBut hs (cne y c e)⟩
    · obtain ⟨w', z⟩ := I.cell y c e
      exact ⟨w', z.sameBut hs (cne y c e)⟩
    · obtain ⟨e, n, ne, nf, d⟩ := I.pin p hp
      exact ⟨(hs.2 p.1 ne).trans e, n, ne, nf, d⟩
  · have hfn : X.fn x = true := by
      rcases hf with z | z
      · exact z
      · rw [z] at hk; cases hk
    obtain ⟨c, hc⟩ := I.ok.has x (.inl hk)
    obtain ⟨w', z⟩ := I.cell x c hc
    refine wpAny_storeName_cell I.ok.kind hk hc z (fun h' hc' hs => ?_)
    obtain ⟨oc, hoc, hocd⟩ := id z
    refine h { s with heap := h' } ⟨I.ok, I.os, I.bare, ⟨fun b o e n hb hx => ?_, fun b o e n hb hx => ?_, I.base.free, fun b o e hx => ?_, I.base.tups, I.base.frzs, I.base.tbls⟩, ⟨m, hn.sameBut hs (Ne.symm (cne x c hc)), fun j y v' e1 e2 e3 => ?_⟩, fun y c' e => ?_, I.free, I.freeC, fun p hp => ?_, tracked ⟨oc, hoc, I.freeC x c hc⟩ hs, by simpa using I.len⟩ ⟨c, hs, .inr hc⟩
    · exact (hs.2 b (Nat.ne_of_lt (Nat.lt_of_lt_of_le (Heap.lt_size e) (I.ok.cab x c hfn hc)))).trans (I.base.keep b o e n hb hx)
    · obtain ⟨sl, e1⟩ := I.base.slot b o e n hb hx
      exact ⟨sl, (hs.2 b (Nat.ne_of_lt (Nat.lt_of_lt_of_le (Heap.lt_size e) (I.ok.cab x c hfn hc)))).trans e1⟩
    · obtain ⟨o', e1⟩ := I.base.there b o e hx
      exact ⟨o', (hs.2 b (Nat.ne_of_lt (Nat.lt_of_lt_of_le (Heap.lt_size e) (I.ok.cab x c hfn hc)))).trans e1⟩
    · by_cases hj : j = i
      · subst hj
        rw [hi] at e1; cases e1
        rw [List.getElem?_set_self hiσ] at e2
        cases e2
        exact ⟨u, r, .inr ⟨.inl hk, c, hc, hc'⟩⟩
      · rw [List.getElem?_set_ne (Ne.symm hj)] at e2
        obtain ⟨u', r', q⟩ := hl j y v' e1 e2 e3
        refine ⟨u', r', ?_⟩
        rcases q with q | ⟨k, c', e, z'⟩
        · exact .inl q
        · refine .inr ⟨k, c', e, z'.sameBut hs ?_⟩
          rintro rfl
          exact hj (nodup_ix hN e1 (I.ok.inj _ _ _ e hc ▸ hi))
    · by_cases hcc : c' = c
      · subst hcc; exact ⟨_, hc'⟩
      · obtain ⟨w2, z2⟩ := I.cell y c' e
        exact ⟨w2, z2.sameBut hs hcc⟩
    · obtain ⟨e, n, ne, nf, d⟩ := I.pin p hp
      refine ⟨(hs.2 p.1 ?_).trans e, n, ne, nf, d⟩
      intro q
      rw [q, hoc] at e
      have q' : oc = p.2 := Option.some.inj e
      exact d w' (by rw [← q']; exact hocd)
theorem store_ok {M : Model} {A : Around} {E : Value → Shared → Prop} {i : Nat} {x : Str} {v : V} {u : Value} {Q : Unit → Shared → Prop} (I : Inv X pins σ H s) (hN : X.N.Nodup) (hi : X.N[i]? = some x) (hx : Loc X.env.scope x) (r : RelV v u)
    (h : ∀ s', Inv X pins (σ.set i (some v)) H s' → Q () s') (hf : X.fn x = true ∨ X.env.scope.names.lookup x = some .local := by first | exact .inl rfl | exact .inr rfl | assumption) : wpAny M A (storeName X.env x u) Q E s :=
  store_ok2 I hN hi hx r (fun s' I' _ => h s' I') hf
/-- behind a call or a block, the state as it is -/
theorem Inv.call' {s' : Shared} {ch : List Addr} (I : Inv X pins σ H s) (ho : s'.os = s.os) (u : Un (frs X.stack) ch H H' s.heap s'.heap) (hok : HOk X.prog X.w H' s'.heap) (hg : AllBare s'.gens)
    (hch : ∀ b ∈ ch, (b ∈ X.ex ∨ X.s₀.heap.objs.size ≤ b) ∧ b ≠ X.env.locals ∧ (∀ x c, X.env.cells.lookup x = some c → c ≠ b) ∧ ∀ p ∈ X.pn ++ pins, p.1 ≠ b) : Inv X pins σ H' s' := by
  obtain ⟨h', g', d', t', o'⟩ := s'
  have e : o' = s.os := ho
  subst e
  exact I.call (g' := g') (t' := t') (d' := d') u hok hg hch
end

/-! ### the judgements -/
/-- an exception: its class, its own dict's address (where it has one), the abstract heap behind it -/
abbrev XK := Value → Option Addr → Hp → Prop
abbrev St := List (Option V)
abbrev VK := V → Hp → Prop
/-- an expression's reading; a test's; an argument list's -/
abbrev TE := St → Hp → VK → Prop
abbrev TT := St → Hp → (Bool → Hp → Prop) → Prop
abbrev TA := St → Hp → (List V → Hp → Prop) → Prop
/-- what is wanted behind a statement -/
structure Ends where
  nx : St → Hp → Prop
  rt : VK
  bk : St → Hp → Prop := fun _ _ => False
  ct : St → Hp → Prop := fun _ _ => False
abbrev TS := Ends → St → Hp → Prop

def EP (X : Cx) (pins : List (Addr × Obj)) (σ : St) (Q : VK) (u : Value) (s' : Shared) : Prop := ∃ v H', Inv X pins σ H' s' ∧ RelV v u ∧ Q v H'
def TP (X : Cx) (pins : List (Addr × Obj)) (σ : St) (Q : Bool → Hp → Prop) (b : Bool) (s' : Shared) : Prop := ∃ H', Inv X pins σ H' s' ∧ Q b H'
def AP (X : Cx) (pins : List (Addr × Obj)) (σ : St) (Q : List V → Hp → Prop) (us : List Value) (s' : Shared) : Prop := ∃ vs H', Inv X pins σ H' s' ∧ Vals vs us ∧ Q vs H'
def SP (X : Cx) (pins : List (Addr × Obj)) (D : Ends) (f : Flow) (s' : Shared) : Prop :=
  match f with
  | .next => ∃ σ' H', Inv X pins σ' H' s' ∧ D.nx σ' H'
  | .brk => ∃ σ' H', Inv X pins σ' H' s' ∧ D.bk σ' H'
  | .cont => ∃ σ' H', Inv X pins σ' H' s' ∧ D.ct σ' H'
  | .ret u => ∃ v σ' H', Inv X pins σ' H' s' ∧ RelV v u ∧ D.rt v H'

def PE (X : Cx) (e : Expr) (t : TE) : Prop :=
  ∀ (pins : List (Addr × Obj)) (s : Shared) (σ : St) (H : Hp) (Q : VK), Inv X pins σ H s → t σ H Q → wpAny (model X.prog X.w) X.A (eval e X.env) (EP X pins σ Q) X.xe s
def PT (X : Cx) (e : Expr) (t : TT) : Prop :=
  ∀ (pins : List (Addr × Obj)) (s : Shared) (σ : St) (H : Hp) (Q : Bool → Hp → Prop), Inv X pins σ H s → t σ H Q → wpAny (model X.prog X.w) X.A (isTrue e X.env (eval e X.env)) (TP X pins σ Q) X.xe s
/-- a test whatever its 'whole' is (and, or) -/
def PW (X : Cx) (e : Expr) (t : TT) : Prop :=
  ∀ (whole : Sem Value) (pins : List (Addr × Obj)) (s : Shared) (σ : St) (H : Hp) (Q : Bool → Hp → Prop), Inv X pins σ H s → t σ H Q → wpAny (model X.prog X.w) X.A (isTrue e X.env whole) (TP X pins σ Q) X.xe s
theorem PW.pt {X : Cx} {e : Expr} {t : TT} (h : PW X e t) : PT X e t := h _
/-- an argument list (no star), from the left -/
def PA (X : Cx) (es : List Expr) (t : TA) : Prop :=
  ∀ (pos : Pos) (pins : List (Addr × Obj)) (s : Shared) (σ : St) (H : Hp) (Q : List V → Hp → Prop), Inv X pins σ H s → t σ H Q → wpAny (model X.prog X.w) X.A (spliced (backTo pos (starEach es X.env))) (AP X pins σ Q) X.xe s
def PS (X : Cx) (st : Stmt) (t : TS) : Prop :=
  ∀ (pins : List (Addr × Obj)) (s : Shared) (σ : St) (H : Hp) (D : Ends), Inv X pins σ H s → t D σ H → wpAny (model X.prog X.w) X.A (exec st X.env) (SP X pins D) X.xe s
def PSs (X : Cx) (st : List Stmt) (t : TS) : Prop :=
  ∀ (pins : List (Addr × Obj)) (s : Shared) (σ : St) (H : Hp) (D : Ends), Inv X pins σ H s → t D σ H → wpAny (model X.prog X.w) X.A (execs st X.env) (SP X pins D) X.xe s
/-- weaken the end -/
theorem thn {α : Type} {t : Sem α} {Q Q' : α → Shared → Prop} {M : Model} {A : Around} {E : Value → Shared → Prop} {s : Shared} (h : wpAny M A t Q E s) (hQ : ∀ a s, Q a s → Q' a s) : wpAny M A t Q' E s := wpAny_mono h hQ fun _ _ x => x
end L2

namespace L2
open PySem PySem.Spec PyProof.Rows
section
variable {X : Cx}

/-- two expressions in a row -/
theorem bin {a b : Expr} {ta tb : TE} (ha : PE X a ta) (hb : PE X b tb) {pins : List (Addr × Obj)} {s : Shared} {σ : St} {H : Hp} {R : V → V → Hp → Prop} (I : Inv X pins σ H s) (h : ta σ H fun x H1 => tb σ H1 fun y H2 => R x y H2)
    {α : Type} {Q : α → Shared → Prop} {f : Value → Value → Sem α}
    (hf : ∀ v u s2 x y H2, Inv X pins σ H2 s2 → RelV x v → RelV y u → R x y H2 → wpAny (model X.prog X.w) X.A (f v u) Q X.xe s2) :
    wpAny (model X.prog X.w) X.A (eval a X.env) (fun v s₁ => wpAny (model X.prog X.w) X.A (eval b X.env) (fun u s₂ => wpAny (model X.prog X.w) X.A (f v u) Q X.xe s₂) X.xe s₁) X.xe s := by
  refine thn (ha pins s σ H _ I h) fun v s1 ⟨x, H1, I1, r1, q1⟩ => ?_
  refine thn (hb pins s1 σ H1 _ I1 q1) fun u s2 ⟨y, H2, I2, r2, q2⟩ => ?_
  exact hf v u s2 x y H2 I2 r1 r2 q2

/-! ### names and constants -/
def tVar (i : Nat) : TE := fun σ H Q => ∃ v, σ[i]? = some (some v) ∧ Q v H
def tC (v : V) : TE := fun _ H Q => Q v H
theorem pe_var {i : Nat} {x : Str} {pos : Pos} (hN : X.N[i]? = some x) (hv : Vis X.env.scope x) (hd : (x == ("__debug__" : Str)) = false := by decide) (hcd : (x == ("__classdict__" : Str)) = false := by decide) : PE X (.Name x pos) (tVar i) := by
  intro pins s σ H Q I h
  obtain ⟨v, e, h⟩ := h
  obtain ⟨m, hn, hl⟩ := I.loc
  obtain ⟨u, r, l⟩ := hl i x v hN e hv
  have fin : EP X pins σ Q u s := ⟨v, H, I, r, h⟩
  rcases l with ⟨hk, hm⟩ | ⟨hk, c, hc, hcell⟩
  · exact wpAny_Name (wpAny_loadName_local I.ok.kind hk hn hm fin) hd
  · rcases hk with hk | hk
    · exact wpAny_Name (wpAny_loadName_cell I.ok.kind hk hc hcell fin) hd
    · exact wpAny_Name (wpAny_loadName_free I.ok.kind hk hc hcell fin hcd) hd
theorem pe_int {i j pos} : PE X (.Constant (.int i) j pos) (tC (.int i)) := fun _ _ _ H _ I h => wpAny_Constant_int ⟨.int i, H, I.tok _, ⟨_, rfl⟩, h⟩
theorem pe_bl {b j pos} : PE X (.Constant (.bool b) j pos) (tC (.bl b)) := fun _ _ _ H _ I h => Constant_bool ⟨.bl b, H, I, rfl, h⟩
theorem pe_non {j pos} : PE X (.Constant .none j pos) (tC .non) := fun _ _ _ H _ I h => Constant_none ⟨.non, H, I, rfl, h⟩
theorem pe_str {x j pos} : PE X (.Constant (.str x) j pos) (tC (.str x)) := fun _ _ _ H _ I h => Calls.Constant_str ⟨.str x, H, I.tok _, ⟨_, rfl⟩, h⟩

/-- a global name of the def -/
def Gl (X : Cx) (x : Str) : Prop := X.env.kindOf x = some .globalImplicit
theorem ld_glob {E : Value → Shared → Prop} {pins : List (Addr × Obj)} {s : Shared} {σ : St} {H : Hp} {x : Str} {u : Value} {pos : Pos} {Q : Value → Shared → Prop} (I : Inv X pins σ H s) (hg : Gl X x) (hm : X.mg x = some u) (h : Q u s)
    (hd : (x == ("__debug__" : Str)) = false := by decide) : wpAny (model X.prog X.w) X.A (eval (.Name x pos) X.env) Q E s :=
  Calls.Name_function_global I.ok.kind hg (Calls.loadGlobal_global (by rw [I.ok.glob]; exact I.mod.glob.keeps I.bk) hm h) hd
theorem ld_blt {E : Value → Shared → Prop} {pins : List (Addr × Obj)} {s : Shared} {σ : St} {H : Hp} {x : Str} {u : Value} {pos : Pos} {Q : Value → Shared → Prop} (I : Inv X pins σ H s) (hg : Gl X x) (hm : X.mg x = none) (hv : bootBuiltins x = some u) (h : Q u s)
    (hn : x ≠ "__name__" := by decide) (hd : (x == ("__debug__" : Str)) = false := by decide) : wpAny (model X.prog X.w) X.A (eval (.Name x pos) X.env) Q E s := by
  obtain ⟨mb, h1, h2⟩ := I.mod.blt
  exact Calls.Name_function_global I.ok.kind hg (Calls.loadGlobal_builtin (by rw [I.ok.glob]; exact I.mod.glob.keeps I.bk) hm (by rw [I.ok.blt]; exact h1.keeps I.bk) ((h2 x hn).trans hv) h) hd
/-- a module's constant, a class, a function, as a value -/
theorem pe_glob {x : Str} {v : V} {u : Value} {pos : Pos} (hg : Gl X x) (hm : X.mg x = some u) (r : RelV v u) (hd : (x == ("__debug__" : Str)) = false := by decide) : PE X (.Name x pos) (tC v) :=
  fun _ _ _ H _ I h => ld_glob I hg hm ⟨v, H, I, r, h⟩ hd
theorem pe_bltn {x : Str} {v : V} {u : Value} {pos : Pos} (hg : Gl X x) (hm : X.mg x = none) (hv : bootBuiltins x = some u) (r : RelV v u) (hn : x ≠ "__name__" := by decide) (hd : (x == ("__debug__" : Str)) = false := by decide) : PE X (.Name x pos) (tC v) :=
  fun _ _ _ H _ I h => ld_blt I hg hm hv ⟨v, H, I, r, h⟩ hn hd

/-! ### arithmetic -/
/-- two ints -/
def t2I (ta tb : TE) (k : Int → Int → Hp → Prop) : St → Hp → Prop := fun σ H => ta σ H fun x H1 => tb σ H1 fun y H2 => ∃ i j, x = .int i ∧ y = .int j ∧ k i j H2
def tAdd (ta tb : TE) : TE := fun σ H Q => t2I ta tb (fun i j H2 => Q (.int (i + j)) H2) σ H
def tSub (ta tb : TE) : TE := fun σ H Q => t2I ta tb (fun i j H2 => Q (.int (i - j)) H2) σ H
/-- the left factor below 2^64 -/
def tMul (ta tb : TE) : TE := fun σ H Q => t2I ta tb (fun i j H2 => (-(2 ^ 64) < i ∧ i < 2 ^ 64) ∧ Q (.int (i * j)) H2) σ H
variable {a b : Expr} {ta tb : TE} {pos : Pos}
theorem pe_add (ha : PE X a ta) (hb : PE X b tb) : PE X (.BinOp a .Add b pos) (tAdd ta tb) := by
  intro pins s σ H Q I h
  refine wpAny_BinOp (bin ha hb I h fun v u s2 x y H2 I2 rx ry q => ?_)
  obtain ⟨i, j, rfl, rfl, q⟩ := q
  obtain ⟨t, rfl⟩ := rx
  obtain ⟨t', rfl⟩ := ry
  exact add_int ⟨.int _, H2, I2.tok _, ⟨_, rfl⟩, q⟩
theorem pe_sub (ha : PE X a ta) (hb : PE X b tb) : PE X (.BinOp a .Sub b pos) (tSub ta tb) := by
  intro pins s σ H Q I h
  refine wpAny_BinOp (bin ha hb I h fun v u s2 x y H2 I2 rx ry q => ?_)
  obtain ⟨i, j, rfl, rfl, q⟩ := q
  obtain ⟨t, rfl⟩ := rx
  obtain ⟨t', rfl⟩ := ry
  exact sub_int ⟨.int _, H2, I2.tok _, ⟨_, rfl⟩, q⟩
theorem pe_mul (ha : PE X a ta) (hb : PE X b tb) : PE X (.BinOp a .Mult b pos) (tMul ta tb) := by
  intro pins s σ H Q I h
  refine wpAny_BinOp (bin ha hb I h fun v u s2 x y H2 I2 rx ry q => ?_)
  obtain ⟨i, j, rfl, rfl, ⟨q1, q2⟩, q⟩ := q
  obtain ⟨t, rfl⟩ := rx
  obtain ⟨t', rfl⟩ := ry
  exact mul_int ⟨.int _, H2, I2.tok _, ⟨_, rfl⟩, q⟩ (.of_left (intBits_le_64 q1 q2))

/-! ### comparisons -/
def PC (X : Cx) (op : CmpOp) (a b : Expr) (t : TE) : Prop :=
  ∀ (pins : List (Addr × Obj)) (s : Shared) (σ : St) (H : Hp) (Q : VK), Inv X pins σ H s → t σ H Q →
    wpAny (model X.prog X.w) X.A (eval a X.env) (fun v s₁ => wpAny (model X.prog X.w) X.A (eval b X.env) (fun u s₂ => wpAny (model X.prog X.w) X.A (compareOp op v u) (EP X pins σ Q) X.xe s₂) X.xe s₁) X.xe s
theorem nobehind (b : Expr) {op : CmpOp} (h : op ≠ .In) (h2 : op ≠ .NotIn) : behindInMarks op b = false := by
  have e1 : (op == CmpOp.In) = false := by cases op <;> first | rfl | exact absurd rfl h
  have e2 : (op == CmpOp.NotIn) = false := by cases op <;> first | rfl | exact absurd rfl h2
  cases b <;> simp [behindInMarks, e1, e2]
def tCmp (p : Int → Int → Bool) (ta tb : TE) : TE := fun σ H Q => t2I ta tb (fun i j H2 => Q (.bl (p i j)) H2) σ H
abbrev tLt : TE → TE → TE := tCmp fun i j => decide (i < j)
abbrev tLe : TE → TE → TE := tCmp fun i j => decide (i ≤ j)
abbrev tGt : TE → TE → TE := tCmp fun i j => decide (j < i)
abbrev tGe : TE → TE → TE := tCmp fun i j => decide (j ≤ i)
abbrev tEqI : TE → TE → TE := tCmp fun i j => decide (i = j)
abbrev tNeI : TE → TE → TE := tCmp fun i j => !decide (i = j)
/-- a comparison of two ints, by its rule -/
theorem pc_int {op : CmpOp} {p : Int → Int → Bool} (ha : PE X a ta) (hb : PE X b tb)
    (rule : ∀ (i j : Int) (t u : Tok) (Q : Value → Shared → Prop) (s : Shared), Q (.bool (p i j)) s → wpAny (model X.prog X.w) X.A (compareOp op (.int i t) (.int j u)) Q X.xe s) : PC X op a b (tCmp p ta tb) := by
  intro pins s σ H Q I h
  refine bin ha hb I h fun v u s2 x y H2 I2 rx ry q => ?_
  obtain ⟨i, j, rfl, rfl, q⟩ := q
  obtain ⟨t, rfl⟩ := rx
  obtain ⟨t', rfl⟩ := ry
  exact rule i j t t' _ s2 ⟨.bl _, H2, I2, rfl, q⟩
theorem pc_lt (ha : PE X a ta) (hb : PE X b tb) : PC X .Lt a b (tLt ta tb) := pc_int ha hb fun _ _ _ _ _ _ h => lt_int h
theorem pc_le (ha : PE X a ta) (hb : PE X b tb) : PC X .LtE a b (tLe ta tb) := pc_int ha hb fun _ _ _ _ _ _ h => le_int h
theorem pc_gt (ha : PE X a ta) (hb : PE X b tb) : PC X .Gt a b (tGt ta tb) := pc_int ha hb fun _ _ _ _ _ _ h => gt_int h
theorem pc_ge (ha : PE X a ta) (hb : PE X b tb) : PC X .GtE a b (tGe ta tb) := pc_int ha hb fun _ _ _ _ _ _ h => ge_int h
theorem pc_eqI (ha : PE X a ta) (hb : PE X b tb) : PC X .Eq a b (tEqI ta tb) := pc_int ha hb fun _ _ _ _ _ _ h => eq_int (by rw [Bool.beq_eq_decide_eq]; exact h)
theorem pc_neI (ha : PE X a ta) (hb : PE X b tb) : PC X .NotEq a b (tNeI ta tb) := pc_int ha hb fun _ _ _ _ _ _ h => ne_int (by rw [bne, Bool.beq_eq_decide_eq]; exact h)
/-- is None -/
def tIsN (ta : TE) : TE := fun σ H Q => ta σ H fun x H1 => Q (.bl (decide (x = .non))) H1
def tNotN (ta : TE) : TE := fun σ H Q => ta σ H fun x H1 => Q (.bl (!decide (x = .non))) H1
theorem RelV.none_iff {x : V} {v : Value} (r : RelV x v) : (v == Value.none) = decide (x = .non) := by
  cases x with
  | non => cases r; rfl
  | bl _ => cases r; rfl
  | int _ => obtain ⟨t, rfl⟩ := r; rfl
  | str _ => obtain ⟨t, rfl⟩ := r; rfl
  | byt _ => obtain ⟨t, rfl⟩ := r; rfl
  | flt _ => obtain ⟨t, rfl⟩ := r; rfl
  | ref _ => cases r; rfl
  | ty _ => cases r; rfl
theorem pc_isN {j pos'} (ha : PE X a ta) : PC X .Is a (.Constant .none j pos') (tIsN ta) := by
  intro pins s σ H Q I h
  refine thn (ha pins s σ H _ I h) fun v s1 ⟨x, H1, I1, r1, q1⟩ => ?_
  exact Constant_none (is_none_gen ⟨.bl _, H1, I1, by rw [r1.none_iff]; rfl, q1⟩)
theorem pc_notN {j pos'} (ha : PE X a ta) : PC X .IsNot a (.Constant .none j pos') (tNotN ta) := by
  intro pins s σ H Q I h
  refine thn (ha pins s σ H _ I h) fun v s1 ⟨x, H1, I1, r1, q1⟩ => ?_
  exact Constant_none (isnot_none_gen ⟨.bl _, H1, I1, by rw [r1.none_iff]; rfl, q1⟩)
/-- a comparison as a value, as a test -/
def tB (t : TE) : TT := fun σ H Q => t σ H fun x H1 => ∃ c, x = .bl c ∧ Q c H1
theorem pe_cmp {op : CmpOp} {t : TE} (h : PC X op a b t) (h1 : behindInMarks op b = false := by first | exact nobehind _ (by decide) (by decide) | rfl) : PE X (.Compare a [op] [b] pos) t := fun pins s σ H Q I hw => wpAny_Compare1 (h pins s σ H Q I hw) h1
theorem pt_cmp {op : CmpOp} {t : TE} (h : PC X op a b t) (h1 : behindInMarks op b = false := by first | exact nobehind _ (by decide) (by decide) | rfl) : PT X (.Compare a [op] [b] pos) (tB t) := by
  intro pins s σ H Q I hw
  refine wpAny_isTrue_Compare1 (thn (h pins s σ H _ I hw) fun v s1 h1 => thn h1 fun u s2 h2 => thn h2 fun c s3 ⟨x, H1, I1, r1, q1⟩ => ?_) h1
  obtain ⟨d, rfl, q⟩ := q1
  cases r1
  exact wpAny_truthy_bool ⟨H1, I1, q⟩
/-- an expression whose value is a bool, as a test -/
theorem pt_val {e : Expr} {t : TE} (h : PE X e t) (he : ∀ whole, isTrue e X.env whole = (do let v ← whole; standAt e.pos; holding [v] (truthy v)) := by intro _; rfl) : PT X e (tB t) := by
  intro pins s σ H Q I hw
  refine isTrue_plain (thn (h pins s σ H _ I hw) fun v s1 ⟨x, H1, I1, r1, q1⟩ => ?_) (he _)
  obtain ⟨d, rfl, q⟩ := q1
  cases r1
  exact wpAny_truthy_bool ⟨H1, I1, q⟩

/-! ### and, or, not -/
variable {tA tB' : TT} {rest : List Expr}
def tAnd (t u : TT) : TT := fun σ H Q => t σ H fun c H1 => if c = true then u σ H1 Q else Q false H1
def tOr (t u : TT) : TT := fun σ H Q => t σ H fun c H1 => if c = true then Q true H1 else u σ H1 Q
def tNot (t : TT) : TT := fun σ H Q => t σ H fun c H1 => Q (!c) H1
theorem pw_and1 (ha : PT X a tA) : PW X (.BoolOp .And [a] pos) tA := by
  intro wh pins s σ H Q I h
  refine isTrue_and (thn (ha pins s σ H Q I h) fun c s1 e => ?_)
  cases c with
  | true => exact isTrue_and_nil e
  | false => exact e
theorem pw_or1 (ha : PT X a tA) : PW X (.BoolOp .Or [a] pos) tA := by
  intro wh pins s σ H Q I h
  refine isTrue_or (thn (ha pins s σ H Q I h) fun c s1 e => ?_)
  cases c with
  | false => exact isTrue_or_nil e
  | true => exact e
theorem pw_and (ha : PT X a tA) (hb : PW X (.BoolOp .And (b :: rest) pos) tB') : PW X (.BoolOp .And (a :: b :: rest) pos) (tAnd tA tB') := by
  intro wh pins s σ H Q I h
  refine isTrue_and (thn (ha pins s σ H _ I h) fun c s1 ⟨H1, I1, q1⟩ => ?_)
  cases c with
  | true => exact hb wh pins s1 σ H1 Q I1 q1
  | false => exact ⟨H1, I1, q1⟩
theorem pw_or (ha : PT X a tA) (hb : PW X (.BoolOp .Or (b :: rest) pos) tB') : PW X (.BoolOp .Or (a :: b :: rest) pos) (tOr tA tB') := by
  intro wh pins s σ H Q I h
  refine isTrue_or (thn (ha pins s σ H _ I h) fun c s1 ⟨H1, I1, q1⟩ => ?_)
  cases c with
  | true => exact ⟨H1, I1, q1⟩
  | false => exact hb wh pins s1 σ H1 Q I1 q1
theorem pt_not (ha : PT X a tA) : PT X (.UnaryOp .Not a pos) (tNot tA) := by
  intro pins s σ H Q I h
  exact isTrue_not (ha pins s σ H (fun c H1 => Q (!c) H1) I h)
/-- .. as values (bools) -/
def tAndV (ta tb : TE) : TE := fun σ H Q => ta σ H fun x H1 => ∃ c, x = .bl c ∧ if c = true then tb σ H1 Q else Q (.bl false) H1
def tOrV (ta tb : TE) : TE := fun σ H Q => ta σ H fun x H1 => ∃ c, x = .bl c ∧ if c = true then Q (.bl true) H1 else tb σ H1 Q
def tNotV (ta : TE) : TE := fun σ H Q => ta σ H fun x H1 => ∃ c, x = .bl c ∧ Q (.bl (!c)) H1
theorem pe_one {op} {t : TE} (h : PE X a t) : PE X (.BoolOp op [a] pos) t := fun pins s σ H Q I hw => BoolOp_one (h pins s σ H Q I hw)
theorem pe_and (ha : PE X a ta) (hb : PE X (.BoolOp .And (b :: rest) pos) tb) : PE X (.BoolOp .And (a :: b :: rest) pos) (tAndV ta tb) := by
  intro pins s σ H Q I h
  refine BoolOp_and (thn (ha pins s σ H _ I h) fun v s1 ⟨x, H1, I1, r1, q1⟩ => ?_)
  obtain ⟨c, rfl, q1⟩ := q1
  cases r1
  refine wpAny_truthy_bool ?_
  cases c with
  | true => exact hb pins s1 σ H1 Q I1 q1
  | false => exact ⟨.bl false, H1, I1, rfl, q1⟩
theorem pe_or (ha : PE X a ta) (hb : PE X (.BoolOp .Or (b :: rest) pos) tb) : PE X (.BoolOp .Or (a :: b :: rest) pos) (tOrV ta tb) := by
  intro pins s σ H Q I h
  refine BoolOp_or (thn (ha pins s σ H _ I h) fun v s1 ⟨x, H1, I1, r1, q1⟩ => ?_)
  obtain ⟨c, rfl, q1⟩ := q1
  cases r1
  refine wpAny_truthy_bool ?_
  cases c with
  | false => exact hb pins s1 σ H1 Q I1 q1
  | true => exact ⟨.bl true, H1, I1, rfl, q1⟩
theorem pe_not (ha : PE X a ta) : PE X (.UnaryOp .Not a pos) (tNotV ta) := by
  intro pins s σ H Q I h
  refine UnaryOp_ (thn (ha pins s σ H _ I h) fun v s1 ⟨x, H1, I1, r1, q1⟩ => ?_)
  obtain ⟨c, rfl, q1⟩ := q1
  cases r1
  exact not_of (wpAny_truthy_bool ⟨.bl (!c), H1, I1, rfl, q1⟩)
/-- a if t else b -/
def tIf (t : TT) (ta tb : TE) : TE := fun σ H Q => t σ H fun c H1 => if c = true then ta σ H1 Q else tb σ H1 Q
theorem pe_ifExp {c : Expr} (hc : PT X c tA) (ha : PE X a ta) (hb : PE X b tb) : PE X (.IfExp c a b pos) (tIf tA ta tb) := by
  intro pins s σ H Q I h
  refine wpAny_IfExp (thn (hc pins s σ H _ I h) fun d s1 ⟨H1, I1, q1⟩ => ?_)
  cases d with
  | true => exact ha pins s1 σ H1 Q I1 q1
  | false => exact hb pins s1 σ H1 Q I1 q1
end
end L2

namespace L2
open PySem PySem.Spec PyProof.Rows

/-! ### a list, a tuple that is read: tracked, frozen, or an object of the module -/
def SqL (K : PySem.W.Frag) (H : Hp) (a : Addr) (xs : List V) : Prop :=
  Rd H a (.lst xs) ∨
    ∃ (o : Obj) (its : Array Value) (n : Nat), K.lookup a = some o ∧ o.cls = .type "list" ∧ o.dict = none ∧ o.data = .seq its n ∧ its.size ≤ sizeLine ∧ Vals xs its.toList
def SqT (K : PySem.W.Frag) (H : Hp) (a : Addr) (xs : List V) : Prop :=
  Rd H a (.tup xs) ∨
    ∃ (o : Obj) (its : Array Value) (n : Nat), K.lookup a = some o ∧ o.cls = .type "tuple" ∧ o.data = .seq its n ∧ its.size ≤ sizeLine ∧ Vals xs its.toList
def absV : Value → Option V
  | .none => some .non
  | .bool b => some (.bl b)
  | .int i _ => some (.int i)
  | .str x _ => some (.str x)
  | .bytes b _ => some (.byt b)
  | .float b _ => some (.flt b)
  | .ref a => some (.ref a)
  | .type n => some (.ty n)
  | _ => none
theorem RelV.abs {x : V} {u : Value} (r : RelV x u) : absV u = some x := by
  cases x with
  | non => cases r; rfl
  | bl _ => cases r; rfl
  | int _ => obtain ⟨t, rfl⟩ := r; rfl
  | str _ => obtain ⟨t, rfl⟩ := r; rfl
  | byt _ => obtain ⟨t, rfl⟩ := r; rfl
  | flt _ => obtain ⟨t, rfl⟩ := r; rfl
  | ref _ => cases r; rfl
  | ty _ => cases r; rfl
theorem RelV.inj {x y : V} {u : Value} (r : RelV x u) (q : RelV y u) : x = y := Option.some.inj (r.abs.symm.trans q.abs)
theorem Vals.inj : ∀ {xs ys : List V} {us : List Value}, Vals xs us → Vals ys us → xs = ys
  | _, _, _, .nil, .nil => rfl
  | _, _, _, .cons r t, .cons r' t' => by rw [r.inj r', Vals.inj t t']
section
variable {X : Cx} {pins : List (Addr × Obj)} {σ : St} {H : Hp} {s : Shared} {a : Addr} {xs ys : List V}
theorem SqL.of {K : PySem.W.Frag} (h : H a = some (.lst xs)) : SqL K H a xs := .inl (.inl h)
theorem SqT.of {K : PySem.W.Frag} (h : H a = some (.tup xs)) : SqT K H a xs := .inl (.inl h)
theorem Inv.list (I : Inv X pins σ H s) (h : SqL X.K H a xs) : ∃ its : List Value, Vals xs its ∧ PlainL s.heap a its.toArray ∧ xs.length ≤ sizeLine := by
  rcases h with h | ⟨o, its, n, hk, hc, hd, hs, hz, r⟩
  · obtain ⟨z, its, n, r, e⟩ := h.ok I.hok
    exact ⟨its, r, ⟨_, n, e, rfl, rfl, rfl⟩, z⟩
  · refine ⟨its.toList, r, ⟨o, n, I.kIn a o hk, hc, hd, by simpa using hs⟩, ?_⟩
    have e := r.length
    simp only [Array.length_toList] at e
    omega
theorem Inv.tuple (I : Inv X pins σ H s) (h : SqT X.K H a xs) : ∃ its : List Value, Vals xs its ∧ IsTup s.heap a its.toArray ∧ xs.length ≤ sizeLine := by
  rcases h with h | ⟨o, its, n, hk, hc, hs, hz, r⟩
  · obtain ⟨z, its, r, p⟩ := h.ok I.hok
    exact ⟨its, r, p, z⟩
  · refine ⟨its.toList, r, ⟨o, I.kIn a o hk, hc, n, by simpa using hs⟩, ?_⟩
    have e := r.length
    simp only [Array.length_toList] at e
    omega
theorem Inv.list_inj (I : Inv X pins σ H s) (h : SqL X.K H a xs) (h' : SqL X.K H a ys) : xs = ys := by
  obtain ⟨its, r, ⟨o, n, e, _, _, d⟩, _⟩ := I.list h
  obtain ⟨its', r', ⟨o', n', e', _, _, d'⟩, _⟩ := I.list h'
  rw [e] at e'; cases e'
  rw [d] at d'
  injection d' with d1 _
  have : its = its' := by simpa using congrArg Array.toList d1
  subst this
  exact r.inj r'
theorem Inv.tuple_inj (I : Inv X pins σ H s) (h : SqT X.K H a xs) (h' : SqT X.K H a ys) : xs = ys := by
  obtain ⟨its, r, ⟨o, e, _, n, d⟩, _⟩ := I.tuple h
  obtain ⟨its', r', ⟨o', e', _, n', d'⟩, _⟩ := I.tuple h'
  rw [e] at e'; cases e'
  rw [d] at d'
  injection d' with d1 _
  have : its = its' := by simpa using congrArg Array.toList d1
  subst this
  exact r.inj r'
end

/-! ### another wish about exceptions -/
abbrev Cx.wish (X : Cx) (E : Value → Shared → Prop) : Cx := { X with xe := E }
/-- no exception leaves -/
abbrev Cx.nox (X : Cx) : Cx := X.wish fun _ _ => False
theorem Cx.Ok.wish {X : Cx} (ok : X.Ok) (E : Value → Shared → Prop) : (X.wish E).Ok :=
  ⟨ok.mod, ok.kind, ok.glob, ok.blt, ok.above, ok.inj, ok.has, ok.cab, ok.hd, ok.frames, ok.stk, ok.exf, ok.bs, ok.bsz, ok.noex, ok.exfs, ok.funs, ok.frf⟩
theorem Cx.Ok.unwish {X : Cx} {E : Value → Shared → Prop} (ok : (X.wish E).Ok) : X.Ok :=
  ⟨ok.mod, ok.kind, ok.glob, ok.blt, ok.above, ok.inj, ok.has, ok.cab, ok.hd, ok.frames, ok.stk, ok.exf, ok.bs, ok.bsz, ok.noex, ok.exfs, ok.funs, ok.frf⟩
section
variable {X : Cx} {pins : List (Addr × Obj)} {σ : St} {H : Hp} {s : Shared} {E : Value → Shared → Prop}
theorem Inv.wish (I : Inv X pins σ H s) (E : Value → Shared → Prop) : Inv (X.wish E) pins σ H s := ⟨I.ok.wish E, I.os, I.bare, I.base, I.loc, I.cell, I.free, I.freeC, I.pin, I.hok, I.len⟩
theorem Inv.unwish (I : Inv (X.wish E) pins σ H s) : Inv X pins σ H s := ⟨I.ok.unwish, I.os, I.bare, I.base, I.loc, I.cell, I.free, I.freeC, I.pin, I.hok, I.len⟩
theorem SP.unwish {D : Ends} {f : Flow} {s' : Shared} (h : SP (X.wish E) pins D f s') : SP X pins D f s' := by
  cases f with
  | next => obtain ⟨σ', H', I, q⟩ := h; exact ⟨σ', H', I.unwish, q⟩
  | brk => obtain ⟨σ', H', I, q⟩ := h; exact ⟨σ', H', I.unwish, q⟩
  | cont => obtain ⟨σ', H', I, q⟩ := h; exact ⟨σ', H', I.unwish, q⟩
  | ret u => obtain ⟨v, σ', H', I, r, q⟩ := h; exact ⟨v, σ', H', I.unwish, r, q⟩
theorem PE.nox {e : Expr} {t : TE} (h : PE X.nox e t) : PE X e t := fun pins s σ H Q I hw =>
  wpAny_mono (h pins s σ H Q (I.wish _) hw) (fun _ _ ⟨v, H', I', r, q⟩ => ⟨v, H', I'.unwish, r, q⟩) fun _ _ z => False.elim z
theorem PT.nox {e : Expr} {t : TT} (h : PT X.nox e t) : PT X e t := fun pins s σ H Q I hw =>
  wpAny_mono (h pins s σ H Q (I.wish _) hw) (fun _ _ ⟨H', I', q⟩ => ⟨H', I'.unwish, q⟩) fun _ _ z => False.elim z
theorem PSs.nox {st : List Stmt} {t : TS} (h : PSs X.nox st t) : PSs X st t := fun pins s σ H D I hw =>
  wpAny_mono (h pins s σ H D (I.wish _) hw) (fun _ _ q => q.unwish) fun _ _ z => False.elim z
end

/-! ### blocks and small statements -/
section
variable {X : Cx} {st : Stmt} {rest : List Stmt} {t u : TS} {e : Expr} {te : TE} {pos : Pos}
def tNext : TS := fun D σ H => D.nx σ H
def tSeq (t u : TS) : TS := fun D σ H => t { D with nx := u D } σ H
theorem pss_nil : PSs X [] tNext := fun _ _ σ H _ I h => wpAny_execs_nil ⟨σ, H, I, h⟩
theorem pss_cons (h1 : PS X st t) (h2 : PSs X rest u) : PSs X (st :: rest) (tSeq t u) := by
  intro pins s σ H D I h
  refine wpAny_execs_cons (thn (h1 pins s σ H { D with nx := u D } I h) fun f s1 q => ?_)
  cases f with
  | next =>
    obtain ⟨σ', H', I', q⟩ := q
    exact h2 pins s1 σ' H' D I' q
  | ret v => exact q
  | brk => exact q
  | cont => exact q
theorem pss_one (h1 : PS X st t) : PSs X [st] t := by
  intro pins s σ H D I h
  refine wpAny_execs_cons (thn (h1 pins s σ H D I h) fun f s1 q => ?_)
  cases f with
  | next => exact wpAny_execs_nil q
  | ret v => exact q
  | brk => exact q
  | cont => exact q
def tBreak : TS := fun D σ H => D.bk σ H
def tCont : TS := fun D σ H => D.ct σ H
theorem ps_pass : PS X (.Pass pos) tNext := fun _ _ σ H _ I h => wpAny_Pass ⟨σ, H, I, h⟩
theorem ps_break : PS X (.Break pos) tBreak := fun _ _ σ H _ I h => wpAny_Break ⟨σ, H, I, h⟩
theorem ps_continue : PS X (.Continue pos) tCont := fun _ _ σ H _ I h => wpAny_Continue ⟨σ, H, I, h⟩
/-- in a def's body nothing is shown -/
theorem Inv.quiet {pins : List (Addr × Obj)} {σ : St} {H : Hp} {s : Shared} (I : Inv X pins σ H s) : interactive X.env = false := by simp [interactive, I.ok.kind]
/-- a docstring -/
theorem ps_doc {x j pos pos'} : PS X (.Expr (.Constant (.str x) j pos) pos') tNext := fun _ s σ H _ I h => wpAny_Expr (Calls.Constant_str (show SP X _ _ .next { s with toks := s.toks + 1 } from ⟨σ, H, I.tok _, h⟩)) I.quiet
/-- an expression whose value is dropped -/
def tDrop (te : TE) : TS := fun D σ H => te σ H fun _ H1 => D.nx σ H1
theorem ps_expr (he : PE X e te) (hs : swapsWith e none pos.line X.env = pure false := by rfl) : PS X (.Expr e pos) (tDrop te) := by
  intro pins s σ H D I h
  exact wpAny_Expr_any (thn (he pins s σ H _ I h) fun v s1 ⟨x, H1, I1, r1, q1⟩ => ⟨σ, H1, I1, q1⟩) I.quiet hs
def tRet (te : TE) : TS := fun D σ H => te σ H D.rt
theorem ps_ret (he : PE X e te) : PS X (.Return (some e) pos) (tRet te) := by
  intro pins s σ H D I h
  exact wpAny_Return_some (thn (he pins s σ H _ I h) fun v s1 ⟨x, H1, I1, r1, q1⟩ => ⟨x, σ, H1, I1, r1, q1⟩)
def tRetN : TS := fun D _ H => D.rt .non H
theorem ps_retN : PS X (.Return none pos) tRetN := fun _ _ σ H _ I h => wpAny_Return_none ⟨.non, σ, H, I, rfl, h⟩
def tIfS (c : TT) (t u : TS) : TS := fun D σ H => c σ H fun b H1 => if b = true then t D σ H1 else u D σ H1
theorem ps_if {c : Expr} {a b : List Stmt} {tc : TT} (hc : PT X c tc) (ha : PSs X a t) (hb : PSs X b u) : PS X (.If c a b pos) (tIfS tc t u) := by
  intro pins s σ H D I h
  refine wpAny_If (thn (hc pins s σ H _ I h) fun d s1 ⟨H1, I1, q1⟩ => ?_)
  cases d with
  | true => exact ha pins s1 σ H1 D I1 q1
  | false => exact hb pins s1 σ H1 D I1 q1
/-- code that the proof never comes to -/
def tNever : TS := fun _ _ _ => False
theorem ps_never : PS X st tNever := fun _ _ _ _ _ _ h => h.elim
theorem pss_never {sts : List Stmt} : PSs X sts tNever := fun _ _ _ _ _ _ h => h.elim
end

/-! ### targets -/
abbrev TG := V → St → Hp → (St → Hp → Prop) → Prop
abbrev TGs := List V → St → Hp → (St → Hp → Prop) → Prop
def PG (X : Cx) (target : Expr) (t : TG) : Prop :=
  ∀ (pins : List (Addr × Obj)) (s : Shared) (σ : St) (H : Hp) (v : V) (u : Value) (Q : St → Hp → Prop), Inv X pins σ H s → RelV v u → t v σ H Q →
    wpAny (model X.prog X.w) X.A (assign target X.env u) (fun _ s' => ∃ σ' H', Inv X pins σ' H' s' ∧ Q σ' H') X.xe s
/-- several targets, one after another -/
def PGs (X : Cx) (ts : List Expr) (t : TGs) : Prop :=
  ∀ (pins : List (Addr × Obj)) (s : Shared) (σ : St) (H : Hp) (vs : List V) (us : List Value) (Q : St → Hp → Prop), Inv X pins σ H s → Vals vs us → t vs σ H Q →
    wpAny (model X.prog X.w) X.A (assignInOrder ((assignEach ts X.env).map (·.2)) us) (fun _ s' => ∃ σ' H', Inv X pins σ' H' s' ∧ Q σ' H') X.xe s
/-- o[i] = v, by values -/
abbrev TSet := V → V → V → Hp → (Hp → Prop) → Prop
def PSet (X : Cx) (t : TSet) : Prop :=
  ∀ (pins : List (Addr × Obj)) (s : Shared) (σ : St) (H : Hp) (o i v : V) (ov iv u : Value) (Q : Hp → Prop), Inv X pins σ H s → RelV o ov → RelV i iv → RelV v u → t o i v H Q →
    wpAny (model X.prog X.w) X.A (setItem ov iv u) (fun _ s' => ∃ H', Inv X pins σ H' s' ∧ Q H') X.xe s
/-- a op= b, by values -/
abbrev TIp := V → V → Hp → VK → Prop
def PIp (X : Cx) (op : Operator) (t : TIp) : Prop :=
  ∀ (pins : List (Addr × Obj)) (s : Shared) (σ : St) (H : Hp) (x y : V) (v u : Value) (Q : VK), Inv X pins σ H s → RelV x v → RelV y u → t x y H Q →
    wpAny (model X.prog X.w) X.A (inplaceOp op v u) (EP X pins σ Q) X.xe s
section
variable {X : Cx} {pos : Pos}
def gName (i : Nat) : TG := fun v σ H Q => Q (σ.set i (some v)) H
theorem pg_name {i : Nat} {x : Str} (hN : X.N.Nodup) (hi : X.N[i]? = some x) (hx : Loc X.env.scope x) (hf : X.fn x = true ∨ X.env.scope.names.lookup x = some .local := by first | exact .inl rfl | exact .inr rfl | assumption) : PG X (.Name x pos) (gName i) := by
  intro pins s σ H v u Q I r h
  exact wpAny_assign_Name (store_ok I hN hi hx r (fun s' I' => ⟨_, H, I', h⟩) hf)
def gNil : TGs := fun vs σ H Q => vs = [] ∧ Q σ H
def gCons (t : TG) (u : TGs) : TGs := fun vs σ H Q => ∃ v r, vs = v :: r ∧ t v σ H fun σ' H' => u r σ' H' Q
theorem pgs_nil : PGs X [] gNil := by
  intro pins s σ H vs us Q I r h
  obtain ⟨e, h⟩ := h
  subst e
  cases r
  exact assignInOrder_nil ⟨σ, H, I, h⟩
theorem pgs_cons {e : Expr} {es : List Expr} {t : TG} {u : TGs} (h1 : PG X e t) (h2 : PGs X es u)
    (hs : (assignEach (e :: es) X.env).map (·.2) = assign e X.env :: (assignEach es X.env).map (·.2) := by rfl) : PGs X (e :: es) (gCons t u) := by
  intro pins s σ H vs us Q I r h
  obtain ⟨v, vr, e1, h⟩ := h
  subst e1
  cases r with
  | cons r rr =>
    rw [hs]
    refine assignInOrder_cons (thn (h1 pins s σ H _ _ _ I r h) fun _ s1 ⟨σ1, H1, I1, q1⟩ => ?_)
    exact h2 pins s1 σ1 H1 _ _ Q I1 rr q1
/-- (a, b, ..) = a tuple of that length -/
def gTup (K : PySem.W.Frag) (n : Nat) (t : TGs) : TG := fun v σ H Q => ∃ a xs, v = .ref a ∧ SqT K H a xs ∧ xs.length = n ∧ t xs σ H Q
theorem pg_tup {es : List Expr} {k : Nat} {t : TGs} {n : Nat} (hc : X.calm = true) (h : PGs X es t)
    (hn : (assignEach es X.env).length = n := by rfl) (hst : (assignEach es X.env).findIdx? (·.1) = none := by rfl) : PG X (.Tuple es k pos) (gTup X.K n t) := by
  intro pins s σ H v u Q I r hw
  obtain ⟨a, xs, e1, hq, hl, hw⟩ := hw
  subst e1
  cases r
  obtain ⟨its, rv, ht, hz⟩ := I.tuple hq
  refine assign_Tuple_tuple (I.ok.hd hc) ht (by simp [hn, ← hl, rv.length]) hst fun h' hx => ?_
  have I1 : Inv X pins σ H { s with heap := h' } := I.kept (t' := s.toks) fun b o e => hx b o (Nat.ne_of_lt (Heap.lt_size e)) e
  exact h pins _ σ H xs _ Q I1 (by simpa using rv) hw
/-- o[i] = .. -/
def gSub (to ti : TE) (t : TSet) : TG := fun v σ H Q => to σ H fun o H1 => ti σ H1 fun i H2 => t o i v H2 fun H3 => Q σ H3
theorem pg_sub {o i : Expr} {to ti : TE} {t : TSet} (ho : PE X o to) (hi : PE X i ti) (hs : PSet X t)
    (ha : ∀ v, assign (.Subscript o i pos) X.env v = (do
      let ov ← holding [v] (eval o X.env)
      let iv ← holding [v, ov] (eval i X.env)
      standAt pos
      holding [v, ov, iv] (setItem ov iv v)
      release [v, ov, iv] []) := by intro _; rfl) : PG X (.Subscript o i pos) (gSub to ti t) := by
  intro pins s σ H v u Q I r h
  rw [ha]
  refine wpAny_bind (wpAny_holding (thn (ho pins s σ H _ I h) fun ov s1 ⟨x, H1, I1, r1, q1⟩ => ?_))
  refine wpAny_bind (wpAny_holding (thn (hi pins s1 σ H1 _ I1 q1) fun iv s2 ⟨y, H2, I2, r2, q2⟩ => ?_))
  refine wpAny_bind (wpAny_standAt (wpAny_bind (wpAny_holding (thn (hs pins s2 σ H2 x y v ov iv u _ I2 r1 r2 r q2) fun _ s3 ⟨H3, I3, q3⟩ => ?_))))
  exact wpAny_release ⟨σ, H3, I3, q3⟩
/-- target = value -/
def tAsg (te : TE) (g : TG) : TS := fun D σ H => te σ H fun x H1 => g x σ H1 D.nx
theorem ps_asg {tg e : Expr} {te : TE} {g : TG} (he : PE X e te) (hg : PG X tg g) (hs : swapsWithSole [tg] e pos.line X.env = pure false := by rfl) (hw : swappedStores [tg] e X.env = pure none := by rfl)
    (h1 : (assignEach [tg] X.env).map (·.2) = [assign tg X.env] := by rfl) : PS X (.Assign [tg] e pos) (tAsg te g) := by
  intro pins s σ H D I h
  refine wpAny_Assign_stores (thn (he pins s σ H _ I h) fun v s1 ⟨x, H1, I1, r1, q1⟩ => ?_) hs hw
  rw [h1]
  exact thn (hg pins s1 σ H1 x v _ I1 r1 q1) fun _ s2 q => q
/-- name = value -/
theorem ps_set {i : Nat} {x : Str} {e : Expr} {te : TE} {pos' : Pos} (hN : X.N.Nodup) (hi : X.N[i]? = some x) (hx : Loc X.env.scope x) (he : PE X e te) (hs : swapsWith e (some (.Name x pos')) pos.line X.env = pure false := by rfl) (hf : X.fn x = true ∨ X.env.scope.names.lookup x = some .local := by first | exact .inl rfl | exact .inr rfl | assumption) :
    PS X (.Assign [.Name x pos'] e pos) (tAsg te (gName i)) := by
  intro pins s σ H D I h
  refine wpAny_Assign_Name (thn (he pins s σ H _ I h) fun v s1 ⟨y, H1, I1, r1, q1⟩ => ?_) hs
  exact store_ok I1 hN hi hx r1 (fun s2 I2 => ⟨_, H1, I2, q1⟩) hf
/-- a, b = x, y with plain local names: stored from the right; the pair itself is not tracked (the opening rows as in PyProof/Rows/TupAssign.lean:23) -/
def tPar (i j : Nat) (ta : TA) : TS := fun D σ H => ta σ H fun vs H1 => ∃ v w, vs = [v, w] ∧ D.nx ((σ.set i (some v)).set j (some w)) H1
theorem ps_par {i j : Nat} {x y : Str} {a b : Expr} {ta : TA} {px py pt : Pos} {kt k2 pt2} (hc : X.calm = true) (hN : X.N.Nodup) (hi : X.N[i]? = some x) (hj : X.N[j]? = some y) (hij : i ≠ j)
    (hx : X.env.scope.names.lookup x = some .local) (hy : X.env.scope.names.lookup y = some .local) (ha : PA X [a, b] ta)
    (hw : swappedStores [.Tuple [.Name x px, .Name y py] kt pt] (.Tuple [a, b] k2 pt2) X.env = pure (some [x, y]))
    (hs : swapsWithSole [.Tuple [.Name x px, .Name y py] kt pt] (.Tuple [a, b] k2 pt2) pos.line X.env = pure false := by rfl) :
    PS X (.Assign [.Tuple [.Name x px, .Name y py] kt pt] (.Tuple [a, b] k2 pt2) pos) (tPar i j ta) := by
  intro pins s σ H D I h
  rw [exec_Assign_arm]
  refine wpAny_bind (wpAny_standAt ?_)
  rw [hs]
  refine wpAny_bind (wpAny_pure ?_)
  rw [if_neg (by decide)]
  refine wpAny_bind (Tuple_ (thn (ha _ pins s σ H _ I h) fun us s1 ⟨vs, H1, I1, r1, q1⟩ => ?_))
  obtain ⟨v, w, e1, q1⟩ := q1
  subst e1
  obtain ⟨u1, u2, rfl, rv, rw'⟩ : ∃ u1 u2, us = [u1, u2] ∧ RelV v u1 ∧ RelV w u2 := by
    cases r1 with
    | cons p q =>
      cases q with
      | cons p' q' =>
        cases q'
        exact ⟨_, _, rfl, p, p'⟩
  refine wpAny_newObj_type ?_ (by show 2 ≤ sizeLine; decide)
  have I2 : Inv X pins σ H1 { s1 with heap := s1.heap.push { cls := .type "tuple", data := .seq [u1, u2].toArray } } := I1.kept (t' := s1.toks) fun b o e => Heap.get?_push_of_some _ e
  rw [hw]
  refine wpAny_bind (wpAny_pure ?_)
  show wpAny (model X.prog X.w) X.A (do rule "assign.swapped-stores"; let items ← unpackItems (.ref s1.heap.objs.size) 2 none; assignInOrder [fun v => bindName X.env y v, fun v => bindName X.env x v] items.reverse; pure Flow.next) _ _ _
  refine wpAny_bind (wpAny_rule (wpAny_bind (unpackItems_tuple (items := #[u1, u2]) (I.ok.hd hc) (IsTup.new s1.heap _) fun h' hx' => ?_)))
  have I3 := I2.kept (h' := h') (t' := s1.toks) fun b o e => hx' b o (Nat.ne_of_lt (Heap.lt_size e)) e
  show wpAny _ _ (assignInOrder [fun v => bindName X.env y v, fun v => bindName X.env x v] [u2, u1] >>= fun _ => pure Flow.next) _ _ _
  refine wpAny_bind (assignInOrder_cons (wpAny_bindName (store_ok I3 hN hj (.inl hy) rw' (fun s2 I4 => ?_) (.inr hy))))
  refine assignInOrder_cons (wpAny_bindName (store_ok I4 hN hi (.inl hx) rv (fun s3 I5 => assignInOrder_nil (wpAny_pure ?_)) (.inr hx)))
  rw [List.set_comm _ _ (Ne.symm hij)] at I5
  exact ⟨_, H1, I5, q1⟩
/-- name op= e -/
def tAug (i : Nat) (te : TE) (ti : TIp) : TS := fun D σ H => ∃ x, σ[i]? = some (some x) ∧ te σ H fun y H1 => ti x y H1 fun z H2 => D.nx (σ.set i (some z)) H2
theorem ps_aug {i : Nat} {x : Str} {e : Expr} {te : TE} {op : Operator} {ti : TIp} {pos' : Pos} (hN : X.N.Nodup) (hi : X.N[i]? = some x) (hx : Loc X.env.scope x) (he : PE X e te) (ho : PIp X op ti) (hf : X.fn x = true ∨ X.env.scope.names.lookup x = some .local := by first | exact .inl rfl | exact .inr rfl | assumption) :
    PS X (.AugAssign (.Name x pos') op e pos) (tAug i te ti) := by
  intro pins s σ H D I h
  obtain ⟨v, e1, h⟩ := h
  obtain ⟨m, hn, hl⟩ := I.loc
  have vis : Vis X.env.scope x := by rcases hx with k | k; exact .inl k; exact .inr (.inl k)
  obtain ⟨u, r, l⟩ := hl i x v hi e1 vis
  refine wpAny_AugAssign_Name ?_
  have go : wpAny (model X.prog X.w) X.A (eval e X.env) (fun w s₂ => wpAny (model X.prog X.w) X.A (inplaceOp op u w) (fun r s₃ => wpAny (model X.prog X.w) X.A (storeName X.env x r) (fun _ => SP X pins D .next) X.xe s₃) X.xe s₂) X.xe s := by
    refine thn (he pins s σ H _ I h) fun w s1 ⟨y, H1, I1, r1, q1⟩ => ?_
    refine thn (ho pins s1 σ H1 v y u w _ I1 r r1 q1) fun z s2 ⟨zv, H2, I2, r2, q2⟩ => ?_
    exact store_ok I2 hN hi hx r2 (fun s3 I3 => ⟨_, H2, I3, q2⟩) hf
  rcases l with ⟨hk, hm⟩ | ⟨hk, c, hc, hcell⟩
  · exact wpAny_loadName_local I.ok.kind hk hn hm go
  · rcases hk with hk | hk
    · exact wpAny_loadName_cell I.ok.kind hk hc hcell go
    · rcases hx with k | k
      · have : X.env.scope.names.lookup x = some .free := hk
        rw [k] at this; cases this
      · have : X.env.scope.names.lookup x = some .free := hk
        rw [k] at this; cases this
/-- o[i] op= e -/
def tAugS (to ti te : TE) (tget : V → V → Hp → VK → Prop) (tip : TIp) (tset : TSet) : TS := fun D σ H => to σ H fun o H1 => ti σ H1 fun i H2 => tget o i H2 fun x H3 => te σ H3 fun y H4 => tip x y H4 fun z H5 => tset o i z H5 fun H6 => D.nx σ H6
/-- o[i], by values -/
def PGet (X : Cx) (t : V → V → Hp → VK → Prop) : Prop :=
  ∀ (pins : List (Addr × Obj)) (s : Shared) (σ : St) (H : Hp) (o i : V) (ov iv : Value) (Q : VK), Inv X pins σ H s → RelV o ov → RelV i iv → t o i H Q →
    wpAny (model X.prog X.w) X.A (getItem ov iv) (EP X pins σ Q) X.xe s
theorem ps_augS {o i e : Expr} {to ti te : TE} {tget : V → V → Hp → VK → Prop} {tip : TIp} {tset : TSet} {op : Operator} {tpos : Pos} (ho : PE X o to) (hi : PE X i ti) (hg : PGet X tget) (he : PE X e te) (hp : PIp X op tip) (hs : PSet X tset)
    (ha : ∀ ov iv new, augStore i ov iv new = (do holding [new, ov, iv] (setItem ov iv new); release [new, ov, iv] []; pure .next) := by intros; rfl) : PS X (.AugAssign (.Subscript o i tpos) op e pos) (tAugS to ti te tget tip tset) := by
  intro pins s σ H D I h
  refine wpAny_AugAssign_SubscriptAny (thn (ho pins s σ H _ I h) fun ov s1 ⟨x1, H1, I1, r1, q1⟩ => ?_) ha
  refine thn (hi pins s1 σ H1 _ I1 q1) fun iv s2 ⟨x2, H2, I2, r2, q2⟩ => ?_
  refine thn (hg pins s2 σ H2 x1 x2 ov iv _ I2 r1 r2 q2) fun old s3 ⟨x3, H3, I3, r3, q3⟩ => ?_
  refine thn (he pins s3 σ H3 _ I3 q3) fun v s4 ⟨x4, H4, I4, r4, q4⟩ => ?_
  refine thn (hp pins s4 σ H4 x3 x4 old v _ I4 r3 r4 q4) fun new s5 ⟨x5, H5, I5, r5, q5⟩ => ?_
  exact thn (hs pins s5 σ H5 x1 x2 x5 ov iv new _ I5 r1 r2 r5 q5) fun _ s6 ⟨H6, I6, q6⟩ => ⟨σ, H6, I6, q6⟩
/-- ints -/
def ipI (f : Int → Int → Int) : TIp := fun x y H Q => ∃ i j, x = .int i ∧ y = .int j ∧ Q (.int (f i j)) H
theorem ip_add : PIp X .Add (ipI fun i j => i + j) := by
  intro pins s σ H x y v u Q I r1 r2 h
  obtain ⟨i, j, e1, e2, q⟩ := h
  subst e1; subst e2
  obtain ⟨t, rfl⟩ := r1
  obtain ⟨t', rfl⟩ := r2
  exact iadd_int ⟨.int _, H, I.tok _, ⟨_, rfl⟩, q⟩
theorem ip_sub : PIp X .Sub (ipI fun i j => i - j) := by
  intro pins s σ H x y v u Q I r1 r2 h
  obtain ⟨i, j, e1, e2, q⟩ := h
  subst e1; subst e2
  obtain ⟨t, rfl⟩ := r1
  obtain ⟨t', rfl⟩ := r2
  exact isub_int ⟨.int _, H, I.tok _, ⟨_, rfl⟩, q⟩
end

/-! ### while -/
section
variable {X : Cx} {pos : Pos}
/-- the invariant W with its measure -/
def tWhile (c : TT) (tb : TS) : TS := fun D σ H => ∃ W : Nat → St → Hp → Prop, (∃ m, W m σ H) ∧ ∀ m σ H, W m σ H →
  c σ H fun b H1 => if b = true then ∃ N : St → Hp → Prop, (∀ σ' H', N σ' H' → ∃ m', m' < m ∧ W m' σ' H') ∧ tb { D with nx := N, ct := N, bk := D.nx } σ H1 else D.nx σ H1
theorem ps_while {c : Expr} {body : List Stmt} {tc : TT} {tb : TS} (hp : PassesOwn (model X.prog X.w) X.A X.env X.xe) (hc : PT X c tc) (hb : PSs X body tb) : PS X (.While c body [] pos) (tWhile tc tb) := by
  intro pins s σ H D I h
  obtain ⟨W, ⟨m0, w0⟩, turn⟩ := h
  refine wpAny_While (codeAny_whileLoop (fun n s' => ∃ σ' H', Inv X pins σ' H' s' ∧ W n σ' H') ?_ m0 ⟨σ, H, I, w0⟩)
  rintro n s1 ⟨σ1, H1, I1, w1⟩
  refine wpAny_passesOwn hp (thn (hc pins s1 σ1 H1 _ I1 (turn n σ1 H1 w1)) fun b s2 ⟨H2, I2, q2⟩ => ?_)
  cases b with
  | true =>
    obtain ⟨N, hN, q2⟩ := q2
    rw [if_pos rfl]
    refine wpAny_passesOwn hp (thn (hb pins s2 σ1 H2 _ I2 q2) fun f s3 q3 => ?_)
    cases f with
    | next =>
      obtain ⟨σ3, H3, I3, n3⟩ := q3
      obtain ⟨m', hm, w3⟩ := hN σ3 H3 n3
      exact ⟨m', hm, σ3, H3, I3, w3⟩
    | cont =>
      obtain ⟨σ3, H3, I3, n3⟩ := q3
      obtain ⟨m', hm, w3⟩ := hN σ3 H3 n3
      exact ⟨m', hm, σ3, H3, I3, w3⟩
    | brk => exact q3
    | ret v => exact q3
  | false =>
    rw [if_neg Bool.false_ne_true]
    exact wpAny_execs_nil ⟨σ1, H2, I2, q2⟩
end

/-! ### what a loop or a comprehension walks -/
/-- at turn i: it yields x (the heap may grow), or it stops -/
structure It where
  go : Nat → Hp → Prop
  yld : Nat → Hp → V → Hp → Prop
  stop : Nat → Hp → Prop
/-- the iterator's own objects may turn: they are not the frame's, not pinned, younger than the entry (or a comprehension's own) -/
def FpOk (X : Cx) (pins : List (Addr × Obj)) (H : Hp) (b : Addr) : Prop :=
  H b = none ∧ b ≠ X.env.locals ∧ b ∉ X.fs ∧ (b ∈ X.ex ∨ X.s₀.heap.objs.size ≤ b) ∧ (∀ x c, X.env.cells.lookup x = some c → c ≠ b) ∧ ∀ p ∈ X.pn ++ pins, p.1 ≠ b
theorem Inv.fpOk {X : Cx} {pins : List (Addr × Obj)} {σ : St} {H H' : Hp} {s : Shared} {b : Addr} (I : Inv X pins σ H s) (hb : s.heap.objs.size ≤ b) (hn : H' b = none) : FpOk X pins H' b := by
  refine ⟨hn, Nat.ne_of_gt (Nat.lt_of_lt_of_le I.lt hb), I.nofs hb, .inr (Nat.le_trans I.sz hb), fun x c e z => ?_, fun p hp z => ?_⟩
  · obtain ⟨v, q⟩ := I.cell x c e
    exact absurd (Nat.lt_of_lt_of_le q.lt (by rw [z]; exact hb)) (Nat.lt_irrefl _)
  · exact absurd (Nat.lt_of_lt_of_le (Heap.lt_size (I.pin p hp).1) (by rw [z]; exact hb)) (Nat.lt_irrefl _)
structure Turn (P : Program) (w : World) (K : PySem.W.Frag) (tg : Expr) (J : It) (fp : List Addr) (it : Addr) (tn : Nat → Heap → Prop) : Prop where
  mem : it ∈ fp
  obj : ∀ i h, tn i h → ∀ b ∈ fp, ∃ o, h.get? b = some o ∧ ∀ v, o.data ≠ .cell v
  keep : ∀ i h h', tn i h → (∀ b ∈ fp, ∀ o, h.get? b = some o → h'.get? b = some o) → tn i h'
  item : ∀ (X : Cx), X.prog = P → X.w = w → X.K = K → X.calm = true → ∀ (i : Nat) (pins : List (Addr × Obj)) (s : Shared) (σ : St) (H : Hp) (E : Value → Shared → Prop), Inv X pins σ H s → (∀ b ∈ fp, FpOk X pins H b) → tn i s.heap → J.go i H →
    wpAny (model P w) X.A (pyNext (.ref it)) (fun r s1 => ∃ u, r = some u ∧
      wpAny (model P w) X.A (letOwnedTupleGo tg (.ref it) u) (fun _ s2 => ∃ x H', Inv X pins σ H' s2 ∧ RelV x u ∧ J.yld i H x H' ∧ tn (i + 1) s2.heap ∧ ∀ b ∈ fp, H' b = none) E s1) E s
  done : ∀ (X : Cx), X.prog = P → X.w = w → X.K = K → X.calm = true → ∀ (i : Nat) (pins : List (Addr × Obj)) (s : Shared) (σ : St) (H : Hp) (E : Value → Shared → Prop), Inv X pins σ H s → (∀ b ∈ fp, FpOk X pins H b) → tn i s.heap → J.stop i H →
    wpAny (model P w) X.A (pyNext (.ref it)) (fun r s1 => r = none ∧ Inv X pins σ H s1) E s
  self : ∀ (A : Around) (i : Nat) (s : Shared) (Q : Value → Shared → Prop) (E : Value → Shared → Prop), tn i s.heap → Q (.ref it) s → wpAny (model P w) A (pyIter (.ref it)) Q E s
abbrev TI := St → Hp → (It → Hp → Prop) → Prop
/-- an iterator has come -/
def PIE (X : Cx) (pins : List (Addr × Obj)) (σ : St) (tg : Expr) (R : It → Hp → Prop) (itv : Value) (s2 : Shared) : Prop :=
  ∃ (it : Addr) (fp : List Addr) (tn : Nat → Heap → Prop) (J : It) (H' : Hp), itv = .ref it ∧ Inv X pins σ H' s2 ∧ Turn X.prog X.w X.K tg J fp it tn ∧ tn 0 s2.heap ∧ (∀ b ∈ fp, FpOk X pins H' b) ∧ R J H'
def PI (X : Cx) (tg iter : Expr) (wi : TI) : Prop :=
  ∀ (pins : List (Addr × Obj)) (s : Shared) (σ : St) (H : Hp) (R : It → Hp → Prop), Inv X pins σ H s → wi σ H R →
    wpAny (model X.prog X.w) X.A (eval iter X.env) (fun v s1 => wpAny (model X.prog X.w) X.A (pyIter v) (PIE X pins σ tg R) X.xe s1) X.xe s

/-- the step ahead of the store is nothing for an iterator that keeps no tuple -/
theorem go_of {M : Model} {A : Around} {E : Value → Shared → Prop} {s : Shared} {tg : Expr} {it : Addr} {u : Value} {o : Obj} {n : String} {vs : Array Value} {Q : Unit → Shared → Prop} (ho : s.heap.get? it = some o) (hc : o.cls = .type n) (hd : o.data = .fields vs)
    (hn : ["enumerate", "zip", "dict_itemiterator", "dict_reverseitemiterator", "odict_iterator", "itertools.zip_longest", "itertools.pairwise"].contains n = false) (hQ : Q () s) : wpAny M A (letOwnedTupleGo tg (.ref it) u) Q E s := by
  unfold letOwnedTupleGo
  cases tg <;> first
    | exact wpAny_pure hQ
    | (cases u <;> first
        | exact wpAny_pure hQ
        | (refine wpAny_bind (wpAny_load ho ?_)
           rw [hc, hd]
           show wpAny M A (if (["enumerate", "zip", "dict_itemiterator", "dict_reverseitemiterator", "odict_iterator", "itertools.zip_longest", "itertools.pairwise"].contains n && vs[0]? == some (rawInt _)) = true then _ else _) Q E s
           rw [if_neg (by intro h; rw [hn, Bool.false_and] at h; cases h)]
           exact wpAny_pure hQ))

/-- the list at a, as it stands at each turn (a loop may append to it) -/
def Itl (K : PySem.W.Frag) (a : Addr) : It :=
  ⟨fun i H => ∃ xs x, SqL K H a xs ∧ xs[i]? = some x, fun i H x H' => H' = H ∧ ∀ xs, SqL K H a xs → xs[i]? = some x, fun i H => ∃ xs, SqL K H a xs ∧ xs.length ≤ i⟩
def Itt (K : PySem.W.Frag) (a : Addr) : It :=
  ⟨fun i H => ∃ xs x, SqT K H a xs ∧ xs[i]? = some x, fun i H x H' => H' = H ∧ ∀ xs, SqT K H a xs → xs[i]? = some x, fun i H => ∃ xs, SqT K H a xs ∧ xs.length ≤ i⟩
/-- lo, lo + 1, .. (n of them) -/
def Itr (lo : Int) (n : Nat) : It := ⟨fun i _ => i < n, fun i H x H' => H' = H ∧ x = .int (lo + i), fun i _ => n ≤ i⟩
theorem turn_list {P : Program} {w : World} {K : PySem.W.Frag} {tg : Expr} (a it : Addr) : Turn P w K tg (Itl K a) [it] it (fun i h => h.IsListIter it a i) where
  mem := by simp
  obj := fun i h st b hb => by
    have e : b = it := by simpa using hb
    subst e
    obtain ⟨o, e, c, d⟩ := st
    exact ⟨o, e, fun v z => by rw [d] at z; cases z⟩
  keep := fun i h h' st k => st.at fun o e => k it (by simp) o e
  item := by
    intro X hP hw hK hc i pins s σ H E I hf st hg
    subst hP hw hK
    obtain ⟨xs, x, hq, hx⟩ := hg
    obtain ⟨its, rv, p, hz⟩ := I.list hq
    obtain ⟨u, hu, ru⟩ := rv.get hx
    obtain ⟨f0, f1, f2, f3, f4, f5⟩ := hf it (by simp)
    refine wpAny_pyNext_list_item st p.isList (x := u) (by simpa using hu) fun h' st' sb => ?_
    have I1 : Inv X pins σ H { s with heap := h' } := I.turned (t' := s.toks) (fun b o hb e => (sb.2 b hb).trans e) f0 f1 f3 f4 f5
    obtain ⟨o, e, c, d⟩ := id st'
    exact ⟨u, rfl, go_of (s := { s with heap := h' }) e c d (by decide) ⟨x, H, I1, ru, ⟨rfl, fun ys hy => by rw [I.list_inj hy hq]; exact hx⟩, st', fun b hb => (hf b hb).1⟩⟩
  done := by
    intro X hP hw hK hc i pins s σ H E I hf st hg
    subst hP hw hK
    obtain ⟨xs, hq, hx⟩ := hg
    obtain ⟨its, rv, p, hz⟩ := I.list hq
    obtain ⟨f0, f1, f2, f3, f4, f5⟩ := hf it (by simp)
    have hl := rv.length
    exact wpAny_pyNext_list_end (I.ok.hd hc) st p.isList (by simp; omega) fun h' eb => ⟨rfl, I.turned (t' := s.toks) (fun b o hb e => eb b o hb e) f0 f1 f3 f4 f5⟩
  self := fun _ _ _ _ _ st h => wpAny_pyIter_listiter st h
theorem turn_tuple {P : Program} {w : World} {K : PySem.W.Frag} {tg : Expr} (a it : Addr) : Turn P w K tg (Itt K a) [it] it (fun i h => h.IsTupleIter it a i) where
  mem := by simp
  obj := fun i h st b hb => by
    have e : b = it := by simpa using hb
    subst e
    obtain ⟨o, e, c, d⟩ := st
    exact ⟨o, e, fun v z => by rw [d] at z; cases z⟩
  keep := fun i h h' st k => st.at fun o e => k it (by simp) o e
  item := by
    intro X hP hw hK hc i pins s σ H E I hf st hg
    subst hP hw hK
    obtain ⟨xs, x, hq, hx⟩ := hg
    obtain ⟨its, rv, p, hz⟩ := I.tuple hq
    obtain ⟨u, hu, ru⟩ := rv.get hx
    obtain ⟨f0, f1, f2, f3, f4, f5⟩ := hf it (by simp)
    refine wpAny_pyNext_tuple_item st (show s.heap.IsTuple a its.toArray from p) (x := u) (by simpa using hu) fun h' st' sb => ?_
    have I1 : Inv X pins σ H { s with heap := h' } := I.turned (t' := s.toks) (fun b o hb e => (sb.2 b hb).trans e) f0 f1 f3 f4 f5
    obtain ⟨o, e, c, d⟩ := id st'
    exact ⟨u, rfl, go_of (s := { s with heap := h' }) e c d (by decide) ⟨x, H, I1, ru, ⟨rfl, fun ys hy => by rw [I.tuple_inj hy hq]; exact hx⟩, st', fun b hb => (hf b hb).1⟩⟩
  done := by
    intro X hP hw hK hc i pins s σ H E I hf st hg
    subst hP hw hK
    obtain ⟨xs, hq, hx⟩ := hg
    obtain ⟨its, rv, p, hz⟩ := I.tuple hq
    obtain ⟨f0, f1, f2, f3, f4, f5⟩ := hf it (by simp)
    have hl := rv.length
    exact wpAny_pyNext_tuple_end (I.ok.hd hc) st (show s.heap.IsTuple a its.toArray from p) (by simp; omega) fun h' eb => ⟨rfl, I.turned (t' := s.toks) (fun b o hb e => eb b o hb e) f0 f1 f3 f4 f5⟩
  self := fun _ _ _ _ _ st h => wpAny_pyIter_tupleiter st h
theorem turn_range {P : Program} {w : World} {K : PySem.W.Frag} {tg : Expr} (it : Addr) (lo : Int) (n : Nat) : Turn P w K tg (Itr lo n) [it] it (fun i h => IsRangeIter h it (lo + (i : Nat) * 1) ((n : Int) - (i : Nat)) 1) where
  mem := by simp
  obj := fun i h st b hb => by
    have e : b = it := by simpa using hb
    subst e
    exact ⟨_, st, fun v z => by
      have z' : Data.fields _ = Data.cell v := z
      cases z'⟩
  keep := fun i h h' st k => k it (by simp) _ st
  item := by
    intro X hP hw hK hc i pins s σ H E I hf st hg
    subst hP hw hK
    obtain ⟨f0, f1, f2, f3, f4, f5⟩ := hf it (by simp)
    have W := Walks.range (prog := X.prog) (w := X.w) (I.ok.hd hc) it lo 1 n
    refine W.item i s _ _ hg st fun v h' tk hv st' kk => ?_
    obtain ⟨t, rfl⟩ := hv
    have I1 : Inv X pins σ H { s with heap := h', toks := tk } := I.turned (fun b o hb e => kk b o (by simpa using hb) e) f0 f1 f3 f4 f5
    refine ⟨_, rfl, go_of (s := { s with heap := h', toks := tk }) (n := "range_iterator") st' rfl rfl (by decide) ⟨.int (lo + i), H, I1, ⟨t, ?_⟩, ⟨rfl, rfl⟩, st', fun b hb => (hf b hb).1⟩⟩
    rw [Int.mul_one]
  done := by
    intro X hP hw hK hc i pins s σ H E I hf st hg
    subst hP hw hK
    obtain ⟨f0, f1, f2, f3, f4, f5⟩ := hf it (by simp)
    exact wpAny_pyNext_range_end (I.ok.hd hc) st (by have : n ≤ i := hg; omega) fun h' eb => ⟨rfl, I.turned (t' := s.toks) (fun b o hb e => eb b o hb e) f0 f1 f3 f4 f5⟩
  self := fun _ _ _ _ _ st h => wpAny_pyIter_rangeiter st h
end L2

namespace L2
open PySem PySem.Spec PyProof.Rows
section
variable {X : Cx} {tg : Expr}
def iList (K : PySem.W.Frag) (tl : TE) : TI := fun σ H R => tl σ H fun x H1 => ∃ a, x = .ref a ∧ (∃ xs, SqL K H1 a xs) ∧ R (Itl K a) H1
def iTup (K : PySem.W.Frag) (tl : TE) : TI := fun σ H R => tl σ H fun x H1 => ∃ a, x = .ref a ∧ (∃ xs, SqT K H1 a xs) ∧ R (Itt K a) H1
theorem pi_list {l : Expr} {tl : TE} (hl : PE X l tl) : PI X tg l (iList X.K tl) := by
  intro pins s σ H R I h
  refine thn (hl pins s σ H _ I h) fun v s1 ⟨x, H1, I1, r1, q1⟩ => ?_
  obtain ⟨a, e, ⟨xs, hq⟩, q⟩ := q1
  subst e
  cases r1
  obtain ⟨its, rv, p, hz⟩ := I1.list hq
  refine wpAny_pyIter_list p.isList ?_
  refine ⟨s1.heap.objs.size, [s1.heap.objs.size], _, _, H1, rfl, I1.kept (t' := s1.toks) fun b o e => Heap.get?_push_of_some _ e, turn_list a _, ⟨_, Heap.get?_push_size _ rfl, rfl, rfl⟩, fun b hb => ?_, q⟩
  have e : b = s1.heap.objs.size := by simpa using hb
  subst e
  exact I1.fpOk (Nat.le_refl _) (I1.hok.fresh (Nat.le_refl _))
theorem pi_tup {l : Expr} {tl : TE} (hl : PE X l tl) : PI X tg l (iTup X.K tl) := by
  intro pins s σ H R I h
  refine thn (hl pins s σ H _ I h) fun v s1 ⟨x, H1, I1, r1, q1⟩ => ?_
  obtain ⟨a, e, ⟨xs, hq⟩, q⟩ := q1
  subst e
  cases r1
  obtain ⟨its, rv, p, hz⟩ := I1.tuple hq
  refine wpAny_pyIter_tuple (show s1.heap.IsTuple a its.toArray from p) ?_
  refine ⟨s1.heap.objs.size, [s1.heap.objs.size], _, _, H1, rfl, I1.kept (t' := s1.toks) fun b o e => Heap.get?_push_of_some _ e, turn_tuple a _, ⟨_, Heap.get?_push_size _ rfl, rfl, rfl⟩, fun b hb => ?_, q⟩
  have e : b = s1.heap.objs.size := by simpa using hb
  subst e
  exact I1.fpOk (Nat.le_refl _) (I1.hok.fresh (Nat.le_refl _))
/-- a range object just made, walked -/
theorem range_it {pins : List (Addr × Obj)} {σ : St} {H : Hp} {s : Shared} {R : It → Hp → Prop} {E : Value → Shared → Prop} {lo hi : Int} {t u v : Tok} {tk : Nat} (I : Inv X pins σ H s) (h1 : -(2 ^ 62) ≤ lo) (h2 : lo < 2 ^ 62) (h3 : -(2 ^ 62) ≤ hi) (h4 : hi < 2 ^ 62)
    (q : R (Itr lo (hi - lo).toNat) H) : wpAny (model X.prog X.w) X.A (pyIter (.ref s.heap.objs.size)) (PIE X pins σ tg R) E { s with heap := s.heap.push { cls := .type "range", data := .fields #[.int lo t, .int hi u, .int 1 v] }, toks := tk } := by
  refine wpAny_pyIter_range (IsRange.new ..) (small_one h1 h2 h3 h4) ?_
  have I1 : Inv X pins σ H { s with heap := s.heap.push { cls := .type "range", data := .fields #[.int lo t, .int hi u, .int 1 v] }, toks := tk } := I.kept fun b o e => Heap.get?_push_of_some _ e
  refine ⟨(s.heap.push { cls := .type "range", data := .fields #[.int lo t, .int hi u, .int 1 v] }).objs.size, [(s.heap.push { cls := .type "range", data := .fields #[.int lo t, .int hi u, .int 1 v] }).objs.size], _, _, H, rfl,
    I1.kept (t' := tk) fun b o e => Heap.get?_push_of_some _ e, turn_range _ lo (hi - lo).toNat, ?_, fun b hb => ?_, q⟩
  · have e1 : lo + ((0 : Nat) : Int) * 1 = lo := by simp
    have e2 : (((hi - lo).toNat : Nat) : Int) - ((0 : Nat) : Int) = Builtin.Range.rangeSize lo hi 1 := by rw [rangeSize_one]; split <;> omega
    show IsRangeIter _ _ (lo + ((0 : Nat) : Int) * 1) ((((hi - lo).toNat : Nat) : Int) - ((0 : Nat) : Int)) 1
    rw [e1, e2]
    exact Heap.get?_push_size _ rfl
  · have e : b = (s.heap.push { cls := .type "range", data := .fields #[.int lo t, .int hi u, .int 1 v] }).objs.size := by simpa using hb
    subst e
    exact I1.fpOk (Nat.le_refl _) (I1.hok.fresh (Nat.le_refl _))
def iRng1 (ta : TA) : TI := fun σ H R => ta σ H fun vs H1 => ∃ j : Int, vs = [.int j] ∧ -(2 ^ 62) ≤ j ∧ j < 2 ^ 62 ∧ R (Itr 0 j.toNat) H1
def iRng2 (ta : TA) : TI := fun σ H R => ta σ H fun vs H1 => ∃ i j : Int, vs = [.int i, .int j] ∧ (-(2 ^ 62) ≤ i ∧ i < 2 ^ 62 ∧ -(2 ^ 62) ≤ j ∧ j < 2 ^ 62) ∧ R (Itr i (j - i).toNat) H1
theorem pi_range1 {a : Expr} {ta : TA} {p pos : Pos} (hg : Gl X "range") (hm : X.mg "range" = none) (ha : PA X [a] ta) (hs : starEach [a] X.env = [(false, eval a X.env)] := by rfl) : PI X tg (.Call (.Name "range" p) [a] [] pos) (iRng1 ta) := by
  intro pins s σ H R I h
  refine Call_ (ld_blt I hg hm boot_range (PyProof.Rows.callWith_type1 (thn (ha pos pins s σ H _ I h) fun us s1 ⟨vs, H1, I1, r1, q1⟩ => ?_) hs rfl))
  obtain ⟨j, e, q1, q2, q⟩ := q1
  subst e
  cases r1 with
  | cons r rr =>
    cases rr
    obtain ⟨t, rfl⟩ := r
    exact call_range_1 (range_it I1 (by omega) (by omega) q1 q2 (by simpa using q))
theorem pi_range2 {a b : Expr} {ta : TA} {p pos : Pos} (hg : Gl X "range") (hm : X.mg "range" = none) (ha : PA X [a, b] ta) (hs : starEach [a, b] X.env = [(false, eval a X.env), (false, eval b X.env)] := by rfl) (hs2 : starEach [b] X.env = [(false, eval b X.env)] := by rfl) :
    PI X tg (.Call (.Name "range" p) [a, b] [] pos) (iRng2 ta) := by
  intro pins s σ H R I h
  refine Call_ (ld_blt I hg hm boot_range (PyProof.Rows.callWith_type1 (thn (ha pos pins s σ H _ I h) fun us s1 ⟨vs, H1, I1, r1, q1⟩ => ?_) (by rw [hs, hs2]) (by rw [hs2]; rfl)))
  obtain ⟨i, j, e, ⟨q1, q2, q3, q4⟩, q⟩ := q1
  subst e
  cases r1 with
  | cons r rr =>
    cases rr with
    | cons r' rr =>
      cases rr
      obtain ⟨t, rfl⟩ := r
      obtain ⟨t', rfl⟩ := r'
      exact call_range_2 (range_it I1 q1 q2 q3 q4 q)

/-! ### for -/
/-- W: the invariant by the turn and a measure; N: what the body is to reach -/
def tFor (wi : TI) (g : TG) (tb : TS) : TS := fun D σ H => wi σ H fun J H1 => ∃ W : Nat → Nat → St → Hp → Prop, (∃ m, W 0 m σ H1) ∧ ∀ i m σ H, W i m σ H →
  (J.stop i H ∧ D.nx σ H) ∨ (J.go i H ∧ ∃ N : St → Hp → Prop, (∀ σ' H', N σ' H' → ∃ m', m' < m ∧ W (i + 1) m' σ' H') ∧ ∀ x H', J.yld i H x H' → g x σ H' fun σ2 H2 => tb { D with nx := N, ct := N, bk := D.nx } σ2 H2)
/-- the records at fp as they stand -/
def pinsAt (fp : List Addr) (h : Heap) : List (Addr × Obj) := fp.filterMap fun b => (h.get? b).map fun o => (b, o)
theorem mem_pinsAt {fp : List Addr} {h : Heap} {b : Addr} {o : Obj} (hb : b ∈ fp) (e : h.get? b = some o) : (b, o) ∈ pinsAt fp h := List.mem_filterMap.mpr ⟨b, hb, by rw [e]; rfl⟩
theorem of_pinsAt {fp : List Addr} {h : Heap} {p : Addr × Obj} (hp : p ∈ pinsAt fp h) : p.1 ∈ fp ∧ h.get? p.1 = some p.2 := by
  obtain ⟨b, hb, e⟩ := List.mem_filterMap.mp hp
  cases q : h.get? b with
  | none => rw [q] at e; cases e
  | some o =>
    rw [q] at e
    have e' : (b, o) = p := Option.some.inj e
    subst e'
    exact ⟨hb, q⟩
theorem Inv.pinned {pins : List (Addr × Obj)} {σ : St} {H : Hp} {s : Shared} {fp : List Addr} (I : Inv X pins σ H s) (hf : ∀ b ∈ fp, FpOk X pins H b) (ho : ∀ b ∈ fp, ∃ o, s.heap.get? b = some o ∧ ∀ v, o.data ≠ .cell v) : Inv X (pins ++ pinsAt fp s.heap) σ H s :=
  I.pins_of fun p hp => (List.mem_append.mp hp).elim (fun z => I.pin p (List.mem_append_right _ z)) fun z => by
    obtain ⟨hb, e⟩ := of_pinsAt z
    obtain ⟨f0, f1, f2, _⟩ := hf p.1 hb
    obtain ⟨o, e', d⟩ := ho p.1 hb
    rw [e] at e'; cases e'
    exact ⟨e, f0, f1, f2, d⟩
theorem Inv.unpinned {pins pl : List (Addr × Obj)} {σ : St} {H : Hp} {s : Shared} (I : Inv X (pins ++ pl) σ H s) : Inv X pins σ H s := I.pins_of fun p hp => I.pin p (List.mem_append_right _ (List.mem_append_left _ hp))
theorem ps_for {iter : Expr} {body : List Stmt} {wi : TI} {g : TG} {tb : TS} {pos : Pos} (hp : PassesOwn (model X.prog X.w) X.A X.env X.xe) (hc : X.calm = true) (hi : PI X tg iter wi) (hg : PG X tg g) (hb : PSs X body tb)
    (hs : ∀ x, foldedSetIterable iter X.env x = pure x := by intro _; rfl) : PS X (.For tg iter body [] pos) (tFor wi g tb) := by
  intro pins s σ H D I h
  refine wpAny_For (thn (hi pins s σ H _ I h) fun v s1 h1 => thn h1 fun itv s2 h2 => ?_) hs
  obtain ⟨it, fp, tn, J, H2, e, I2, T, st2, f2, W, ⟨m0, w0⟩, turn⟩ := h2
  subst e
  have stat : ∀ {H' : Hp}, (∀ b ∈ fp, H' b = none) → ∀ b ∈ fp, FpOk X pins H' b := fun hn b hb => ⟨hn b hb, (f2 b hb).2⟩
  refine codeAny_forLoop_any (fun n s' => ∃ i σ' H', Inv X pins σ' H' s' ∧ tn i s'.heap ∧ (∀ b ∈ fp, H' b = none) ∧ W i n σ' H') ?_ m0 ⟨0, σ, H2, I2, st2, fun b hb => (f2 b hb).1, w0⟩
  rintro n s3 ⟨i, σ3, H3, I3, st3, fr3, w3⟩
  rcases turn i n σ3 H3 w3 with ⟨stop, qn⟩ | ⟨go, N, hN, step⟩
  · refine wpAny_passesOwn hp (thn (T.done X rfl rfl rfl hc i pins s3 σ3 H3 X.xe I3 (stat fr3) st3 stop) fun r s4 ⟨hr, I4⟩ => ?_)
    subst hr
    exact wpAny_execs_nil ⟨σ3, H3, I4, qn⟩
  · refine wpAny_passesOwn hp (thn (T.item X rfl rfl rfl hc i pins s3 σ3 H3 X.xe I3 (stat fr3) st3 go) fun r s4 ⟨u, hr, h4⟩ => ?_)
    subst hr
    refine wpAny_passesOwn hp (thn h4 fun _ s5 ⟨x, H5, I5, r5, y5, st5, fr5⟩ => ?_)
    have I5' := I5.pinned (stat fr5) (T.obj _ _ st5)
    refine wpAny_passesOwn hp (thn (hg _ s5 σ3 H5 x u _ I5' r5 (step x H5 y5)) fun _ s6 ⟨σ6, H6, I6, q6⟩ => ?_)
    refine wpAny_passesOwn hp (thn (hb _ s6 σ6 H6 _ I6 q6) fun f s7 q7 => ?_)
    have again : ∀ {σ7 : St} {H7 : Hp}, Inv X (pins ++ pinsAt fp s5.heap) σ7 H7 s7 → N σ7 H7 → ∃ m, m < n ∧ ∃ i σ' H', Inv X pins σ' H' s7 ∧ tn i s7.heap ∧ (∀ b ∈ fp, H' b = none) ∧ W i m σ' H' := fun {σ7 H7} I7 n7 => by
      obtain ⟨m', hm, w7⟩ := hN σ7 H7 n7
      refine ⟨m', hm, i + 1, σ7, H7, I7.unpinned, T.keep _ _ _ st5 fun b hb o e => (I7.pin (b, o) (List.mem_append_right _ (List.mem_append_right _ (mem_pinsAt hb e)))).1, fun b hb => ?_, w7⟩
      obtain ⟨o, e, d⟩ := T.obj _ _ st5 b hb
      exact (I7.pin (b, o) (List.mem_append_right _ (List.mem_append_right _ (mem_pinsAt hb e)))).2.1
    cases f with
    | next => obtain ⟨σ7, H7, I7, n7⟩ := q7; exact again I7 n7
    | cont => obtain ⟨σ7, H7, I7, n7⟩ := q7; exact again I7 n7
    | brk => obtain ⟨σ7, H7, I7, q7⟩ := q7; exact ⟨σ7, H7, I7.unpinned, q7⟩
    | ret v => obtain ⟨x7, σ7, H7, I7, r7, q7⟩ := q7; exact ⟨x7, σ7, H7, I7.unpinned, r7, q7⟩
end

/-! ### the forms one uses -/
/-- over a list that the body leaves as it is -/
theorem for_list {K : PySem.W.Frag} {a : Addr} {xs : List V} {g : TG} {tb : TS} {D : Ends} {σ : St} {H : Hp} (Pv : Nat → St → Hp → Prop) (h0 : Pv 0 σ H) (hl : ∀ i σ H, i ≤ xs.length → Pv i σ H → SqL K H a xs)
    (hs : ∀ i x σ H, xs[i]? = some x → Pv i σ H → g x σ H fun σ2 H2 => tb { D with nx := Pv (i + 1), ct := Pv (i + 1), bk := D.nx } σ2 H2) (hd : ∀ σ H, Pv xs.length σ H → D.nx σ H) :
    ∃ W : Nat → Nat → St → Hp → Prop, (∃ m, W 0 m σ H) ∧ ∀ i m σ H, W i m σ H →
      ((Itl K a).stop i H ∧ D.nx σ H) ∨ ((Itl K a).go i H ∧ ∃ N : St → Hp → Prop, (∀ σ' H', N σ' H' → ∃ m', m' < m ∧ W (i + 1) m' σ' H') ∧ ∀ x H', (Itl K a).yld i H x H' → g x σ H' fun σ2 H2 => tb { D with nx := N, ct := N, bk := D.nx } σ2 H2) := by
  refine ⟨fun i m σ H => m = xs.length - i ∧ i ≤ xs.length ∧ Pv i σ H, ⟨xs.length, by simp, Nat.zero_le _, h0⟩, ?_⟩
  rintro i m σ H ⟨rfl, hi, p⟩
  have q := hl i σ H hi p
  by_cases hlt : i < xs.length
  · refine .inr ⟨⟨xs, xs[i], q, by simp [hlt]⟩, Pv (i + 1), fun σ' H' p' => ⟨xs.length - (i + 1), by omega, rfl, hlt, p'⟩, fun x H' y => ?_⟩
    obtain ⟨e, y⟩ := y
    subst e
    exact hs i x σ _ (y xs q) p
  · have e : i = xs.length := by omega
    subst e
    exact .inl ⟨⟨xs, q, Nat.le_refl _⟩, hd σ H p⟩
theorem for_tup {K : PySem.W.Frag} {a : Addr} {xs : List V} {g : TG} {tb : TS} {D : Ends} {σ : St} {H : Hp} (Pv : Nat → St → Hp → Prop) (h0 : Pv 0 σ H) (hl : ∀ i σ H, i ≤ xs.length → Pv i σ H → SqT K H a xs)
    (hs : ∀ i x σ H, xs[i]? = some x → Pv i σ H → g x σ H fun σ2 H2 => tb { D with nx := Pv (i + 1), ct := Pv (i + 1), bk := D.nx } σ2 H2) (hd : ∀ σ H, Pv xs.length σ H → D.nx σ H) :
    ∃ W : Nat → Nat → St → Hp → Prop, (∃ m, W 0 m σ H) ∧ ∀ i m σ H, W i m σ H →
      ((Itt K a).stop i H ∧ D.nx σ H) ∨ ((Itt K a).go i H ∧ ∃ N : St → Hp → Prop, (∀ σ' H', N σ' H' → ∃ m', m' < m ∧ W (i + 1) m' σ' H') ∧ ∀ x H', (Itt K a).yld i H x H' → g x σ H' fun σ2 H2 => tb { D with nx := N, ct := N, bk := D.nx } σ2 H2) := by
  refine ⟨fun i m σ H => m = xs.length - i ∧ i ≤ xs.length ∧ Pv i σ H, ⟨xs.length, by simp, Nat.zero_le _, h0⟩, ?_⟩
  rintro i m σ H ⟨rfl, hi, p⟩
  have q := hl i σ H hi p
  by_cases hlt : i < xs.length
  · refine .inr ⟨⟨xs, xs[i], q, by simp [hlt]⟩, Pv (i + 1), fun σ' H' p' => ⟨xs.length - (i + 1), by omega, rfl, hlt, p'⟩, fun x H' y => ?_⟩
    obtain ⟨e, y⟩ := y
    subst e
    exact hs i x σ _ (y xs q) p
  · have e : i = xs.length := by omega
    subst e
    exact .inl ⟨⟨xs, q, Nat.le_refl _⟩, hd σ H p⟩
theorem for_range {lo : Int} {n : Nat} {g : TG} {tb : TS} {D : Ends} {σ : St} {H : Hp} (Pv : Nat → St → Hp → Prop) (h0 : Pv 0 σ H)
    (hs : ∀ i σ H, i < n → Pv i σ H → g (.int (lo + i)) σ H fun σ2 H2 => tb { D with nx := Pv (i + 1), ct := Pv (i + 1), bk := D.nx } σ2 H2) (hd : ∀ σ H, Pv n σ H → D.nx σ H) :
    ∃ W : Nat → Nat → St → Hp → Prop, (∃ m, W 0 m σ H) ∧ ∀ i m σ H, W i m σ H →
      ((Itr lo n).stop i H ∧ D.nx σ H) ∨ ((Itr lo n).go i H ∧ ∃ N : St → Hp → Prop, (∀ σ' H', N σ' H' → ∃ m', m' < m ∧ W (i + 1) m' σ' H') ∧ ∀ x H', (Itr lo n).yld i H x H' → g x σ H' fun σ2 H2 => tb { D with nx := N, ct := N, bk := D.nx } σ2 H2) := by
  refine ⟨fun i m σ H => m = n - i ∧ i ≤ n ∧ Pv i σ H, ⟨n, by simp, Nat.zero_le _, h0⟩, ?_⟩
  rintro i m σ H ⟨rfl, hi, p⟩
  by_cases hlt : i < n
  · refine .inr ⟨hlt, Pv (i + 1), fun σ' H' p' => ⟨n - (i + 1), by omega, rfl, hlt, p'⟩, fun x H' y => ?_⟩
    obtain ⟨e, y⟩ := y
    subst e y
    exact hs i σ _ hlt p
  · have e : i = n := by omega
    subst e
    exact .inl ⟨Nat.le_refl _, hd σ H p⟩
/-- while, by a word and a measure of the state -/
theorem while_by {c : TT} {tb : TS} {D : Ends} {σ : St} {H : Hp} (Pv : St → Hp → Prop) (μ : St → Hp → Nat) (h0 : Pv σ H)
    (hs : ∀ σ H, Pv σ H → c σ H fun b H1 => if b = true then tb { D with nx := fun σ' H' => Pv σ' H' ∧ μ σ' H' < μ σ H, ct := fun σ' H' => Pv σ' H' ∧ μ σ' H' < μ σ H, bk := D.nx } σ H1 else D.nx σ H1)
    (mono : ∀ σ H Q Q', (∀ b H1, Q b H1 → Q' b H1) → c σ H Q → c σ H Q') : tWhile c tb D σ H := by
  refine ⟨fun m σ H => m = μ σ H ∧ Pv σ H, ⟨_, rfl, h0⟩, ?_⟩
  rintro m σ H ⟨rfl, p⟩
  refine mono σ H _ _ (fun b H1 q => ?_) (hs σ H p)
  cases b with
  | true => exact ⟨_, fun σ' H' ⟨p', l⟩ => ⟨_, l, rfl, p'⟩, q⟩
  | false => exact q
end L2

namespace L2
open PySem PySem.Spec PyProof.Rows

abbrev R2 := V → V → Hp → VK → Prop
/-- a two-place operation on values: f is binaryOp op, inplaceOp op or compareOp op -/
def OpR (X : Cx) (f : Value → Value → Sem Value) (r : R2) : Prop :=
  ∀ (pins : List (Addr × Obj)) (s : Shared) (σ : St) (H : Hp) (x y : V) (v u : Value) (Q : VK), Inv X pins σ H s → RelV x v → RelV y u → r x y H Q →
    wpAny (model X.prog X.w) X.A (f v u) (EP X pins σ Q) X.xe s
/-- a one-place operation -/
def UnR (X : Cx) (f : Value → Sem Value) (r : V → Hp → VK → Prop) : Prop :=
  ∀ (pins : List (Addr × Obj)) (s : Shared) (σ : St) (H : Hp) (x : V) (v : Value) (Q : VK), Inv X pins σ H s → RelV x v → r x H Q →
    wpAny (model X.prog X.w) X.A (f v) (EP X pins σ Q) X.xe s
/-- a call of a value that is known (a builtin, a type) with values -/
def CallR (X : Cx) (f : Value) (r : List V → Hp → VK → Prop) : Prop :=
  ∀ (pins : List (Addr × Obj)) (s : Shared) (σ : St) (H : Hp) (xs : List V) (us : List Value) (Q : VK), Inv X pins σ H s → Vals xs us → r xs H Q →
    wpAny (model X.prog X.w) X.A (call f us) (EP X pins σ Q) X.xe s
/-- a value's truth -/
def TruR (X : Cx) (r : V → Hp → (Bool → Hp → Prop) → Prop) : Prop :=
  ∀ (pins : List (Addr × Obj)) (s : Shared) (σ : St) (H : Hp) (x : V) (v : Value) (Q : Bool → Hp → Prop), Inv X pins σ H s → RelV x v → r x H Q →
    wpAny (model X.prog X.w) X.A (truthy v) (TP X pins σ Q) X.xe s

def tOp (r : R2) (ta tb : TE) : TE := fun σ H Q => ta σ H fun x H1 => tb σ H1 fun y H2 => r x y H2 Q
def tUn (r : V → Hp → VK → Prop) (ta : TE) : TE := fun σ H Q => ta σ H fun x H1 => r x H1 Q
/-- ints in, under C, and a value out -/
def rI (C : Int → Int → Prop) (g : Int → Int → V) : R2 := fun x y H Q => ∃ i j, x = .int i ∧ y = .int j ∧ C i j ∧ Q (g i j) H
def rI0 (g : Int → Int → V) : R2 := fun x y H Q => ∃ i j, x = .int i ∧ y = .int j ∧ Q (g i j) H
def rU (g : Int → V) : V → Hp → VK → Prop := fun x H Q => ∃ i, x = .int i ∧ Q (g i) H

section
variable {X : Cx} {a b c : Expr} {ta tb tc : TE} {pos : Pos}

theorem binT (ha : PE X a ta) (hb : PE X b tb) {pins : List (Addr × Obj)} {s : Shared} {σ : St} {H : Hp} {R : V → V → Hp → Prop} (I : Inv X pins σ H s)
    (h : ta σ H fun x H1 => tb σ H1 fun y H2 => R x y H2) {Q : Value → Shared → Prop} {f : Value → Value → Sem Value}
    (hf : ∀ v u s2 x y H2, Inv X pins σ H2 s2 → RelV x v → RelV y u → R x y H2 → wpAny (model X.prog X.w) X.A (f v u) Q X.xe s2) :
    wpAny (model X.prog X.w) X.A (eval a X.env) (fun v s₁ => wpAny (model X.prog X.w) X.A (eval b X.env) (fun u s₂ => wpAny (model X.prog X.w) X.A (f v u) Q X.xe s₂) X.xe s₁) X.xe s := by
  refine thn (ha pins s σ H _ I h) fun v s1 ⟨x, H1, I1, r1, q1⟩ => ?_
  refine thn (hb pins s1 σ H1 _ I1 q1) fun u s2 ⟨y, H2, I2, r2, q2⟩ => ?_
  exact hf v u s2 x y H2 I2 r1 r2 q2

theorem pe_op {op : Operator} {r : R2} (ho : OpR X (binaryOp op) r) (ha : PE X a ta) (hb : PE X b tb) : PE X (.BinOp a op b pos) (tOp r ta tb) := by
  intro pins s σ H Q I h
  exact wpAny_BinOp (binT ha hb I h fun v u s2 x y H2 I2 rx ry q => ho pins s2 σ H2 x y v u Q I2 rx ry q)
theorem pe_un {op : UnaryOp} {r : V → Hp → VK → Prop} (ho : UnR X (unaryOp op) r) (ha : PE X a ta) : PE X (.UnaryOp op a pos) (tUn r ta) := by
  intro pins s σ H Q I h
  exact UnaryOp_ (thn (ha pins s σ H _ I h) fun v s1 ⟨x, H1, I1, r1, q1⟩ => ho pins s1 σ H1 x v Q I1 r1 q1)
/-- a op= e at a name: the name's slot i -/
theorem augR {op : Operator} {r : R2} (ho : OpR X (inplaceOp op) r) {pins : List (Addr × Obj)} {s : Shared} {σ : St} {H : Hp} {x y : V} {v u : Value} {Q : VK} (I : Inv X pins σ H s)
    (rx : RelV x v) (ry : RelV y u) (q : r x y H Q) : wpAny (model X.prog X.w) X.A (inplaceOp op v u) (EP X pins σ Q) X.xe s := ho pins s σ H x y v u Q I rx ry q

/-! ### ints -/
theorem opI {f : Value → Value → Sem Value} {C : Int → Int → Prop} {g : Int → Int → Int}
    (rule : ∀ (i j : Int) (t u : Tok) (s : Shared) (Q : Value → Shared → Prop) (E : Value → Shared → Prop), C i j → Q (.int (g i j) s.toks) { s with toks := s.toks + 1 } → wpAny (model X.prog X.w) X.A (f (.int i t) (.int j u)) Q E s) :
    OpR X f (rI C fun i j => .int (g i j)) := by
  intro pins s σ H x y v u Q I rx ry h
  obtain ⟨i, j, rfl, rfl, hc, q⟩ := h
  obtain ⟨t, rfl⟩ := rx
  obtain ⟨t', rfl⟩ := ry
  exact rule i j t t' s _ _ hc ⟨.int (g i j), H, I.tok _, ⟨_, rfl⟩, q⟩
theorem opI0 {f : Value → Value → Sem Value} {g : Int → Int → Int}
    (rule : ∀ (i j : Int) (t u : Tok) (s : Shared) (Q : Value → Shared → Prop) (E : Value → Shared → Prop), Q (.int (g i j) s.toks) { s with toks := s.toks + 1 } → wpAny (model X.prog X.w) X.A (f (.int i t) (.int j u)) Q E s) :
    OpR X f (rI0 fun i j => .int (g i j)) := by
  intro pins s σ H x y v u Q I rx ry h
  obtain ⟨i, j, rfl, rfl, q⟩ := h
  obtain ⟨t, rfl⟩ := rx
  obtain ⟨t', rfl⟩ := ry
  exact rule i j t t' s _ _ ⟨.int (g i j), H, I.tok _, ⟨_, rfl⟩, q⟩
theorem opB0 {f : Value → Value → Sem Value} {g : Int → Int → Bool}
    (rule : ∀ (i j : Int) (t u : Tok) (s : Shared) (Q : Value → Shared → Prop) (E : Value → Shared → Prop), Q (.bool (g i j)) s → wpAny (model X.prog X.w) X.A (f (.int i t) (.int j u)) Q E s) :
    OpR X f (rI0 fun i j => .bl (g i j)) := by
  intro pins s σ H x y v u Q I rx ry h
  obtain ⟨i, j, rfl, rfl, q⟩ := h
  obtain ⟨t, rfl⟩ := rx
  obtain ⟨t', rfl⟩ := ry
  exact rule i j t t' s _ _ ⟨.bl (g i j), H, I, rfl, q⟩

def CDiv (i j : Int) : Prop := 0 < j ∧ j < 1073741824
def CDivN (i j : Int) : Prop := j ≠ 0 ∧ j.natAbs < 1073741824
def CPow (i j : Int) : Prop := 0 ≤ j ∧ j ≤ 1000000 ∧ i.natAbs < 2 ^ 64
def CMul (i j : Int) : Prop := (-(2 ^ 64) < i ∧ i < 2 ^ 64) ∨ (-(2 ^ 64) < j ∧ j < 2 ^ 64)
theorem CMul.ok {i j : Int} (h : CMul i j) : IntMulOk i j := by
  rcases h with ⟨h1, h2⟩ | ⟨h1, h2⟩
  · exact .of_left (intBits_le_64 h1 h2)
  · exact .of_right (intBits_le_64 h1 h2)
theorem two_pow_nn (k : Nat) : (0 : Int) ≤ 2 ^ k := by
  rw [two_pow_cast]
  exact Int.natCast_nonneg _

theorem op_add : OpR X (binaryOp .Add) (rI0 fun i j => .int (i + j)) := opI0 fun _ _ _ _ _ _ _ q => add_int q
theorem op_sub : OpR X (binaryOp .Sub) (rI0 fun i j => .int (i - j)) := opI0 fun _ _ _ _ _ _ _ q => sub_int q
theorem op_mul : OpR X (binaryOp .Mult) (rI CMul fun i j => .int (i * j)) := opI fun _ _ _ _ _ _ _ hc q => mul_int q hc.ok
/-- // by a positive divisor -/
theorem op_fdiv : OpR X (binaryOp .FloorDiv) (rI CDiv fun i j => .int (i / j)) := opI fun i j _ _ _ _ _ hc q => by
  have h1 : (0 : Int) < j := hc.1
  have h2 : j < 1073741824 := hc.2
  exact floordiv_int (by omega) (by rw [Int.fdiv_eq_ediv_of_nonneg i (by omega)]; exact q) (.inl (PyProof.noPylong_small (by omega)))
theorem op_fdivN : OpR X (binaryOp .FloorDiv) (rI CDivN fun i j => .int (i.fdiv j)) := opI fun _ _ _ _ _ _ _ hc q => floordiv_int hc.1 q (.inl (PyProof.noPylong_small hc.2))
/-- % by a positive divisor of any size -/
theorem op_mod : OpR X (binaryOp .Mod) (rI (fun _ j => 0 < j) fun i j => .int (i % j)) := opI fun i j _ _ _ _ _ hc q => by
  have h1 : (0 : Int) < j := hc
  exact mod_int' (by omega) (by rw [Int.fmod_eq_emod_of_nonneg i (by omega)]; exact q)
theorem op_modN : OpR X (binaryOp .Mod) (rI (fun _ j => j ≠ 0) fun i j => .int (i.fmod j)) := opI fun _ _ _ _ _ _ _ hc q => mod_int' hc q
theorem op_pow : OpR X (binaryOp .Pow) (rI CPow fun i j => .int (i ^ j.toNat)) := opI fun _ _ _ _ _ _ _ hc q => pow_int_small hc.1 hc.2.1 hc.2.2 q
theorem op_shl : OpR X (binaryOp .LShift) (rI CPow fun i j => .int (i * 2 ^ j.toNat)) := opI fun _ _ _ _ _ _ _ hc q => lshift_int_small hc.1 hc.2.1 hc.2.2 q
theorem op_shr : OpR X (binaryOp .RShift) (rI (fun _ j => 0 ≤ j) fun i j => .int (i / 2 ^ j.toNat)) := opI fun i j _ _ _ _ _ hc q =>
  rshift_int hc (by rw [Int.fdiv_eq_ediv_of_nonneg i (two_pow_nn _)]; exact q)
theorem op_and : OpR X (binaryOp .BitAnd) (rI0 fun i j => .int (Builtin.bitAnd i j)) := opI0 fun _ _ _ _ _ _ _ q => and_int q
theorem op_or : OpR X (binaryOp .BitOr) (rI0 fun i j => .int (Builtin.bitOr i j)) := opI0 fun _ _ _ _ _ _ _ q => or_int q
theorem op_xor : OpR X (binaryOp .BitXor) (rI0 fun i j => .int (Builtin.bitXor i j)) := opI0 fun _ _ _ _ _ _ _ q => xor_int q

theorem iop_add : OpR X (inplaceOp .Add) (rI0 fun i j => .int (i + j)) := opI0 fun _ _ _ _ _ _ _ q => iadd_int q
theorem iop_sub : OpR X (inplaceOp .Sub) (rI0 fun i j => .int (i - j)) := opI0 fun _ _ _ _ _ _ _ q => isub_int q
theorem iop_mul : OpR X (inplaceOp .Mult) (rI CMul fun i j => .int (i * j)) := opI fun _ _ _ _ _ _ _ hc q => imul_int q hc.ok
theorem iop_fdiv : OpR X (inplaceOp .FloorDiv) (rI CDiv fun i j => .int (i / j)) := opI fun i j _ _ _ _ _ hc q => by
  have h1 : (0 : Int) < j := hc.1
  have h2 : j < 1073741824 := hc.2
  exact ifloordiv_int (by omega) (by rw [Int.fdiv_eq_ediv_of_nonneg i (by omega)]; exact q) (.inl (PyProof.noPylong_small (by omega)))
theorem iop_mod : OpR X (inplaceOp .Mod) (rI (fun _ j => 0 < j) fun i j => .int (i % j)) := opI fun i j _ _ _ _ _ hc q => by
  have h1 : (0 : Int) < j := hc
  exact imod_int (by omega) (by rw [Int.fmod_eq_emod_of_nonneg i (by omega)]; exact q)
theorem iop_shl : OpR X (inplaceOp .LShift) (rI CPow fun i j => .int (i * 2 ^ j.toNat)) := opI fun _ _ _ _ _ _ _ hc q => ilshift_int_small hc.1 hc.2.1 hc.2.2 q
theorem iop_shr : OpR X (inplaceOp .RShift) (rI (fun _ j => 0 ≤ j) fun i j => .int (i / 2 ^ j.toNat)) := opI fun i j _ _ _ _ _ hc q =>
  irshift_int hc (by rw [Int.fdiv_eq_ediv_of_nonneg i (two_pow_nn _)]; exact q)
theorem iop_and : OpR X (inplaceOp .BitAnd) (rI0 fun i j => .int (Builtin.bitAnd i j)) := opI0 fun _ _ _ _ _ _ _ q => iand_int q
theorem iop_or : OpR X (inplaceOp .BitOr) (rI0 fun i j => .int (Builtin.bitOr i j)) := opI0 fun _ _ _ _ _ _ _ q => ior_int q
theorem iop_xor : OpR X (inplaceOp .BitXor) (rI0 fun i j => .int (Builtin.bitXor i j)) := opI0 fun _ _ _ _ _ _ _ q => ixor_int q

theorem unI {f : Value → Sem Value} {g : Int → Int}
    (rule : ∀ (i : Int) (t : Tok) (s : Shared) (Q : Value → Shared → Prop) (E : Value → Shared → Prop), Q (.int (g i) s.toks) { s with toks := s.toks + 1 } → wpAny (model X.prog X.w) X.A (f (.int i t)) Q E s) :
    UnR X f (rU fun i => .int (g i)) := by
  intro pins s σ H x v Q I rx h
  obtain ⟨i, rfl, q⟩ := h
  obtain ⟨t, rfl⟩ := rx
  exact rule i t s _ _ ⟨.int (g i), H, I.tok _, ⟨_, rfl⟩, q⟩
theorem un_neg : UnR X (unaryOp .USub) (rU fun i => .int (-i)) := unI fun _ _ _ _ _ q => neg_int q
theorem un_inv : UnR X (unaryOp .Invert) (rU fun i => .int (Builtin.bitNot i)) := unI fun _ _ _ _ _ q => invert_int q

/-! ### bools among ints: n += (a < b) -/
theorem op_add_ib : OpR X (binaryOp .Add) (fun x y H Q => ∃ i k, x = .int i ∧ y = .bl k ∧ Q (.int (i + b2i k)) H) := by
  intro pins s σ H x y v u Q I rx ry h
  obtain ⟨i, k, rfl, rfl, q⟩ := h
  obtain ⟨t, rfl⟩ := rx
  cases ry
  exact add_int_bool ⟨.int (i + b2i k), H, I.tok _, ⟨_, rfl⟩, q⟩
end

/-! ### comparisons -/
/-- the scalars that == tells apart as data does -/
def scal : V → V → Bool
  | .non, .non => true | .non, .int _ => true | .int _, .non => true | .non, .bl _ => true | .bl _, .non => true | .non, .str _ => true | .str _, .non => true
  | .int _, .int _ => true | .bl _, .bl _ => true | .str _, .str _ => true | .byt _, .byt _ => true
  | .int _, .str _ => true | .str _, .int _ => true | .bl _, .str _ => true | .str _, .bl _ => true
  | _, _ => false
def rEq : R2 := fun x y H Q => scal x y = true ∧ Q (.bl (decide (x = y))) H
def rNe : R2 := fun x y H Q => scal x y = true ∧ Q (.bl (!decide (x = y))) H

theorem dec_int {i j : Int} : decide (V.int i = V.int j) = (i == j) := by
  rw [Bool.eq_iff_iff]
  simp
theorem dec_bl {i j : Bool} : decide (V.bl i = V.bl j) = (i == j) := by
  rw [Bool.eq_iff_iff]
  simp
theorem dec_str {i j : Str} : decide (V.str i = V.str j) = (i == j) := by
  rw [Bool.eq_iff_iff]
  simp
theorem dec_byt {i j : Array UInt8} : decide (V.byt i = V.byt j) = (i.toList == j.toList) := by
  rw [Bool.eq_iff_iff]
  cases i
  cases j
  simp

section
variable {X : Cx} {a b c : Expr} {ta tb tc : TE} {pos : Pos}
theorem fin_bl {pins : List (Addr × Obj)} {σ : St} {H : Hp} {s : Shared} {Q : VK} {k k' : Bool} (I : Inv X pins σ H s) (q : Q (.bl k) H) (e : k = k') : EP X pins σ Q (.bool k') s := by
  subst e
  exact ⟨.bl k, H, I, rfl, q⟩
theorem op_eq : OpR X (compareOp .Eq) rEq := by
  intro pins s σ H x y v u Q I rx ry h
  obtain ⟨hs, q⟩ := h
  cases x with
  | non =>
    cases rx
    cases y with
    | non => cases ry; exact PySem.EqNone.eq_none_none (fin_bl I q (by simp))
    | bl j => cases ry; exact PySem.EqNone.eq_none_bool (fin_bl I q (by simp))
    | int j => obtain ⟨t', rfl⟩ := ry; exact PySem.EqNone.eq_none_int (fin_bl I q (by simp))
    | str j => obtain ⟨t', rfl⟩ := ry; exact PySem.EqNone.eq_none_str (fin_bl I q (by simp))
    | _ => exact absurd (show false = true from hs) Bool.false_ne_true
  | bl i =>
    cases rx
    cases y with
    | non => cases ry; exact PySem.EqNone.eq_bool_none (fin_bl I q (by simp))
    | bl j => cases ry; exact eq_bool (fin_bl I q dec_bl)
    | str j => obtain ⟨t', rfl⟩ := ry; exact PySem.EqMixed.eq_bool_str (fin_bl I q (by simp))
    | _ => exact absurd (show false = true from hs) Bool.false_ne_true
  | int i =>
    obtain ⟨t, rfl⟩ := rx
    cases y with
    | non => cases ry; exact PySem.EqNone.eq_int_none (fin_bl I q (by simp))
    | int j => obtain ⟨t', rfl⟩ := ry; exact eq_int (fin_bl I q dec_int)
    | str j => obtain ⟨t', rfl⟩ := ry; exact PySem.EqMixed.eq_int_str (fin_bl I q (by simp))
    | _ => exact absurd (show false = true from hs) Bool.false_ne_true
  | str i =>
    obtain ⟨t, rfl⟩ := rx
    cases y with
    | non => cases ry; exact PySem.EqNone.eq_str_none (fin_bl I q (by simp))
    | bl j => cases ry; exact PySem.EqMixed.eq_str_bool (fin_bl I q (by simp))
    | int j => obtain ⟨t', rfl⟩ := ry; exact PySem.EqMixed.eq_str_int (fin_bl I q (by simp))
    | str j => obtain ⟨t', rfl⟩ := ry; exact eq_str (fin_bl I q dec_str)
    | _ => exact absurd (show false = true from hs) Bool.false_ne_true
  | byt i =>
    obtain ⟨t, rfl⟩ := rx
    cases y with
    | byt j => obtain ⟨t', rfl⟩ := ry; exact PySem.W.eq_bytes (fin_bl I q dec_byt)
    | _ => exact absurd (show false = true from hs) Bool.false_ne_true
  | _ => cases y <;> exact absurd (show false = true from hs) Bool.false_ne_true
theorem op_ne : OpR X (compareOp .NotEq) rNe := by
  intro pins s σ H x y v u Q I rx ry h
  obtain ⟨hs, q⟩ := h
  cases x with
  | non =>
    cases rx
    cases y with
    | non => cases ry; exact PySem.EqNone.ne_none_none (fin_bl I q (by simp))
    | bl j => cases ry; exact PySem.EqNone.ne_none_bool (fin_bl I q (by simp))
    | int j => obtain ⟨t', rfl⟩ := ry; exact PySem.EqNone.ne_none_int (fin_bl I q (by simp))
    | str j => obtain ⟨t', rfl⟩ := ry; exact PySem.EqNone.ne_none_str (fin_bl I q (by simp))
    | _ => exact absurd (show false = true from hs) Bool.false_ne_true
  | bl i =>
    cases rx
    cases y with
    | non => cases ry; exact PySem.EqNone.ne_bool_none (fin_bl I q (by simp))
    | bl j => cases ry; exact ne_bool (fin_bl I q (congrArg not dec_bl))
    | str j => obtain ⟨t', rfl⟩ := ry; exact PySem.EqMixed.ne_bool_str (fin_bl I q (by simp))
    | _ => exact absurd (show false = true from hs) Bool.false_ne_true
  | int i =>
    obtain ⟨t, rfl⟩ := rx
    cases y with
    | non => cases ry; exact PySem.EqNone.ne_int_none (fin_bl I q (by simp))
    | int j => obtain ⟨t', rfl⟩ := ry; exact ne_int (fin_bl I q (congrArg not dec_int))
    | str j => obtain ⟨t', rfl⟩ := ry; exact PySem.EqMixed.ne_int_str (fin_bl I q (by simp))
    | _ => exact absurd (show false = true from hs) Bool.false_ne_true
  | str i =>
    obtain ⟨t, rfl⟩ := rx
    cases y with
    | non => cases ry; exact PySem.EqNone.ne_str_none (fin_bl I q (by simp))
    | bl j => cases ry; exact PySem.EqMixed.ne_str_bool (fin_bl I q (by simp))
    | int j => obtain ⟨t', rfl⟩ := ry; exact PySem.EqMixed.ne_str_int (fin_bl I q (by simp))
    | str j => obtain ⟨t', rfl⟩ := ry; exact ne_str (fin_bl I q (congrArg not dec_str))
    | _ => exact absurd (show false = true from hs) Bool.false_ne_true
  | byt i =>
    obtain ⟨t, rfl⟩ := rx
    cases y with
    | byt j => obtain ⟨t', rfl⟩ := ry; exact PySem.W.ne_bytes (fin_bl I q (congrArg not dec_byt))
    | _ => exact absurd (show false = true from hs) Bool.false_ne_true
  | _ => cases y <;> exact absurd (show false = true from hs) Bool.false_ne_true

theorem op_lt : OpR X (compareOp .Lt) (rI0 fun i j => .bl (decide (i < j))) := opB0 fun _ _ _ _ _ _ _ q => lt_int q
theorem op_le : OpR X (compareOp .LtE) (rI0 fun i j => .bl (decide (i ≤ j))) := opB0 fun _ _ _ _ _ _ _ q => le_int q
theorem op_gt : OpR X (compareOp .Gt) (rI0 fun i j => .bl (decide (j < i))) := opB0 fun _ _ _ _ _ _ _ q => gt_int q
theorem op_ge : OpR X (compareOp .GtE) (rI0 fun i j => .bl (decide (j ≤ i))) := opB0 fun _ _ _ _ _ _ _ q => ge_int q
theorem op_lt_str : OpR X (compareOp .Lt) (fun x y H Q => ∃ i j, x = .str i ∧ y = .str j ∧ Q (.bl (decide (i.cps.toList < j.cps.toList))) H) := by
  intro pins s σ H x y v u Q I rx ry h
  obtain ⟨i, j, rfl, rfl, q⟩ := h
  obtain ⟨t, rfl⟩ := rx
  obtain ⟨t', rfl⟩ := ry
  exact lt_str (fin_bl I q rfl)
/-- the one string within the other -/
theorem op_in_str : OpR X (compareOp .In) (fun x y H Q => ∃ i j, x = .str i ∧ y = .str j ∧ Q (.bl (!(Builtin.Str.occurrences j i 0 j.length 1).isEmpty)) H) := by
  intro pins s σ H x y v u Q I rx ry h
  obtain ⟨i, j, rfl, rfl, q⟩ := h
  obtain ⟨t, rfl⟩ := rx
  obtain ⟨t', rfl⟩ := ry
  exact in_str (fin_bl I q rfl)

/-- is None, is not None: the right side a value none -/
theorem op_isN : OpR X (compareOp .Is) (fun x y H Q => y = .non ∧ Q (.bl (decide (x = .non))) H) := by
  intro pins s σ H x y v u Q I rx ry h
  obtain ⟨rfl, q⟩ := h
  cases ry
  refine is_none_gen (fin_bl I q ?_)
  cases x <;> first
    | (cases rx; rfl)
    | (obtain ⟨t, rfl⟩ := rx; rfl)
theorem op_notN : OpR X (compareOp .IsNot) (fun x y H Q => y = .non ∧ Q (.bl (!decide (x = .non))) H) := by
  intro pins s σ H x y v u Q I rx ry h
  obtain ⟨rfl, q⟩ := h
  cases ry
  refine isnot_none_gen (fin_bl I q ?_)
  cases x <;> first
    | (cases rx; rfl)
    | (obtain ⟨t, rfl⟩ := rx; rfl)

theorem op_notin_str : OpR X (compareOp .NotIn) (fun x y H Q => ∃ i j, x = .str i ∧ y = .str j ∧ Q (.bl (!(!(Builtin.Str.occurrences j i 0 j.length 1).isEmpty))) H) := by
  intro pins s σ H x y v u Q I rx ry h
  obtain ⟨i, j, rfl, rfl, q⟩ := h
  obtain ⟨t, rfl⟩ := rx
  obtain ⟨t', rfl⟩ := ry
  exact notIn_str (fin_bl I q rfl)
/-- is, is not of two objects that are tracked lists or instances -/
def isObj : HO → Bool
  | .lst _ => true
  | .ins _ _ _ => true
  | _ => false
theorem obj_there {pins : List (Addr × Obj)} {s : Shared} {σ : St} {H : Hp} {a : Addr} {o : HO} (I : Inv X pins σ H s) (h : H a = some o) (p : isObj o = true) : ∃ ob, s.heap.get? a = some ob ∧ ob.cls ≠ .type "tuple" := by
  cases o with
  | lst xs =>
    obtain ⟨_, its, n, _, e⟩ : xs.length ≤ sizeLine ∧ ∃ (its : List Value) (n : Nat), Vals xs its ∧ s.heap.get? a = some { cls := .type "list", data := .seq its.toArray n } := I.hok a _ h
    exact ⟨_, e, (by show Value.type "list" ≠ .type "tuple"; decide +kernel)⟩
  | ins C dx fs =>
    have x := I.hok a _ h
    obtain ⟨_, _, _, e, _⟩ := x
    exact ⟨_, e, (by show Value.ref C ≠ .type "tuple"; exact fun z => by cases z)⟩
  | _ => exact absurd (show false = true from p) Bool.false_ne_true
theorem op_is_ref : OpR X (compareOp .Is) (fun x y H Q => ∃ a b oa ob, x = .ref a ∧ y = .ref b ∧ H a = some oa ∧ isObj oa = true ∧ H b = some ob ∧ isObj ob = true ∧ Q (.bl (decide (a = b))) H) := by
  intro pins s σ H x y v u Q I rx ry h
  obtain ⟨a, b, oa, ob, rfl, rfl, ha, pa, hb, pb, q⟩ := h
  cases rx
  cases ry
  obtain ⟨o1, e1, n1⟩ := obj_there I ha pa
  obtain ⟨o2, e2, _⟩ := obj_there I hb pb
  by_cases z : a = b
  · subst z
    exact wpAny_is_ref_self (fin_bl I q (by simp))
  · exact wpAny_is_ref_other z e1 e2 n1 (fin_bl I q (by simp [z]))
theorem op_isnot_ref : OpR X (compareOp .IsNot) (fun x y H Q => ∃ a b oa ob, x = .ref a ∧ y = .ref b ∧ H a = some oa ∧ isObj oa = true ∧ H b = some ob ∧ isObj ob = true ∧ Q (.bl (!decide (a = b))) H) := by
  intro pins s σ H x y v u Q I rx ry h
  obtain ⟨a, b, oa, ob, rfl, rfl, ha, pa, hb, pb, q⟩ := h
  cases rx
  cases ry
  obtain ⟨o1, e1, n1⟩ := obj_there I ha pa
  obtain ⟨o2, e2, _⟩ := obj_there I hb pb
  by_cases z : a = b
  · subst z
    exact wpAny_isNot_ref_self (fin_bl I q (by simp))
  · exact wpAny_isNot_ref_other z e1 e2 n1 (fin_bl I q (by simp [z]))

/-- two rules for one operation: by cases -/
theorem OpR.or {f : Value → Value → Sem Value} {r r' : R2} (h : OpR X f r) (h' : OpR X f r') : OpR X f (fun x y H Q => r x y H Q ∨ r' x y H Q) := by
  intro pins s σ H x y v u Q I rx ry q
  rcases q with q | q
  · exact h pins s σ H x y v u Q I rx ry q
  · exact h' pins s σ H x y v u Q I rx ry q

theorem nomark (b : Expr) {op : CmpOp} (h : op ≠ .In := by decide) (h2 : op ≠ .NotIn := by decide) : behindInMarks op b = false := by
  have e1 : (op == CmpOp.In) = false := by cases op <;> first | rfl | exact absurd rfl h
  have e2 : (op == CmpOp.NotIn) = false := by cases op <;> first | rfl | exact absurd rfl h2
  cases b <;> simp [behindInMarks, e1, e2]
/-- a comparison as a value; hm: nomark b, or (for in, not in) by with_unfolding_all rfl -/
theorem pe_cmpR {op : CmpOp} {r : R2} (ho : OpR X (compareOp op) r) (ha : PE X a ta) (hb : PE X b tb) (hm : behindInMarks op b = false) : PE X (.Compare a [op] [b] pos) (tOp r ta tb) := by
  intro pins s σ H Q I h
  exact wpAny_Compare1 (binT ha hb I h fun v u s2 x y H2 I2 rx ry q => ho pins s2 σ H2 x y v u Q I2 rx ry q) hm
/-- a reading of a value as a test -/
def tTest (t : TE) : TT := fun σ H Q => t σ H fun x H' => ∃ k, x = .bl k ∧ Q k H'
theorem pt_cmpR {op : CmpOp} {r : R2} (ho : OpR X (compareOp op) r) (ha : PE X a ta) (hb : PE X b tb) (hm : behindInMarks op b = false) : PT X (.Compare a [op] [b] pos) (tTest (tOp r ta tb)) := by
  intro pins s σ H Q I h
  refine wpAny_isTrue_Compare1 (thn (ha pins s σ H _ I h) fun v s1 ⟨x, H1, I1, r1, q1⟩ => thn (hb pins s1 σ H1 _ I1 q1) fun u s2 ⟨y, H2, I2, r2, q2⟩ =>
    thn (ho pins s2 σ H2 x y v u _ I2 r1 r2 q2) fun c s3 ⟨z, H3, I3, r3, k, e, q3⟩ => ?_) hm
  subst e
  cases r3
  exact wpAny_truthy_bool ⟨H3, I3, q3⟩
/-- a op1 b op2 c -/
def tChain (r r' : R2) (ta tb tc : TE) : TE := fun σ H Q => ta σ H fun x H1 => tb σ H1 fun y H2 => r x y H2 fun z H3 => ∃ k, z = .bl k ∧
  (if k = true then tc σ H3 fun w' H4 => r' y w' H4 Q else Q (.bl false) H3)
theorem pe_chain {op op' : CmpOp} {r r' : R2} (ho : OpR X (compareOp op) r) (ho' : OpR X (compareOp op') r') (ha : PE X a ta) (hb : PE X b tb) (hc : PE X c tc)
    (hm : lastMarks [op, op'] [b, c] = false := by with_unfolding_all rfl) : PE X (.Compare a [op, op'] [b, c] pos) (tChain r r' ta tb tc) := by
  intro pins s σ H Q I h
  refine Compare_chain (thn (ha pins s σ H _ I h) fun v s1 ⟨x, H1, I1, r1, q1⟩ => chain_link (thn (hb pins s1 σ H1 _ I1 q1) fun u s2 ⟨y, H2, I2, r2, q2⟩ =>
    thn (ho pins s2 σ H2 x y v u _ I2 r1 r2 q2) fun d s3 ⟨z, H3, I3, r3, k, e, q3⟩ => ?_)) hm
  subst e
  cases r3
  refine wpAny_truthy_bool ?_
  cases k with
  | false => exact ite_ff ⟨.bl false, H3, I3, rfl, q3⟩
  | true => exact ite_tt (chain_last (thn (hc pins s3 σ H3 _ I3 q3) fun w' s4 ⟨z', H4, I4, r4, q4⟩ => ho' pins s4 σ H4 y z' u w' Q I4 r2 r4 q4))
theorem pt_chain {op op' : CmpOp} {r r' : R2} (ho : OpR X (compareOp op) r) (ho' : OpR X (compareOp op') r') (ha : PE X a ta) (hb : PE X b tb) (hc : PE X c tc)
    (hm : lastMarks [op, op'] [b, c] = false := by with_unfolding_all rfl) : PT X (.Compare a [op, op'] [b, c] pos) (tTest (tChain r r' ta tb tc)) := by
  intro pins s σ H Q I h
  refine isTrue_chain (thn (ha pins s σ H _ I h) fun v s1 ⟨x, H1, I1, r1, q1⟩ => test_link (thn (hb pins s1 σ H1 _ I1 q1) fun u s2 ⟨y, H2, I2, r2, q2⟩ =>
    thn (ho pins s2 σ H2 x y v u _ I2 r1 r2 q2) fun d s3 ⟨z, H3, I3, r3, k, e, q3⟩ => ?_)) hm
  subst e
  cases r3
  refine wpAny_truthy_bool ?_
  cases k with
  | false =>
    obtain ⟨k', e', q'⟩ := q3
    cases e'
    exact ite_ff ⟨H3, I3, q'⟩
  | true =>
    refine ite_tt (test_last (thn (hc pins s3 σ H3 _ I3 q3) fun w' s4 ⟨z', H4, I4, r4, q4⟩ => thn (ho' pins s4 σ H4 y z' u w' _ I4 r2 r4 q4) fun d' s5 ⟨z2, H5, I5, r5, k2, e2, q5⟩ => ?_))
    subst e2
    cases r5
    exact wpAny_truthy_bool ⟨H5, I5, q5⟩

/-! ### truth -/
/-- a value's truth by the abstract heap -/
def TruV (K : PySem.W.Frag) (x : V) (H : Hp) (k : Bool) : Prop :=
  match x with
  | .non => k = false
  | .bl b => k = b
  | .int i => k = (i != 0)
  | .str y => y.length ≤ sizeLine ∧ k = ((y.length : Int) != 0)
  | .byt y => y.size ≤ sizeLine ∧ k = ((y.size : Int) != 0)
  | .ref p => (∃ xs, SqL K H p xs ∧ k = !xs.isEmpty) ∨ (∃ xs, SqT K H p xs ∧ k = !xs.isEmpty) ∨ ∃ kvs, H p = some (.dK kvs) ∧ k = !kvs.isEmpty
  | _ => False
theorem isEmpty_kv {κ : Type} {kvs : List (κ × V)} {vs : List (κ × Value)} (r : KV kvs vs) : (!vs.isEmpty) = !kvs.isEmpty := by
  cases r <;> rfl
theorem isEmpty_of {xs : List V} {its : List Value} (r : Vals xs its) : (!its.toArray.isEmpty) = !xs.isEmpty := by
  cases r <;> simp
theorem line63 : (sizeLine : Nat) < 2 ^ 63 := by rw [sizeLine_eq]; decide
theorem tru_ok : TruR X (fun x H Q => ∃ k, TruV X.K x H k ∧ Q k H) := by
  intro pins s σ H x v Q I rx h
  obtain ⟨k, e, q⟩ := h
  have hl := line63
  have hs : sizeLine = 16777216 := sizeLine_eq
  cases x with
  | non =>
    cases rx
    have e' : k = false := e
    subst e'
    exact truthy_none ⟨H, I, q⟩
  | bl b =>
    cases rx
    have e' : k = b := e
    subst e'
    exact wpAny_truthy_bool ⟨H, I, q⟩
  | int i =>
    obtain ⟨t, rfl⟩ := rx
    have e' : k = (i != 0) := e
    subst e'
    exact PySem.P.truthy_int ⟨H, I, q⟩
  | str y =>
    obtain ⟨t, rfl⟩ := rx
    obtain ⟨hy, e'⟩ : y.length ≤ sizeLine ∧ k = ((y.length : Int) != 0) := e
    subst e'
    exact PySem.P.truthy_str (by omega) ⟨H, I.tok _, q⟩
  | byt y =>
    obtain ⟨t, rfl⟩ := rx
    obtain ⟨hy, e'⟩ : y.size ≤ sizeLine ∧ k = ((y.size : Int) != 0) := e
    subst e'
    exact PySem.W.truthy_bytes (by omega) ⟨H, I.tok _, q⟩
  | ref p =>
    cases rx
    have e' : (∃ xs, SqL X.K H p xs ∧ k = !xs.isEmpty) ∨ (∃ xs, SqT X.K H p xs ∧ k = !xs.isEmpty) ∨ ∃ kvs, H p = some (.dK kvs) ∧ k = !kvs.isEmpty := e
    rcases e' with ⟨xs, hx, e'⟩ | ⟨xs, hx, e'⟩ | ⟨kvs, hx, e'⟩
    · subst e'
      obtain ⟨its, r, pl, hz⟩ := I.list hx
      have hlen := r.length
      exact wpAny_truthy_list pl.isList (by simp only [List.size_toArray]; omega) ⟨H, I.tok _, by rw [isEmpty_of r]; exact q⟩
    · subst e'
      obtain ⟨its, r, pl, hz⟩ := I.tuple hx
      have hlen := r.length
      exact truthy_tuple pl (by simp only [List.size_toArray]; omega) ⟨H, I.tok _, by rw [isEmpty_of r]; exact q⟩
    · subst e'
      obtain ⟨hz, hS, vs, r, m⟩ : kvs.length ≤ sizeLine ∧ (p == sysModules) = false ∧ ∃ vs, KV kvs vs ∧ s.heap.DictOf (mixKind X.prog X.w) p vs := I.hok p _ hx
      have hlen : kvs.length = vs.length := Paired.length r
      exact wpAny_truthy_dict hS m (by omega) ⟨H, I.tok _, by rw [isEmpty_kv r]; exact q⟩
  | _ => exact (show False from e).elim
/-- any expression whose test is its value's truth (a name, a call, a subscript, a field ..: he by fun _ => rfl) -/
theorem pt_truth (ha : PE X a ta) (he : ∀ whole, isTrue a X.env whole = (do let v ← whole; standAt a.pos; holding [v] (truthy v))) :
    PT X a (fun σ H Q => ta σ H fun x H' => ∃ k, TruV X.K x H' k ∧ Q k H') := by
  intro pins s σ H Q I h
  exact isTrue_plain (thn (ha pins s σ H _ I h) fun v s1 ⟨x, H1, I1, r1, q1⟩ => tru_ok pins s1 σ H1 x v Q I1 r1 q1) (he _)

/-! ### strs and bytes -/
theorem pe_byt {x : List UInt8} {k : Nat} : PE X (.Constant (.bytes x) k pos) (fun _ H Q => Q (.byt x.toArray) H) := fun _ _ _ H _ I h => PySem.W.Constant_bytes ⟨.byt x.toArray, H, I.tok _, ⟨_, rfl⟩, h⟩
theorem op_add_str : OpR X (binaryOp .Add) (fun x y H Q => ∃ i j, x = .str i ∧ y = .str j ∧ i.length + j.length ≤ sizeLine ∧ Q (.str (i ++ j)) H) := by
  intro pins s σ H x y v u Q I rx ry h
  obtain ⟨i, j, rfl, rfl, hz, q⟩ := h
  obtain ⟨t, rfl⟩ := rx
  obtain ⟨t', rfl⟩ := ry
  exact add_str (fun t' tk => ⟨.str (i ++ j), H, I.tok _, ⟨_, rfl⟩, q⟩) hz
theorem iop_add_str : OpR X (inplaceOp .Add) (fun x y H Q => ∃ i j, x = .str i ∧ y = .str j ∧ i.length + j.length ≤ sizeLine ∧ Q (.str (i ++ j)) H) := by
  intro pins s σ H x y v u Q I rx ry h
  obtain ⟨i, j, rfl, rfl, hz, q⟩ := h
  obtain ⟨t, rfl⟩ := rx
  obtain ⟨t', rfl⟩ := ry
  exact iadd_str (fun t' tk => ⟨.str (i ++ j), H, I.tok _, ⟨_, rfl⟩, q⟩) hz
theorem op_add_byt : OpR X (binaryOp .Add) (fun x y H Q => ∃ i j, x = .byt i ∧ y = .byt j ∧ i.size + j.size ≤ 16777216 ∧ Q (.byt (i ++ j)) H) := by
  intro pins s σ H x y v u Q I rx ry h
  obtain ⟨i, j, rfl, rfl, hz, q⟩ := h
  obtain ⟨t, rfl⟩ := rx
  obtain ⟨t', rfl⟩ := ry
  exact PySem.W.KBy.add_bytes hz (fun t' tk => ⟨.byt (i ++ j), H, I.tok _, ⟨_, rfl⟩, q⟩)

def PlainIxT (b : Expr) : Prop := ∀ o i, subscripted b false o i = operate [o, i] (getItem o i)
/-- s[i], 0 ≤ i < len -/
theorem pe_item_str (ha : PE X a ta) (hb : PE X b tb) (hs : PlainIxT b) :
    PE X (.Subscript a b pos) (tOp (fun x y H Q => ∃ z i c, x = .str z ∧ y = .int i ∧ 0 ≤ i ∧ i < 2 ^ 63 ∧ i < z.length ∧ z.cps[i.toNat]? = some c ∧ Q (.str ⟨#[c]⟩) H) ta tb) := by
  intro pins s σ H Q I h
  refine Subscript_ (binT ha hb I h fun v u s2 x y H2 I2 rx ry q => ?_)
  obtain ⟨z, i, c, rfl, rfl, h0, h63, h1, hc, q⟩ := q
  obtain ⟨t, rfl⟩ := rx
  obtain ⟨t', rfl⟩ := ry
  have e : seqIndex? i z.length = some i.toNat := PySem.StrLaws.seqIndex_nonneg h0 h1
  exact tail_any (typeIs_str s2 z t) slot_str_getitem.lookup (getItem_str (c := c) (by
    have e1 : decide (i < -(2 ^ 63 : Int)) = false := decide_eq_false (by omega)
    have e2 : decide (i ≥ 2 ^ 63) = false := decide_eq_false (by omega)
    rw [e1, e2] <;> rfl) (by rw [e]; exact hc) ⟨.str ⟨#[c]⟩, H2, I2.tok _, ⟨_, rfl⟩, q⟩) (hs _ _)
/-- b[i], 0 ≤ i < len -/
theorem pe_item_byt (ha : PE X a ta) (hb : PE X b tb) (hs : PlainIxT b) :
    PE X (.Subscript a b pos) (tOp (fun x y H Q => ∃ (z : List UInt8) (i : Int), x = .byt z.toArray ∧ y = .int i ∧ z.length ≤ sizeLine ∧ 0 ≤ i ∧ i < z.length ∧ Q (.int ((z.getD i.toNat 0).toNat : Nat)) H) ta tb) := by
  intro pins s σ H Q I h
  refine Subscript_ (binT ha hb I h fun v u s2 x y H2 I2 rx ry q => ?_)
  obtain ⟨z, i, rfl, rfl, hz, h0, h1, q⟩ := q
  obtain ⟨t, rfl⟩ := rx
  obtain ⟨t', rfl⟩ := ry
  have hl : sizeLine = 16777216 := sizeLine_eq
  exact tail_any (PySem.W.typeIs_bytes s2 z.toArray t) PySem.W.FB.slot_bytes_getitem.lookup (PySem.W.getItem_bytes (by omega) h0 h1 ⟨.int ((z.getD i.toNat 0).toNat : Nat), H2, I2.tok _, ⟨_, rfl⟩, q⟩) (hs _ _)

/-! ### scalar builtins, by CallR -/
theorem vals1 {x : V} {us : List Value} (r : Vals [x] us) : ∃ u, us = [u] ∧ RelV x u := by
  cases r with
  | cons r1 r2 => cases r2; exact ⟨_, rfl, r1⟩
theorem vals2 {x y : V} {us : List Value} (r : Vals [x, y] us) : ∃ u w', us = [u, w'] ∧ RelV x u ∧ RelV y w' := by
  cases r with
  | cons r1 r2 =>
    cases r2 with
    | cons r3 r4 => cases r4; exact ⟨_, _, rfl, r1, r3⟩
theorem call_abs : CallR X (.builtin "abs") (fun xs H Q => ∃ i, xs = [.int i] ∧ Q (.int (if i < 0 then -i else i)) H) := by
  intro pins s σ H xs us Q I r h
  obtain ⟨i, rfl, q⟩ := h
  obtain ⟨u, rfl, t, rfl⟩ := vals1 r
  exact call_abs_int fun u tk => ⟨.int (if i < 0 then -i else i), H, I.tok _, ⟨_, rfl⟩, q⟩
theorem call_max2 (hc : X.calm = true) : CallR X (.builtin "max") (fun xs H Q => ∃ i j, xs = [.int i, .int j] ∧ Q (.int (if j > i then j else i)) H) := by
  intro pins s σ H xs us Q I r h
  obtain ⟨i, j, rfl, q⟩ := h
  obtain ⟨u, w', rfl, ⟨t, rfl⟩, ⟨t', rfl⟩⟩ := vals2 r
  refine max_two_ints (I.ok.hd hc) fun h' tk k => ⟨_, H, I.kept k, ?_, q⟩
  by_cases hj : j > i
  · rw [if_pos hj, if_pos hj]; exact ⟨_, rfl⟩
  · rw [if_neg hj, if_neg hj]; exact ⟨_, rfl⟩
theorem call_min2 (hc : X.calm = true) : CallR X (.builtin "min") (fun xs H Q => ∃ i j, xs = [.int i, .int j] ∧ Q (.int (if j < i then j else i)) H) := by
  intro pins s σ H xs us Q I r h
  obtain ⟨i, j, rfl, q⟩ := h
  obtain ⟨u, w', rfl, ⟨t, rfl⟩, ⟨t', rfl⟩⟩ := vals2 r
  refine min_two_ints (I.ok.hd hc) fun h' tk k => ⟨_, H, I.kept k, ?_, q⟩
  by_cases hj : j < i
  · rw [if_pos hj, if_pos hj]; exact ⟨_, rfl⟩
  · rw [if_neg hj, if_neg hj]; exact ⟨_, rfl⟩
theorem call_int1 : CallR X (.type "int") (fun xs H Q => (∃ i, xs = [.int i] ∧ Q (.int i) H) ∨ ∃ k, xs = [.bl k] ∧ Q (.int (if k then 1 else 0)) H) := by
  intro pins s σ H xs us Q I r h
  rcases h with ⟨i, rfl, q⟩ | ⟨k, rfl, q⟩
  · obtain ⟨u, rfl, t, rfl⟩ := vals1 r
    exact call_int_int ⟨.int i, H, I, ⟨_, rfl⟩, q⟩
  · obtain ⟨u, rfl, r1⟩ := vals1 r
    cases r1
    exact call_int_bool ⟨.int (if k then 1 else 0), H, I.tok _, ⟨_, rfl⟩, q⟩
theorem call_bool1 : CallR X (.type "bool") (fun xs H Q => (∃ i, xs = [.int i] ∧ Q (.bl (i != 0)) H) ∨ ∃ k, xs = [.bl k] ∧ Q (.bl k) H) := by
  intro pins s σ H xs us Q I r h
  rcases h with ⟨i, rfl, q⟩ | ⟨k, rfl, q⟩
  · obtain ⟨u, rfl, t, rfl⟩ := vals1 r
    exact call_bool_int ⟨.bl (i != 0), H, I, rfl, q⟩
  · obtain ⟨u, rfl, r1⟩ := vals1 r
    cases r1
    exact call_bool_bool ⟨.bl k, H, I, rfl, q⟩
theorem call_str_int : CallR X (.type "str") (fun xs H Q => ∃ i, xs = [.int i] ∧ i.natAbs.log2 < 1920 ∧ Q (.str (toString i)) H) := by
  intro pins s σ H xs us Q I r h
  obtain ⟨i, rfl, hz, q⟩ := h
  obtain ⟨u, rfl, t, rfl⟩ := vals1 r
  exact PySem.P.str_of_int hz ⟨.str _, H, I.tok _, ⟨_, rfl⟩, q⟩
theorem call_ord : CallR X (.builtin "ord") (fun xs H Q => ∃ x, xs = [.str x] ∧ x.length = 1 ∧ Q (.int (x.cps.getD 0 0 : Nat)) H) := by
  intro pins s σ H xs us Q I r h
  obtain ⟨x, rfl, hz, q⟩ := h
  obtain ⟨u, rfl, t, rfl⟩ := vals1 r
  exact ord_of_one hz ⟨.int _, H, I.tok _, ⟨_, rfl⟩, q⟩
theorem call_chr : CallR X (.builtin "chr") (fun xs H Q => ∃ i, xs = [.int i] ∧ 0 ≤ i ∧ i ≤ 1114111 ∧ Q (.str ⟨#[i.toNat]⟩) H) := by
  intro pins s σ H xs us Q I r h
  obtain ⟨i, rfl, h0, h1, q⟩ := h
  obtain ⟨u, rfl, t, rfl⟩ := vals1 r
  exact chr_of_range h0 h1 ⟨.str _, H, I.tok _, ⟨_, rfl⟩, q⟩
/-- len of a str, a bytes, a list, a tuple -/
def LenV (K : PySem.W.Frag) (x : V) (H : Hp) (n : Nat) : Prop :=
  match x with
  | .str y => y.length ≤ sizeLine ∧ n = y.length
  | .byt y => y.size ≤ sizeLine ∧ n = y.size
  | .ref p => (∃ xs, SqL K H p xs ∧ n = xs.length) ∨ ∃ xs, SqT K H p xs ∧ n = xs.length
  | _ => False
theorem call_len : CallR X (.builtin "len") (fun xs H Q => ∃ x n, xs = [x] ∧ LenV X.K x H n ∧ Q (.int n) H) := by
  intro pins s σ H xs us Q I r h
  obtain ⟨x, n, rfl, e, q⟩ := h
  obtain ⟨u, rfl, rx⟩ := vals1 r
  have hl := line63
  have hs : sizeLine = 16777216 := sizeLine_eq
  cases x with
  | str y =>
    obtain ⟨t, rfl⟩ := rx
    obtain ⟨hy, e'⟩ : y.length ≤ sizeLine ∧ n = y.length := e
    subst e'
    exact len_str (by omega) ⟨.int _, H, I.tok _, ⟨_, rfl⟩, q⟩
  | byt y =>
    obtain ⟨t, rfl⟩ := rx
    obtain ⟨hy, e'⟩ : y.size ≤ sizeLine ∧ n = y.size := e
    subst e'
    exact PySem.W.len_bytes (by omega) ⟨.int _, H, I.tok _, ⟨_, rfl⟩, q⟩
  | ref p =>
    cases rx
    have e' : (∃ xs, SqL X.K H p xs ∧ n = xs.length) ∨ ∃ xs, SqT X.K H p xs ∧ n = xs.length := e
    rcases e' with ⟨xs, hx, e'⟩ | ⟨xs, hx, e'⟩
    · subst e'
      obtain ⟨its, r', pl, hz⟩ := I.list hx
      have hlen := r'.length
      exact Calls.call_len_list pl.isList (by simp only [List.size_toArray]; omega) ⟨.int xs.length, H, I.tok _, ⟨_, by simp only [List.size_toArray]; rw [hlen]⟩, q⟩
    · subst e'
      obtain ⟨its, r', pl, hz⟩ := I.tuple hx
      have hlen := r'.length
      exact len_tuple pl (by simp only [List.size_toArray]; omega) ⟨.int xs.length, H, I.tok _, ⟨_, by simp only [List.size_toArray]; rw [hlen]⟩, q⟩
  | _ => exact (show False from e).elim
/-- divmod: a new tuple -/
theorem call_divmod : CallR X (.builtin "divmod") (fun xs H Q => ∃ i j, xs = [.int i, .int j] ∧ CDiv i j ∧ ∀ p, H p = none → Q (.ref p) (upd H p (.tup [.int (i / j), .int (i % j)]))) := by
  intro pins s σ H xs us Q I r h
  obtain ⟨i, j, rfl, ⟨h1, h2⟩, q⟩ := h
  obtain ⟨u, w', rfl, ⟨t, rfl⟩, ⟨t', rfl⟩⟩ := vals2 r
  refine divmod_int (by omega) ?_ (.inl (PyProof.noPylong_small (by omega)))
  rw [Int.fdiv_eq_ediv_of_nonneg i (by omega), Int.fmod_eq_emod_of_nonneg i (by omega)]
  have hn : H s.heap.objs.size = none := I.hok.fresh (Nat.le_refl _)
  refine ⟨.ref s.heap.objs.size, _, ?_, rfl, q _ hn⟩
  refine I.laid (fun b o e => Heap.get?_push_of_some _ e) (Nat.le_refl _) ⟨by simp only [List.length_cons, List.length_nil]; rw [sizeLine_eq]; decide, [.int (i / j) s.toks, .int (i % j) (s.toks + 1)], .cons ⟨_, rfl⟩ (.cons ⟨_, rfl⟩ .nil), ?_⟩
  exact ⟨_, Heap.get?_push_size s.heap rfl, rfl, 0, rfl⟩
end
end L2

namespace L2
open PySem PySem.Spec PyProof.Rows

/-! ### an instance, its attributes a map -/
structure ObjM (h : Heap) (x dx C : Addr) (mA : Str → Option Value) : Prop where
  obj : h.get? x = some (PySem.W.instObj C dx)
  ns : h.Ns1 dx mA
  ne : dx ≠ x

theorem lookIn_ns {h : Heap} {dx : Addr} {mA : Str → Option Value} (n : h.Ns1 dx mA) : ∃ od, h.get? dx = some od ∧ ∀ name, PySem.W.lookIn name od = some (mA name) := by
  obtain ⟨o, es, ep, ho, hd, hk, _, hm⟩ := n
  refine ⟨o, ho, fun name => ?_⟩
  have e := hm name
  unfold nsFind findBy at e
  rw [← Array.find?_toList] at e
  unfold PySem.W.lookIn
  rw [hd]
  dsimp only
  split
  · rename_i y q
    rw [q] at e
    exact congrArg some e
  · rename_i q
    rw [q] at e
    have a : es.toList.any (·.refKey) = false := by
      rw [List.any_eq_false]
      intro y hy
      obtain ⟨z, t, hkey⟩ := hk y (Array.mem_toList_iff.mp hy)
      simp [DictEntry.refKey, hkey]
    have a' : ¬ es.toList.any (·.refKey) = true := by rw [a]; exact Bool.false_ne_true
    rw [if_neg a']
    exact congrArg some e

theorem ObjM.look {h : Heap} {x dx C : Addr} {mA : Str → Option Value} (I : ObjM h x dx C mA) : ∃ od, PySem.W.InstAt h x (PySem.W.instObj C dx) C (some od) ∧ ∀ name, PySem.W.lookIn name od = some (mA name) :=
  let ⟨od, ho, hl⟩ := lookIn_ns I.ns
  ⟨od, ⟨I.obj, rfl, rfl, ho⟩, hl⟩

section
variable {prog : Program} {w : World} {A : Around} {E : Value → Shared → Prop} {s : Shared} {K : PySem.W.Frag} {x dx C f : Addr} {mA : Str → Option Value} {name : Str} {v : Value}

theorem get_map {expr : Bool} {Q : Value → Shared → Prop} (X : K.In s.heap) (I : ObjM s.heap x dx C mA) (hg : PySem.W.plainGet K C name = true) (hh : PySem.W.hasDictIn K C = true)
    (ha : PySem.W.findIn K (.ref C) name = some none) (hv : mA name = some v) (hv' : PySem.W.handedIn v = true) (h : Q v { s with toks := s.toks + 1 }) :
    wpAny (model prog w) A (getAttr (.ref x) name expr) Q E s := by
  obtain ⟨od, J, hl⟩ := I.look
  exact PySem.W.get_value X J (PySem.W.plainGet_of hg).1 (PySem.W.findObj_own hh ha rfl (by rw [hl, hv])) hv' h

theorem get_const {expr : Bool} {a : Value} {Q : Value → Shared → Prop} (X : K.In s.heap) (I : ObjM s.heap x dx C mA) (hg : PySem.W.plainGet K C name = true) (hh : PySem.W.hasDictIn K C = true)
    (ha : PySem.W.findIn K (.ref C) name = some (some a)) (hn : PySem.W.specialIn K a "__get__" = some none) (hc : PySem.W.copiedNames.contains name = false) (hv : mA name = none) (hv' : PySem.W.handedIn a = true)
    (h : Q a { s with toks := s.toks + 1 }) : wpAny (model prog w) A (getAttr (.ref x) name expr) Q E s := by
  obtain ⟨od, J, hl⟩ := I.look
  exact PySem.W.get_value X J (PySem.W.plainGet_of hg).1 (PySem.W.findObj_cls hh ha hn hv' hc (by rw [hl, hv])) hv' h

theorem get_meth {pl : Sem Bool} {Q : Value × List Value → Shared → Prop} (X : K.In s.heap) (I : ObjM s.heap x dx C mA) (hg : PySem.W.plainGet K C name = true)
    (hf : PySem.W.findIn K (.ref C) name = some (some (.ref f))) (ht : PySem.W.isFn K (.ref f) = true) (hv : mA name = none) (h : Q (.ref f, [.ref x]) s) :
    wpAny (model prog w) A (getMethod (.ref x) name pl) Q E s := by
  obtain ⟨od, J, hl⟩ := I.look
  exact PySem.W.method_fn X J (PySem.W.plainGet_of hg).1 (PySem.W.plainGet_of hg).2 hf (beq_iff_eq.mp ht) (by show (PySem.W.lookIn name od).map (·.isSome) = some false; rw [hl, hv]; rfl) h

theorem set_map {ns : List Str} {Q : Unit → Shared → Prop} (X : K.In s.heap) (I : ObjM s.heap x dx C mA)
    (hs : PySem.W.findIn K (.ref C) "__setattr__" = some (some (.builtin "object.__setattr__"))) (hp : PySem.W.plainOver K C = true) (ht : PySem.W.takerIn K C name = some none) (hh : PySem.W.hasDictIn K C = true)
    (hw : PySem.Within mA ns) (hsz : ns.length ≤ sizeLine)
    (h : ∀ h', ObjM h' x dx C (fun y => if y = name then some v else mA y) → Heap.SameBut dx s.heap h' → Q () { s with heap := h', toks := s.toks + 2 }) :
    wpAny (model prog w) A (setAttr (.ref x) name v) Q E s := by
  obtain ⟨od, J, hl⟩ := I.look
  refine PySem.W.set_plain X J hs (PySem.W.osa_open (s := { s with toks := s.toks + 1 }) (r := none) X J hp ht fun b => ?_)
  obtain ⟨cd, hc, hd'⟩ := PySem.W.any_some hh
  have hx : s.heap.get? x = some ⟨.ref C, some dx, .plain, #[]⟩ := I.obj
  refine wpAny_bind (wpAny_pure (wpAny_bind (wpAny_bind (wpAny_loadPart hx (wpAny_bind (PySem.W.Looks.here (s := { s with toks := s.toks + 1 }) (PySem.W.looks_clsIn X hc) ?_))))))
  rw [hd']
  refine wpAny_pure (a := some dx) (wpAny_bind (wpAny_pure (wpAny_bind ?_)))
  refine wpAny_nsSet1 (s := { s with toks := s.toks + 1 }) I.ns fun h' hn2 hs2 => ?_
  obtain ⟨oD, esD, epD, hoD, hdD, hcD⟩ := hn2.count (PySem.Within.cons name v hw)
  refine wpAny_bind (wpAny_lookBehind hoD (by rw [hdD]; exact pastItsLine_dict (Nat.le_trans hcD (by rw [List.length_cons]; omega))) ?_)
  exact wpAny_pure (h _ ⟨(hs2.2 _ (Ne.symm I.ne)).trans I.obj, hn2, I.ne⟩ hs2)

/-- C(..): the dict at the heap's end, the instance behind it; then its __init__ -/
theorem make_map {R : Result → Shared → Prop} {vs : List Value} {kw : List (Str × Value)} (X : K.In s.heap) (hm : PySem.W.makesIn K C = true)
    (hi : PySem.W.findIn K (.ref C) "__init__" = some (some (.ref f))) (hf : PySem.W.typeIn K (.ref f) = some (.type "function"))
    (h : codeAny (model prog w) (A.under (.builtin "type.__call__" ⟨.ref C :: vs, kw⟩)) (.call (.ref f) ⟨.ref (s.heap.objs.size + 1) :: vs, kw⟩) (PySem.W.InitBack (s.heap.objs.size + 1) R)
      { s with heap := (s.heap.push PySem.W.emptyDict).push (PySem.W.instObj C s.heap.objs.size) }) :
    codeAny (model prog w) A (.call (.ref C) ⟨vs, kw⟩) R s := by
  obtain ⟨hh, g, d, t, os⟩ := s
  exact PySem.W.make_core (PySem.W.makes_of X hm) (PySem.W.looks_findIn X hi) (fun self => PySem.W.bind_fn X self hf) (.inl rfl) h
/-- C() where there is no __init__ but object's -/
theorem make_map0 {R : Result → Shared → Prop} (X : K.In s.heap) (hm : PySem.W.makesIn K C = true)
    (hi : PySem.W.findIn K (.ref C) "__init__" = some (some (.builtin "object.__init__")))
    (hb : ∀ self, PySem.W.Looks (model prog w) s.heap (bindSpecial (.builtin "object.__init__") self) (.builtin "object.__init__", [self]))
    (h : codeAny (model prog w) (A.under (.builtin "type.__call__" ⟨[.ref C], []⟩)) (.call (.builtin "object.__init__") ⟨[.ref (s.heap.objs.size + 1)], []⟩) (PySem.W.InitBack (s.heap.objs.size + 1) R)
      { s with heap := (s.heap.push PySem.W.emptyDict).push (PySem.W.instObj C s.heap.objs.size) }) :
    codeAny (model prog w) A (.call (.ref C) ⟨[], []⟩) R s := by
  obtain ⟨hh, g, d, t, os⟩ := s
  exact PySem.W.make_core (PySem.W.makes_of X hm) (PySem.W.looks_findIn X hi) hb (.inr ⟨rfl, rfl⟩) h
end

/-! ### the attributes as a list of pairs -/
def putF (f : Str) (v : V) : List (Str × V) → List (Str × V)
  | [] => [(f, v)]
  | (g, x) :: r => if g = f then (g, v) :: r else (g, x) :: putF f v r
theorem lookup_putF (f g : Str) (v : V) : ∀ fs : List (Str × V), (putF f v fs).lookup g = if g = f then some v else fs.lookup g
  | [] => by
    show List.lookup g [(f, v)] = _
    by_cases h : g = f
    · have hb : (g == f) = true := beq_iff_eq.mpr h
      simp only [List.lookup, hb, if_pos h]
    · have hb : (g == f) = false := beq_eq_false_iff_ne.mpr h
      simp only [List.lookup, hb, if_neg h]
  | (k, x) :: r => by
    have ih := lookup_putF f g v r
    rw [show putF f v ((k, x) :: r) = (if k = f then (k, v) :: r else (k, x) :: putF f v r) from rfl]
    by_cases hk : k = f
    · rw [if_pos hk]
      by_cases h : g = k
      · have hb : (g == k) = true := beq_iff_eq.mpr h
        simp only [List.lookup, hb, if_pos (h.trans hk)]
      · have hb : (g == k) = false := beq_eq_false_iff_ne.mpr h
        simp only [List.lookup, hb, if_neg (fun e : g = f => h (e.trans hk.symm))]
    · rw [if_neg hk]
      by_cases h : g = k
      · have hb : (g == k) = true := beq_iff_eq.mpr h
        simp only [List.lookup, hb, if_neg (fun e : g = f => hk (h.symm.trans e))]
      · have hb : (g == k) = false := beq_eq_false_iff_ne.mpr h
        simp only [List.lookup, hb]
        exact ih
theorem keys_putF (f : Str) (v : V) : ∀ fs : List (Str × V), f ∈ (putF f v fs).map (·.1) ∧ ∀ g, g ∈ fs.map (·.1) → g ∈ (putF f v fs).map (·.1)
  | [] => ⟨by simp [putF], fun g h => by simp at h⟩
  | (k, x) :: r => by
    obtain ⟨i1, i2⟩ := keys_putF f v r
    rw [show putF f v ((k, x) :: r) = (if k = f then (k, v) :: r else (k, x) :: putF f v r) from rfl]
    by_cases hk : k = f
    · rw [if_pos hk]
      subst hk
      exact ⟨by simp, fun g h => by simpa using h⟩
    · rw [if_neg hk]
      refine ⟨?_, fun g h => ?_⟩
      · rw [List.map_cons]
        exact List.mem_cons_of_mem _ i1
      · rw [List.map_cons] at h ⊢
        rcases List.mem_cons.mp h with e | e
        · exact List.mem_cons.mpr (.inl e)
        · exact List.mem_cons_of_mem _ (i2 g e)
theorem length_putF (f : Str) (v : V) : ∀ fs : List (Str × V), (putF f v fs).length ≤ fs.length + 1
  | [] => by simp [putF]
  | (k, x) :: r => by
    have ih := length_putF f v r
    rw [show putF f v ((k, x) :: r) = (if k = f then (k, v) :: r else (k, x) :: putF f v r) from rfl]
    by_cases hk : k = f
    · rw [if_pos hk, List.length_cons, List.length_cons]; omega
    · rw [if_neg hk, List.length_cons, List.length_cons]; omega

theorem RelO.some_of {v : V} {o : Option Value} (r : RelO (some v) o) : ∃ u, o = some u ∧ RelV v u := by
  cases o with
  | none => exact (show False from r).elim
  | some u => exact ⟨u, rfl, r⟩
theorem RelO.none_of {o : Option Value} (r : RelO none o) : o = none := by
  cases o with
  | none => rfl
  | some u => exact (show False from r).elim
theorem handed_of {v : V} {u : Value} (r : RelV v u) : PySem.W.handedIn u = true := by
  cases v with
  | non => cases (show u = Value.none from r); rfl
  | bl b => cases (show u = Value.bool b from r); rfl
  | int i => obtain ⟨t, e⟩ := (show ∃ t, u = Value.int i t from r); cases e; rfl
  | str x => obtain ⟨t, e⟩ := (show ∃ t, u = Value.str x t from r); cases e; rfl
  | byt b => obtain ⟨t, e⟩ := (show ∃ t, u = Value.bytes b t from r); cases e; rfl
  | flt b => obtain ⟨t, e⟩ := (show ∃ t, u = Value.float b t from r); cases e; rfl
  | ref a => cases (show u = Value.ref a from r); rfl
  | ty n => cases (show u = Value.type n from r); rfl

section
variable {P : Program} {w : World} {H H' : Hp} {h h' : Heap} {a C dx : Addr} {fs fs' : List (Str × V)}
theorem ins_get (hok : HOk P w H h) (e : H a = some (.ins C dx fs)) : ∃ mA, ObjM h a dx C mA ∧ (∀ f, RelO (fs.lookup f) (mA f)) ∧ PySem.Within mA (fs.map (·.1)) ∧ fs.length ≤ 1000 ∧ H dx = some (.own a) := by
  obtain ⟨d, z, ne, ob, mA, n, r, q⟩ := (show ObjOk P w H h a (.ins C dx fs) from hok a _ e)
  exact ⟨mA, ⟨ob, n, ne⟩, r, q, z, d⟩
end

/-! ### what of the text a class must have -/
structure Cls (K : PySem.W.Frag) (C : Addr) : Prop where
  pg : PySem.W.plainGet K C Str.empty = true
  hd : PySem.W.hasDictIn K C = true
  po : PySem.W.plainOver K C = true
  sa : PySem.W.findIn K (.ref C) "__setattr__" = some (some (.builtin "object.__setattr__"))
theorem Cls.get {K : PySem.W.Frag} {C : Addr} (c : Cls K C) (f : Str) : PySem.W.plainGet K C f = true := c.pg
/-- no class of it has the name -/
def NoAttr (K : PySem.W.Frag) (C : Addr) (f : Str) : Prop := PySem.W.findIn K (.ref C) f = some none
theorem NoAttr.taker {K : PySem.W.Frag} {C : Addr} {f : Str} (n : NoAttr K C f) : PySem.W.takerIn K C f = some none := by
  unfold PySem.W.takerIn
  rw [show PySem.W.findIn K (.ref C) f = some none from n]
  rfl
/-- a constant of the class -/
structure Con (K : PySem.W.Frag) (C : Addr) (f : Str) (v : V) (u : Value) : Prop where
  at_ : PySem.W.findIn K (.ref C) f = some (some u)
  rel : RelV v u
  get : PySem.W.specialIn K u "__get__" = some none
  cp : PySem.W.copiedNames.contains f = false
/-- a method: a plain def of the class or of one above it -/
structure Meth (K : PySem.W.Frag) (C : Addr) (m : Str) (f : Addr) : Prop where
  at_ : PySem.W.findIn K (.ref C) m = some (some (.ref f))
  fn : PySem.W.isFn K (.ref f) = true
  kp : PySem.W.keepIn K (.ref f) = true

section
variable {X : Cx} {pins : List (Addr × Obj)} {σ : St} {H : Hp} {s : Shared} {a C dx : Addr} {fs : List (Str × V)} {f : Str} {v : V} {A : Around} {E : Value → Shared → Prop}

theorem getattr_ok {b : Bool} {Q : Value → Shared → Prop} (I : Inv X pins σ H s) (e : H a = some (.ins C dx fs)) (c : Cls X.K C) (n : NoAttr X.K C f) (l : fs.lookup f = some v)
    (h : ∀ u s', Inv X pins σ H s' → RelV v u → Q u s') : wpAny (model X.prog X.w) A (getAttr (.ref a) f b) Q E s := by
  obtain ⟨mA, O, r, _, _, _⟩ := ins_get I.hok e
  obtain ⟨u, hu, ru⟩ := RelO.some_of (v := v) (o := mA f) (by rw [← l]; exact r f)
  exact get_map I.kIn O (c.get f) c.hd n hu (handed_of ru) (h u _ (I.tok _) ru)

theorem getcon_ok {b : Bool} {u : Value} {Q : Value → Shared → Prop} (I : Inv X pins σ H s) (e : H a = some (.ins C dx fs)) (c : Cls X.K C) (k : Con X.K C f v u) (l : fs.lookup f = none)
    (h : ∀ s', Inv X pins σ H s' → Q u s') : wpAny (model X.prog X.w) A (getAttr (.ref a) f b) Q E s := by
  obtain ⟨mA, O, r, _, _, _⟩ := ins_get I.hok e
  have hn : mA f = none := RelO.none_of (by rw [← l]; exact r f)
  exact get_const I.kIn O (c.get f) c.hd k.at_ k.get k.cp hn (handed_of k.rel) (h _ (I.tok _))

theorem getmeth_ok {m : Str} {g : Addr} {pl : Sem Bool} {Q : Value × List Value → Shared → Prop} (I : Inv X pins σ H s) (e : H a = some (.ins C dx fs)) (c : Cls X.K C) (k : Meth X.K C m g) (l : fs.lookup m = none)
    (h : Q (.ref g, [.ref a]) s) : wpAny (model X.prog X.w) A (getMethod (.ref a) m pl) Q E s := by
  obtain ⟨mA, O, r, _, _, _⟩ := ins_get I.hok e
  have hn : mA m = none := RelO.none_of (by rw [← l]; exact r m)
  exact get_meth I.kIn O (c.get m) k.at_ k.fn hn h

theorem setattr_ok {y : V} {u : Value} {Q : Unit → Shared → Prop} (I : Inv X pins σ H s) (e : H a = some (.ins C dx fs)) (c : Cls X.K C) (n : NoAttr X.K C f) (hl : fs.length < 1000) (ry : RelV y u)
    (h : ∀ s', Inv X pins σ (upd H a (.ins C dx (putF f y fs))) s' → Q () s') : wpAny (model X.prog X.w) A (setAttr (.ref a) f u) Q E s := by
  obtain ⟨mA, O, r, wi, _, ho⟩ := ins_get I.hok e
  have hz : (fs.map (·.1)).length ≤ sizeLine := by rw [List.length_map, sizeLine_eq]; omega
  refine set_map I.kIn O c.sa c.po n.taker c.hd wi hz fun h' O' sb => h _ ?_
  have hd : ∃ o, h'.get? dx = some o := let ⟨o, _, _, e', _⟩ := O'.ns; ⟨o, e'⟩
  refine I.write (x := a) (e := dx) (by rw [e]; exact True.intro) (.inr ho) (fun b q hb z => (sb.2 b hb).trans z) hd ?_
  refine ⟨by rw [upd_ne O.ne]; exact ho, ?_, O.ne, O'.obj, _, O'.ns, fun g => ?_, fun g hg => ?_⟩
  · have := length_putF f y fs; omega
  · show RelO ((putF f y fs).lookup g) (if g = f then some u else mA g)
    rw [lookup_putF]
    by_cases q : g = f
    · rw [if_pos q, if_pos q]; exact ry
    · rw [if_neg q, if_neg q]; exact r g
  · by_cases q : g = f
    · rw [q]; exact (keys_putF f y fs).1
    · refine (keys_putF f y fs).2 g (wi g fun z => hg ?_)
      show (if g = f then some u else mA g) = none
      rw [if_neg q]; exact z

/-- a new instance, tracked, without attributes -/
theorem Inv.made (I : Inv X pins σ H s) : Inv X pins σ (upd (upd H s.heap.objs.size (.own (s.heap.objs.size + 1))) (s.heap.objs.size + 1) (.ins C s.heap.objs.size []))
    { s with heap := (s.heap.push PySem.W.emptyDict).push (PySem.W.instObj C s.heap.objs.size) } := by
  have e1 : (s.heap.push PySem.W.emptyDict).get? s.heap.objs.size = some PySem.W.emptyDict := Heap.get?_push_size s.heap rfl
  have e2 : ((s.heap.push PySem.W.emptyDict).push (PySem.W.instObj C s.heap.objs.size)).get? (s.heap.objs.size + 1) = some (PySem.W.instObj C s.heap.objs.size) := by
    have := Heap.get?_push_size (s.heap.push PySem.W.emptyDict) (o := PySem.W.instObj C s.heap.objs.size) rfl
    rwa [Heap.size_push] at this
  have e3 : (s.heap.push PySem.W.emptyDict).Ns s.heap.objs.size (fun _ => none) := ⟨PySem.W.emptyDict, #[], _, e1, rfl, (fun e he => absurd he (by simp)), fun _ => rfl⟩
  have I1 := I.laid (a := s.heap.objs.size) (o := .own (s.heap.objs.size + 1)) (h' := s.heap.push PySem.W.emptyDict) (t' := s.toks) (fun b u q => Heap.get?_push_of_some _ q) (Nat.le_refl _) ⟨_, e1⟩
  refine I1.laid (a := s.heap.objs.size + 1) (o := .ins C s.heap.objs.size []) (t' := s.toks) (fun b u q => Heap.get?_push_of_some _ q) (Nat.le_of_eq (Heap.size_push _ _)) ?_
  have ne : s.heap.objs.size ≠ s.heap.objs.size + 1 := Nat.ne_of_lt (Nat.lt_succ_self _)
  refine ⟨by rw [upd_ne ne, upd_same], Nat.zero_le _, ne, e2, fun _ => none, (Heap.Ns1.of_empty e3).at fun o q => Heap.get?_push_of_some _ q, fun _ => True.intro, fun y hy => absurd rfl hy⟩

/-- e.f where nothing but the object is asked: through attributeBase (super) and the last hold -/
theorem attr_of {prog : Program} {w : World} {env : Env} {e : Expr} {f : Str} {pos : Pos} {s : Shared} {Q : Value → Shared → Prop} (hb : attributeBase e f env (eval e env) = eval e env)
    (h : wpAny (model prog w) A (eval e env) (fun o s₁ => wpAny (model prog w) A (getAttr o f true) Q E s₁) E s) : wpAny (model prog w) A (eval (.Attribute e f pos) env) Q E s :=
  Attribute_any_ h (by rw [arm_eval_Attribute, hb])
end

/-! ### readings and rules -/
/-- e.f, an attribute of the instance -/
def tFld (K : PySem.W.Frag) (ta : TE) (f : Str) : TE := fun σ H Q => ta σ H fun x H1 => ∃ a C dx fs v, x = .ref a ∧ H1 a = some (.ins C dx fs) ∧ Cls K C ∧ NoAttr K C f ∧ fs.lookup f = some v ∧ Q v H1
/-- e.f, a constant of the class -/
def tCon (K : PySem.W.Frag) (ta : TE) (f : Str) : TE := fun σ H Q => ta σ H fun x H1 => ∃ a C dx fs v u, x = .ref a ∧ H1 a = some (.ins C dx fs) ∧ Cls K C ∧ Con K C f v u ∧ fs.lookup f = none ∧ Q v H1
/-- e.f = value -/
def sFld (K : PySem.W.Frag) (ta tv : TE) (f : Str) : TS := fun D σ H => tv σ H fun y H1 => ta σ H1 fun x H2 => ∃ a C dx fs, x = .ref a ∧ H2 a = some (.ins C dx fs) ∧ Cls K C ∧ NoAttr K C f ∧ fs.length < 1000 ∧
  D.nx σ (upd H2 a (.ins C dx (putF f y fs)))
/-- an augmented operator on two values -/
def InOp (X : Cx) (op : Operator) (rd : V → V → Hp → VK → Prop) : Prop :=
  ∀ (pins : List (Addr × Obj)) (s : Shared) (σ : St) (H : Hp) (x y : V) (u v : Value) (Q : VK), Inv X pins σ H s → RelV x u → RelV y v → rd x y H Q → wpAny (model X.prog X.w) X.A (inplaceOp op u v) (EP X pins σ Q) X.xe s
/-- e.f op= value -/
def sFldAug (K : PySem.W.Frag) (ta tv : TE) (rd : V → V → Hp → VK → Prop) (f : Str) : TS := fun D σ H => ta σ H fun x H1 => ∃ a C dx fs v, x = .ref a ∧ H1 a = some (.ins C dx fs) ∧ Cls K C ∧ NoAttr K C f ∧ fs.lookup f = some v ∧
  tv σ H1 fun y H2 => rd v y H2 fun z H3 => ∃ dx' fs', H3 a = some (.ins C dx' fs') ∧ fs'.length < 1000 ∧ D.nx σ (upd H3 a (.ins C dx' (putF f z fs')))

section
variable {X : Cx} {o e value : Expr} {f : Str} {pos pos' tpos : Pos} {ta tv : TE}
theorem pe_fld (he : PE X e ta) (hb : attributeBase e f X.env (eval e X.env) = eval e X.env) : PE X (.Attribute e f pos) (tFld X.K ta f) := by
  intro pins s σ H Q I h
  refine attr_of hb (thn (he pins s σ H _ I h) fun u s1 ⟨x, H1, I1, rx, a, C, dx, fs, v, ex, ea, c, n, l, q⟩ => ?_)
  subst ex
  obtain rfl : u = Value.ref a := rx
  exact getattr_ok I1 ea c n l fun u' s2 I2 ru => ⟨v, H1, I2, ru, q⟩
theorem pe_con (he : PE X e ta) (hb : attributeBase e f X.env (eval e X.env) = eval e X.env) : PE X (.Attribute e f pos) (tCon X.K ta f) := by
  intro pins s σ H Q I h
  refine attr_of hb (thn (he pins s σ H _ I h) fun u s1 ⟨x, H1, I1, rx, a, C, dx, fs, v, u0, ex, ea, c, k, l, q⟩ => ?_)
  subst ex
  obtain rfl : u = Value.ref a := rx
  exact getcon_ok I1 ea c k l fun s2 I2 => ⟨v, H1, I2, k.rel, q⟩
theorem ps_fld (ha : PE X o ta) (hv : PE X value tv) (hs : swapsWith value (some (.Attribute o f pos')) pos.line X.env = pure false) : PS X (.Assign [.Attribute o f pos'] value pos) (sFld X.K ta tv f) := by
  intro pins s σ H D I h
  refine plainObj_wpAny_Assign_Attribute (thn (hv pins s σ H _ I h) fun u s1 ⟨y, H1, I1, ry, q⟩ => thn (ha pins s1 σ H1 _ I1 q) fun ov s2 ⟨x, H2, I2, rx, a, C, dx, fs, ex, ea, c, n, l, q2⟩ => ?_) hs
  subst ex
  obtain rfl : ov = Value.ref a := rx
  exact setattr_ok I2 ea c n l ry fun s3 I3 => ⟨σ, _, I3, q2⟩
theorem ps_fldaug {op : Operator} {rd : V → V → Hp → VK → Prop} (ha : PE X o ta) (hv : PE X value tv) (hop : InOp X op rd) : PS X (.AugAssign (.Attribute o f tpos) op value pos) (sFldAug X.K ta tv rd f) := by
  intro pins s σ H D I h
  refine wpAny_AugAssign_AttributeAny (thn (ha pins s σ H _ I h) fun ov s1 ⟨x, H1, I1, rx, a, C, dx, fs, v, ex, ea, c, n, l, q⟩ => ?_)
  subst ex
  obtain rfl : ov = Value.ref a := rx
  refine getattr_ok I1 ea c n l fun u s2 I2 ru => thn (hv pins s2 σ H1 _ I2 q) fun w3 s3 ⟨y, H2, I3, ry, q3⟩ => thn (hop pins s3 σ H2 v y u w3 _ I3 ru ry q3) fun w4 s4 ⟨z, H3, I4, rz, dx', fs', ea', l', q4⟩ => ?_
  exact setattr_ok I4 ea' c n l' rz fun s5 I5 => ⟨σ, _, I5, q4⟩
def rAdd : V → V → Hp → VK → Prop := fun x y H Q => ∃ i j, x = .int i ∧ y = .int j ∧ Q (.int (i + j)) H
def rSub : V → V → Hp → VK → Prop := fun x y H Q => ∃ i j, x = .int i ∧ y = .int j ∧ Q (.int (i - j)) H
theorem in_add : InOp X .Add rAdd := by
  rintro pins s σ H x y u v Q I rx ry ⟨i, j, rfl, rfl, q⟩
  obtain ⟨t, rfl⟩ := (show ∃ t, u = Value.int i t from rx)
  obtain ⟨t', rfl⟩ := (show ∃ t', v = Value.int j t' from ry)
  exact PyProof.Rows.iadd_int ⟨.int (i + j), H, I.tok _, ⟨_, rfl⟩, q⟩
theorem in_sub : InOp X .Sub rSub := by
  rintro pins s σ H x y u v Q I rx ry ⟨i, j, rfl, rfl, q⟩
  obtain ⟨t, rfl⟩ := (show ∃ t, u = Value.int i t from rx)
  obtain ⟨t', rfl⟩ := (show ∃ t', v = Value.int j t' from ry)
  exact PyProof.Rows.isub_int ⟨.int (i - j), H, I.tok _, ⟨_, rfl⟩, q⟩

/-- what is between an instance and its method: the tree of a method call -/
theorem methcall_of {pl : Sem Bool} {m : Str} {apos : Pos} {args : List Expr} {pins : List (Addr × Obj)} {s : Shared} {σ : St} {H : Hp} {Q : Value → Shared → Prop} {te : TE} (he : PE X e te) (I : Inv X pins σ H s)
    (h : te σ H fun x H1 => ∃ a C dx fs g, x = .ref a ∧ H1 a = some (.ins C dx fs) ∧ Cls X.K C ∧ Meth X.K C m g ∧ fs.lookup m = none ∧
      ∀ s1, Inv X pins σ H1 s1 → wpAny (model X.prog X.w) X.A (callWith pos (.ref g) [.ref a] (backTo pos (starEach args X.env)) (backToKw pos (keywordEach [] X.env))) Q X.xe s1)
    (ht : eval (.Call (.Attribute e m apos) args [] pos) X.env = (do
      let ov ← eval e X.env
      standAt apos.atName
      let (f, first) ← holding [ov] (getMethod ov m pl)
      callWith pos f first (backTo pos (starEach args X.env)) (backToKw pos (keywordEach [] X.env)))) :
    wpAny (model X.prog X.w) X.A (eval (.Call (.Attribute e m apos) args [] pos) X.env) Q X.xe s := by
  refine PySem.W.methodCall_KW (pl := pl) (thn (he pins s σ H _ I h) fun u s1 ⟨x, H1, I1, rx, a, C, dx, fs, g, ex, ea, c, k, l, q⟩ => ?_) ht
  subst ex
  obtain rfl : u = Value.ref a := rx
  exact getmeth_ok I1 ea c k l (q s1 I1)
end

/-! ### isinstance -/
section
variable {X : Cx} {pins : List (Addr × Obj)} {σ : St} {H : Hp} {s : Shared} {A : Around} {E : Value → Shared → Prop} {Q : Value → Shared → Prop} {c : Value} {b : Bool}
/-- the type of a value, as the fragment's deciders take it; for an instance its class -/
inductive TyOf (K : PySem.W.Frag) (H : Hp) : V → Value → Prop where
  | non : TyOf K H .non (.type "NoneType")
  | bl (x : Bool) : TyOf K H (.bl x) (.type "bool")
  | int (i : Int) : TyOf K H (.int i) (.type "int")
  | str (x : Str) : TyOf K H (.str x) (.type "str")
  | flt (x : UInt64) : TyOf K H (.flt x) (.type "float")
  | lst {a : Addr} {xs : List V} (e : H a = some (.lst xs)) : TyOf K H (.ref a) (.type "list")
  | frz {a : Addr} {o : Obj} {xs : List V} (e : H a = some (.frz o (.lst xs))) : TyOf K H (.ref a) (.type "list")
  | tup {a : Addr} {xs : List V} (e : H a = some (.tup xs)) : TyOf K H (.ref a) (.type "tuple")
  | dK {a : Addr} {kvs : List (Key × V)} (e : H a = some (.dK kvs)) : TyOf K H (.ref a) (.type "dict")
  | dT {a : Addr} {kvs : List (List Key × V)} (e : H a = some (.dT kvs)) : TyOf K H (.ref a) (.type "dict")
  | ins {a C dx : Addr} {fs : List (Str × V)} (e : H a = some (.ins C dx fs)) (cl : Cls K C) (ha : PySem.W.findIn K (.ref C) "__class__" = some (some (.builtin "object.__class__")))
      (hn : PySem.W.specialIn K (.builtin "object.__class__") "__get__" = some (some (.builtin "getset_descriptor.__get__"))) (htk : PySem.W.takesIn K (.builtin "object.__class__") = some true)
      (hm : PySem.W.mroIn K C (.type "object") = some true) : TyOf K H (.ref a) (.ref C)
/-- isinstance(x, c) for one class c, a built-in or an own one: kitOne's answer -/
theorem isinst_ok {x : V} {u t : Value} (I : Inv X pins σ H s) (rx : RelV x u) (ty : TyOf X.K H x t) (e : PySem.W.kitOne X.K t c = some b) (h : ∀ tk, Q (.bool b) { s with toks := tk }) :
    wpAny (model X.prog X.w) A (call (.builtin "isinstance") [u, c]) Q E s := by
  cases ty with
  | non => cases (show u = Value.none from rx); exact PySem.W.kia_one PySem.W.kitx_none I.kIn True.intro e (fun z => nomatch z) h
  | bl y => cases (show u = Value.bool y from rx); exact PySem.W.kia_one PySem.W.kitx_bool I.kIn True.intro e (fun z => nomatch z) h
  | int i => obtain ⟨t, q⟩ := (show ∃ t, u = Value.int i t from rx); cases q; exact PySem.W.kia_one PySem.W.kitx_int I.kIn True.intro e (fun z => nomatch z) h
  | str y => obtain ⟨t, q⟩ := (show ∃ t, u = Value.str y t from rx); cases q; exact PySem.W.kia_one PySem.W.kitx_str I.kIn True.intro e (fun z => nomatch z) h
  | flt y => obtain ⟨t, q⟩ := (show ∃ t, u = Value.float y t from rx); cases q; exact PySem.W.kia_one PySem.W.kitx_float I.kIn True.intro e (fun z => nomatch z) h
  | @lst a xs ea =>
    cases (show u = Value.ref a from rx)
    obtain ⟨_, _, n, _, h1⟩ := (show ObjOk X.prog X.w H s.heap a (.lst xs) from I.hok a _ ea)
    exact PySem.W.kia_one PySem.W.kitx_list I.kIn ⟨_, h1, rfl⟩ e (fun z => nomatch z) h
  | @frz a ob xs ea =>
    cases (show u = Value.ref a from rx)
    obtain ⟨_, _, _, n, _, h1⟩ := (show ObjOk X.prog X.w H s.heap a (.frz ob (.lst xs)) from I.hok a _ ea)
    exact PySem.W.kia_one PySem.W.kitx_list I.kIn ⟨_, h1, rfl⟩ e (fun z => nomatch z) h
  | @tup a xs ea =>
    cases (show u = Value.ref a from rx)
    obtain ⟨_, _, _, p⟩ := (show ObjOk X.prog X.w H s.heap a (.tup xs) from I.hok a _ ea)
    obtain ⟨o, h1, h2, _⟩ := p
    exact PySem.W.kia_one PySem.W.kitx_tuple I.kIn ⟨o, h1, h2⟩ e (fun z => nomatch z) h
  | @dK a kvs ea =>
    cases (show u = Value.ref a from rx)
    obtain ⟨_, _, vs, _, p⟩ := (show ObjOk X.prog X.w H s.heap a (.dK kvs) from I.hok a _ ea)
    obtain ⟨o, es, ep, h1, h2, _⟩ := p
    exact PySem.W.kia_one PySem.W.kitx_dict I.kIn ⟨o, h1, h2.1⟩ e (fun z => nomatch z) h
  | @dT a kvs ea =>
    cases (show u = Value.ref a from rx)
    obtain ⟨_, _, xs, _, o, es, ep, h1, h2, _⟩ := (show ObjOk X.prog X.w H s.heap a (.dT kvs) from I.hok a _ ea)
    exact PySem.W.kia_one PySem.W.kitx_dict I.kIn ⟨o, h1, h2.1⟩ e (fun z => nomatch z) h
  | @ins a C dx fs ea cl ha hn htk hm =>
    cases (show u = Value.ref a from rx)
    obtain ⟨mA, O, _⟩ := ins_get I.hok ea
    obtain ⟨od, J, _⟩ := O.look
    exact PySem.W.kia_one (PySem.W.kitx_own (cl.get _) cl.hd ha hn htk hm) I.kIn J e (fun z => nomatch z) h
end
end L2

namespace L2
open PySem PySem.Spec PyProof.Rows

/-! ### room -/
structure Room (k : Nat) (A : Around) : Prop where
  hd : A.handled = none
  dp : A.depth + 3 * k + 5 < recursionLimit
  un : A.units + 16 * k + 200 < cLine
theorem Room.mono {j k : Nat} {A : Around} (r : Room k A) (h : j ≤ k) : Room j A := ⟨r.hd, by have := r.dp; omega, by have := r.un; omega⟩
theorem Room.deeper {k : Nat} {A : Around} (r : Room (k + 1) A) (env : Env) : Room k (A.deeper env) :=
  ⟨r.hd, by have := r.dp; show A.depth + 1 + 3 * k + 5 < _; omega, by have := r.un; show A.units + 3 + 16 * k + 200 < _; omega⟩
theorem Room.in1 {k : Nat} {A : Around} (r : Room (k + 1) A) : Room k A.in1 :=
  ⟨r.hd, by have := r.dp; show A.depth + 3 * k + 5 < _; omega, by have := r.un; show A.units + 1 + 16 * k + 200 < _; omega⟩
theorem make_depth {A : Around} {C : Addr} {us : List Value} {kw : List (Str × Value)} : (A.under (.builtin "type.__call__" ⟨.ref C :: us, kw⟩)).depth = A.depth + 1 := by
  first | rfl | simp [Around.under, Code.weight, Code.isCreation, Code.isGuard, Code.isCaller, Code.frames, Code.isFrame, guardIds]
theorem make_units {A : Around} {C : Addr} {us : List Value} {kw : List (Str × Value)} : (A.under (.builtin "type.__call__" ⟨.ref C :: us, kw⟩)).units = A.units + 1 := by
  first | rfl | simp [Around.under, Code.cUnits, Code.frames, Code.isFrame]
theorem Room.make {k : Nat} {A : Around} (r : Room (k + 1) A) (C : Addr) (us : List Value) (kw : List (Str × Value)) : Room k (A.under (.builtin "type.__call__" ⟨.ref C :: us, kw⟩)) :=
  ⟨r.hd, by have := r.dp; rw [make_depth]; omega, by have := r.un; rw [make_units]; omega⟩
theorem Room.depth {k : Nat} {A : Around} (r : Room k A) : A.depth < recursionLimit := by have := r.dp; omega
theorem Room.units {k : Nat} {A : Around} (r : Room k A) : A.units + 64 < cLine := by have := r.un; omega
theorem Room.units0 {k : Nat} {A : Around} (r : Room k A) : A.units < cLine := by have := r.un; omega

/-! ### argument lists and displays -/
def tNil : TA := fun _ H Q => Q [] H
def tCons (ta : TE) (tr : TA) : TA := fun σ H Q => ta σ H fun x H1 => tr σ H1 fun xs H2 => Q (x :: xs) H2
section
variable {X : Cx} {e : Expr} {es : List Expr} {te : TE} {t : TA} {pos : Pos}
theorem pa_nil : PA X [] tNil := fun _ _ _ _ H Q I h => Calls.spliced_nil ⟨[], H, I, .nil, h⟩
theorem pa_cons (ha : PE X e te) (hr : PA X es t) (hs : starEach (e :: es) X.env = (false, eval e X.env) :: starEach es X.env := by rfl) : PA X (e :: es) (tCons te t) := by
  intro pos pins s σ H Q I h
  rw [hs]
  show wpAny _ _ (spliced ((false, eval e X.env) :: backTo pos (starEach es X.env))) _ _ s
  refine Calls.spliced_cons (thn (ha pins s σ H _ I h) fun u s1 ⟨x, H1, I1, r1, q1⟩ => ?_)
  exact thn (hr pos pins s1 σ H1 _ I1 q1) fun us s2 ⟨xs, H2, I2, r2, q2⟩ => ⟨x :: xs, H2, I2, .cons r1 r2, q2⟩

/-- a tuple, a list of written items -/
def tTup (t : TA) : TE := fun σ H Q => t σ H fun xs H1 => xs.length ≤ sizeLine ∧ ∀ p, H1 p = none → Q (.ref p) (upd H1 p (.tup xs))
def tLst (t : TA) : TE := fun σ H Q => t σ H fun xs H1 => xs.length ≤ sizeLine ∧ ∀ p, H1 p = none → Q (.ref p) (upd H1 p (.lst xs))
theorem pe_tup {x1} (h : PA X es t) : PE X (.Tuple es x1 pos) (tTup t) := by
  intro pins s σ H Q I hq
  refine wpAny_Tuple_spliced (thn (h pos pins s σ H _ I hq) fun us s1 ⟨xs, H1, I1, r, z, q⟩ => ⟨by rw [← r.length]; exact z, ?_⟩)
  have hf : H1 s1.heap.objs.size = none := I1.hok.fresh (Nat.le_refl _)
  refine ⟨.ref s1.heap.objs.size, upd H1 s1.heap.objs.size (.tup xs), I1.laid (t' := s1.toks) (fun b u e => Heap.get?_push_of_some _ e) (Nat.le_refl _) ?_, rfl, q _ hf⟩
  exact ⟨z, us, r, ⟨_, Heap.get?_push_size _ rfl, rfl, _, rfl⟩⟩
theorem pe_lst (h : PA X es t) : PE X (.List es pos) (tLst t) := by
  intro pins s σ H Q I hq
  refine wpAny_List_spliced (thn (h pos pins s σ H _ I hq) fun us s1 ⟨xs, H1, I1, r, z, q⟩ => ⟨by rw [← r.length]; exact z, ?_⟩)
  have hf : H1 s1.heap.objs.size = none := I1.hok.fresh (Nat.le_refl _)
  refine ⟨.ref s1.heap.objs.size, upd H1 s1.heap.objs.size (.lst xs), I1.laid (t' := s1.toks) (fun b u e => Heap.get?_push_of_some _ e) (Nat.le_refl _) ?_, rfl, q _ hf⟩
  exact ⟨z, us, 0, r, Heap.get?_push_size _ rfl⟩
end

/-! ### what a def promises -/
/-- a def's promise: the bound arguments in the parameters' order, the heap, the wanted end, the wanted exception -/
abbrev Sp := List V → Hp → VK → XK → Prop
/-- how an exception lies behind a call (file 08 gives it): the callers' frames, abstract heap and state ahead of the call, the wish, the exception, the state -/
abbrev CXT := List Env → Hp → Shared → XK → Value → Shared → Prop

/-- the state at a call -/
structure Env0 (P : Program) (w : World) (K : PySem.W.Frag) (mg : Str → Option Value) (base : Heap) (A : Around) (outer : List Env) (s : Shared) (H : Hp) : Prop where
  frames : A.frames = some outer
  mod : Mod K mg base
  bs : ∀ b o, base.get? b = some o → s.heap.get? b = some o ∧ H b = none
  bsz : base.objs.size ≤ s.heap.objs.size
  funs : s.heap.FunFrames base outer
  frf : ∀ b ∈ frs outer, H b = none
  hok : HOk P w H s.heap
  bare : AllBare s.gens
/-- a call's end -/
def CE (outer : List Env) (P : Program) (w : World) (H : Hp) (s : Shared) (Q : VK) (u : Value) (s' : Shared) : Prop :=
  ∃ v H', s'.os = s.os ∧ AllBare s'.gens ∧ Un (frs outer) [] H H' s.heap s'.heap ∧ HOk P w H' s'.heap ∧ RelV v u ∧ Q v H'
def CR (CX : CXT) (outer : List Env) (P : Program) (w : World) (H : Hp) (s : Shared) (Q : VK) (E : XK) (r : Result) (s' : Shared) : Prop :=
  match r with
  | .ok (.ret u) => CE outer P w H s Q u s'
  | .ok _ => False
  | .error e => CX outer H s E e s'
structure FnOk (P : Program) (w : World) (K : PySem.W.Frag) (mg : Str → Option Value) (base : Heap) (CX : CXT) (k : Nat) (f : Addr) (fd : FuncData) (ps : List Str) (sp : Sp) : Prop where
  len : ∀ vs H Q E, sp vs H Q E → vs.length = ps.length
  run : ∀ (A : Around) (outer : List Env) (s : Shared) (H : Hp) (args : Args) (us : List Value) (vs : List V) (Q : VK) (E : XK), Room k A → Env0 P w K mg base A outer s H → BindsTo s fd args (ps.zip us) → Vals vs us → sp vs H Q E →
    codeAny (model P w) A (.call (.ref f) args) (CR CX outer P w H s Q E) s
theorem FnOk.mono {P : Program} {w : World} {K : PySem.W.Frag} {mg : Str → Option Value} {base : Heap} {CX : CXT} {j k : Nat} {f : Addr} {fd : FuncData} {ps : List Str} {sp : Sp} (F : FnOk P w K mg base CX j f fd ps sp) (h : j ≤ k) :
    FnOk P w K mg base CX k f fd ps sp := ⟨F.len, fun A outer s H args us vs Q E hr => F.run A outer s H args us vs Q E (hr.mono h)⟩
/-- a weaker promise -/
theorem FnOk.imp {P : Program} {w : World} {K : PySem.W.Frag} {mg : Str → Option Value} {base : Heap} {CX : CXT} {k : Nat} {f : Addr} {fd : FuncData} {ps : List Str} {sp sp' : Sp} (F : FnOk P w K mg base CX k f fd ps sp)
    (h : ∀ vs H Q E, sp' vs H Q E → sp vs H Q E) : FnOk P w K mg base CX k f fd ps sp' :=
  ⟨fun vs H Q E q => F.len vs H Q E (h _ _ _ _ q), fun A outer s H args us vs Q E hr he hb hv hs => F.run A outer s H args us vs Q E hr he hb hv (h _ _ _ _ hs)⟩

theorem Env0.make {P : Program} {w : World} {K : PySem.W.Frag} {mg : Str → Option Value} {base : Heap} {A : Around} {outer : List Env} {s : Shared} {H : Hp} (e : Env0 P w K mg base A outer s H) (C : Addr) (us : List Value) (kw : List (Str × Value)) :
    Env0 P w K mg base (A.under (.builtin "type.__call__" ⟨.ref C :: us, kw⟩)) outer s H := ⟨by first | exact e.frames | (simpa [Around.under, Code.envs, Code.isFrame, pushEnvs] using e.frames), e.mod, e.bs, e.bsz, e.funs, e.frf, e.hok, e.bare⟩
theorem Env0.in1 {P : Program} {w : World} {K : PySem.W.Frag} {mg : Str → Option Value} {base : Heap} {A : Around} {outer : List Env} {s : Shared} {H : Hp} (e : Env0 P w K mg base A outer s H) :
    Env0 P w K mg base A.in1 outer s H := ⟨e.frames, e.mod, e.bs, e.bsz, e.funs, e.frf, e.hok, e.bare⟩

section
variable {X : Cx} {pins : List (Addr × Obj)} {σ : St} {H : Hp} {s s' : Shared}
/-- from a body: what a callee wants -/
theorem Inv.env0 (I : Inv X pins σ H s) : Env0 X.prog X.w X.K X.mg X.base X.A X.stack s H :=
  ⟨I.ok.frames, I.ok.mod, I.bs, Nat.le_trans I.ok.bsz I.sz, I.stack, I.stkFree, I.hok, I.bare⟩
/-- behind a call -/
theorem Inv.after {Q : VK} {u : Value} (I : Inv X pins σ H s) (h : CE X.stack X.prog X.w H s Q u s') : EP X pins σ Q u s' := by
  obtain ⟨v, H', os, bare, un, hok, r, q⟩ := h
  obtain ⟨hh, g, d, t, os'⟩ := s'
  obtain rfl : os' = s.os := os
  exact ⟨v, H', I.call (h' := hh) (g' := g) (d' := d) (t' := t) (ch := []) un hok bare (fun b z => absurd z (by simp)), r, q⟩
end

/-! ### calls -/
/-- f(..): the written arguments, then the defaults dvs; E: what is wanted of an exception -/
def tCall (sp : Sp) (dvs : List V) (E : XK) (t : TA) : TE := fun σ H Q => t σ H fun vs H1 => sp (vs ++ dvs) H1 Q E
/-- o.m(..) of an instance of the class at C -/
def tMeth (C : Addr) (m : Str) (sp : Sp) (dvs : List V) (E : XK) (ta : TE) (t : TA) : TE := fun σ H Q => ta σ H fun x H1 => ∃ a dx fs, x = .ref a ∧ H1 a = some (.ins C dx fs) ∧ fs.lookup m = none ∧
  t σ H1 fun vs H2 => sp (x :: (vs ++ dvs)) H2 Q E
/-- C(..): a new instance and its dict, then __init__ -/
def tMake (C : Addr) (sp : Sp) (dvs : List V) (E : XK) (t : TA) : TE := fun σ H Q => t σ H fun vs H1 => ∀ x dx, H1 x = none → H1 dx = none → dx ≠ x →
  sp (.ref x :: (vs ++ dvs)) (upd (upd H1 dx (.own x)) x (.ins C dx [])) (fun v H2 => v = .non ∧ Q (.ref x) H2) E

/-- how the parameters are bound: us the positional arguments, kw the keywords' values by name, ds the defaults that fill up -/
def Binds (K : PySem.W.Frag) (fd : FuncData) (ps : List Str) (ds : List Value) : Prop :=
  ∀ (s : Shared) (us : List Value), K.In s.heap → (us ++ ds).length = ps.length → BindsTo s fd ⟨us, []⟩ (ps.zip (us ++ ds))
/-- every parameter is given -/
theorem Binds.all {K : PySem.W.Frag} {fd : FuncData} {ps : List Str} (h : ∀ us : List Value, us.length = ps.length → bindArgs fd ⟨us, []⟩ = pure (ps.zip us)) : Binds K fd ps [] := fun s us _ hl => by
  rw [List.append_nil] at hl ⊢
  exact .of_eq (h us hl)

/-- an exception of a callee reaches what this body wants of exceptions -/
def Passes (CX : CXT) (X : Cx) (E : XK) : Prop := ∀ (pins : List (Addr × Obj)) (σ : St) (H : Hp) (s : Shared) (e : Value) (s' : Shared), Inv X pins σ H s → CX X.stack H s E e s' → X.xe e s'

section
variable {X : Cx} {CX : CXT} {k : Nat} {f C : Addr} {fd : FuncData} {ps : List Str} {sp : Sp} {dvs : List V} {ds : List Value} {E : XK} {x m : Str} {p pos apos : Pos} {e o : Expr} {es : List Expr} {ta : TE} {t : TA}

/-- the callee runs -/
theorem run_fn {pins : List (Addr × Obj)} {σ : St} {H : Hp} {s : Shared} {Q : VK} {us : List Value} {vs : List V} (F : FnOk X.prog X.w X.K X.mg X.base CX k f fd ps sp) (hr : Room k X.A) (hb : Binds X.K fd ps ds) (hd : Vals dvs ds) (hx : Passes CX X E)
    (I : Inv X pins σ H s) (r : Vals vs us) (h : sp (vs ++ dvs) H Q E) : wpAny (model X.prog X.w) X.A (call (.ref f) us) (EP X pins σ Q) X.xe s := by
  have r2 : Vals (vs ++ dvs) (us ++ ds) := r.append hd
  have hl : (us ++ ds).length = ps.length := by rw [← r2.length]; exact F.len _ _ _ _ h
  refine wpAny_call (codeAny_mono (F.run X.A X.stack s H ⟨us, []⟩ (us ++ ds) (vs ++ dvs) Q E hr I.env0 (hb s us I.kIn hl) r2 h) fun r s' hq => ?_)
  cases r with
  | error e => exact hx pins σ H s e s' I hq
  | ok fl =>
    cases fl with
    | ret u => exact I.after hq
    | next => exact False.elim hq
    | brk => exact False.elim hq
    | cont => exact False.elim hq

theorem pe_call (F : FnOk X.prog X.w X.K X.mg X.base CX k f fd ps sp) (hr : Room k X.A) (hg : Gl X x) (hm : X.mg x = some (.ref f)) (hk : PySem.W.keepIn X.K (.ref f) = true) (hb : Binds X.K fd ps ds) (hd : Vals dvs ds) (hx : Passes CX X E)
    (ha : PA X (e :: es) t) (hdb : (x == ("__debug__" : Str)) = false := by decide) (he : starEach (e :: es) X.env = (false, eval e X.env) :: starEach es X.env := by rfl) (hpl : (backTo pos (starEach es X.env)).any (·.1) = false := by rfl) :
    PE X (.Call (.Name x p) (e :: es) [] pos) (tCall sp dvs E t) := by
  intro pins s σ H Q I h
  refine wpAny_Call_Name_kw (ld_glob I hg hm ?_ hdb)
  refine PySem.W.callWith_K (h₀ := X.base) I.ok.mod.kin hk (thn (ha pos pins s σ H _ I h) fun us s1 ⟨vs, H1, I1, r, q⟩ => ⟨I1.kIn, ?_⟩) he hpl
  exact run_fn F hr hb hd hx I1 r q
theorem pe_call0 (F : FnOk X.prog X.w X.K X.mg X.base CX k f fd ps sp) (hr : Room k X.A) (hg : Gl X x) (hm : X.mg x = some (.ref f)) (hk : PySem.W.keepIn X.K (.ref f) = true) (hb : Binds X.K fd ps ds) (hd : Vals dvs ds) (hx : Passes CX X E)
    (hdb : (x == ("__debug__" : Str)) = false := by decide) : PE X (.Call (.Name x p) [] [] pos) (tCall sp dvs E tNil) := by
  intro pins s σ H Q I h
  refine wpAny_Call_Name_kw (ld_glob I hg hm ?_ hdb)
  exact PySem.W.callWith_K0 I.kIn hk (run_fn (us := []) F hr hb hd hx I .nil h)

/-- o.m(e, ..) -/
theorem pe_meth {pl : Sem Bool} (he : PE X o ta) (c : Cls X.K C) (hm : Meth X.K C m f) (F : FnOk X.prog X.w X.K X.mg X.base CX k f fd ps sp) (hr : Room k X.A) (hb : Binds X.K fd ps ds) (hd : Vals dvs ds) (hx : Passes CX X E) (ha : PA X (e :: es) t)
    (hst : starEach (e :: es) X.env = (false, eval e X.env) :: starEach es X.env := by rfl) (hpl : (backTo pos (starEach es X.env)).any (·.1) = false := by rfl)
    (ht : eval (.Call (.Attribute o m apos) (e :: es) [] pos) X.env = (do
      let ov ← eval o X.env
      standAt apos.atName
      let (f, first) ← holding [ov] (getMethod ov m pl)
      callWith pos f first (backTo pos (starEach (e :: es) X.env)) (backToKw pos (keywordEach [] X.env))) := by rfl) :
    PE X (.Call (.Attribute o m apos) (e :: es) [] pos) (tMeth C m sp dvs E ta t) := by
  intro pins s σ H Q I h
  refine PySem.W.methodCall_KW (pl := pl) (thn (he pins s σ H _ I h) fun u s1 ⟨x, H1, I1, rx, a, dx, fs, ex, ea, l, q⟩ => ?_) ht
  subst ex
  obtain rfl : u = Value.ref a := rx
  refine getmeth_ok I1 ea c hm l ?_
  refine PySem.W.callWith_K (first := [.ref a]) (h₀ := X.base) I.ok.mod.kin hm.kp (thn (ha pos pins s1 σ H1 _ I1 q) fun us s2 ⟨vs, H2, I2, r, q2⟩ => ⟨I2.kIn, ?_⟩) hst hpl
  exact run_fn (us := .ref a :: us) (vs := .ref a :: vs) F hr hb hd hx I2 (.cons rfl r) q2
/-- o.m() -/
theorem pe_meth0 {pl : Sem Bool} (he : PE X o ta) (c : Cls X.K C) (hm : Meth X.K C m f) (F : FnOk X.prog X.w X.K X.mg X.base CX k f fd ps sp) (hr : Room k X.A) (hb : Binds X.K fd ps ds) (hd : Vals dvs ds) (hx : Passes CX X E)
    (ht : eval (.Call (.Attribute o m apos) [] [] pos) X.env = (do
      let ov ← eval o X.env
      standAt apos.atName
      let (f, first) ← holding [ov] (getMethod ov m pl)
      callWith pos f first (backTo pos (starEach [] X.env)) (backToKw pos (keywordEach [] X.env))) := by rfl) :
    PE X (.Call (.Attribute o m apos) [] [] pos) (tMeth C m sp dvs E ta tNil) := by
  intro pins s σ H Q I h
  refine PySem.W.methodCall_KW (pl := pl) (thn (he pins s σ H _ I h) fun u s1 ⟨x, H1, I1, rx, a, dx, fs, ex, ea, l, q⟩ => ?_) ht
  subst ex
  obtain rfl : u = Value.ref a := rx
  refine getmeth_ok I1 ea c hm l ?_
  exact PySem.W.callWith_K0 (first := [.ref a]) I1.kIn hm.kp (run_fn (us := [.ref a]) (vs := [.ref a]) F hr hb hd hx I1 (.cons rfl .nil) q)

/-- what a class must have to be made -/
structure Mk (K : PySem.W.Frag) (C f : Addr) : Prop where
  makes : PySem.W.makesIn K C = true
  init : PySem.W.findIn K (.ref C) "__init__" = some (some (.ref f))
  fn : PySem.W.isFn K (.ref f) = true
  kp : PySem.W.keepIn K (.ref C) = true

theorem run_make {pins : List (Addr × Obj)} {σ : St} {H : Hp} {s : Shared} {Q : VK} {us : List Value} {vs : List V} (M : Mk X.K C f) (F : FnOk X.prog X.w X.K X.mg X.base CX k f fd ps sp) (hr : Room (k + 1) X.A) (hb : Binds X.K fd ps ds) (hd : Vals dvs ds)
    (hx : Passes CX X E) (I : Inv X pins σ H s) (r : Vals vs us)
    (h : ∀ x dx, H x = none → H dx = none → dx ≠ x → sp (.ref x :: (vs ++ dvs)) (upd (upd H dx (.own x)) x (.ins C dx [])) (fun v H2 => v = .non ∧ Q (.ref x) H2) E) :
    wpAny (model X.prog X.w) X.A (call (.ref C) us) (EP X pins σ Q) X.xe s := by
  have hq := h (s.heap.objs.size + 1) s.heap.objs.size (I.hok.fresh (Nat.le_succ _)) (I.hok.fresh (Nat.le_refl _)) (Nat.ne_of_lt (Nat.lt_succ_self _))
  have I2 := Inv.made (C := C) I
  have r2 : Vals (V.ref (s.heap.objs.size + 1) :: (vs ++ dvs)) (Value.ref (s.heap.objs.size + 1) :: (us ++ ds)) := .cons rfl (r.append hd)
  have hl : (Value.ref (s.heap.objs.size + 1) :: us ++ ds).length = ps.length := by
    have e := r2.length
    rw [F.len _ _ _ _ hq] at e
    exact e.symm
  refine wpAny_call (make_map (f := f) I.kIn M.makes M.init (beq_iff_eq.mp M.fn) (codeAny_mono (F.run _ X.stack _ _ ⟨Value.ref (s.heap.objs.size + 1) :: us, []⟩ (Value.ref (s.heap.objs.size + 1) :: (us ++ ds)) _ _ E (hr.make C us [])
    (I2.env0.make C us []) (hb _ (Value.ref (s.heap.objs.size + 1) :: us) I2.kIn hl) r2 hq) fun r s' hq' => ?_))
  cases r with
  | error e => exact hx pins σ _ _ e s' I2 hq'
  | ok fl =>
    cases fl with
    | ret u =>
      obtain ⟨v, H', I3, rv, ev, q3⟩ := I2.after hq'
      subst ev
      exact ⟨rv, ⟨V.ref (s.heap.objs.size + 1), H', I3, rfl, q3⟩⟩
    | next => exact False.elim hq'
    | brk => exact False.elim hq'
    | cont => exact False.elim hq'
theorem pe_make (M : Mk X.K C f) (F : FnOk X.prog X.w X.K X.mg X.base CX k f fd ps sp) (hr : Room (k + 1) X.A) (hg : Gl X x) (hm : X.mg x = some (.ref C)) (hb : Binds X.K fd ps ds) (hd : Vals dvs ds) (hx : Passes CX X E)
    (ha : PA X (e :: es) t) (hdb : (x == ("__debug__" : Str)) = false := by decide) (he : starEach (e :: es) X.env = (false, eval e X.env) :: starEach es X.env := by rfl) (hpl : (backTo pos (starEach es X.env)).any (·.1) = false := by rfl) :
    PE X (.Call (.Name x p) (e :: es) [] pos) (tMake C sp dvs E t) := by
  intro pins s σ H Q I h
  refine wpAny_Call_Name_kw (ld_glob I hg hm ?_ hdb)
  refine PySem.W.callWith_K (h₀ := X.base) I.ok.mod.kin M.kp (thn (ha pos pins s σ H _ I h) fun us s1 ⟨vs, H1, I1, r, q⟩ => ⟨I1.kIn, ?_⟩) he hpl
  exact run_make M F hr hb hd hx I1 r q
theorem pe_make0 (M : Mk X.K C f) (F : FnOk X.prog X.w X.K X.mg X.base CX k f fd ps sp) (hr : Room (k + 1) X.A) (hg : Gl X x) (hm : X.mg x = some (.ref C)) (hb : Binds X.K fd ps ds) (hd : Vals dvs ds) (hx : Passes CX X E)
    (hdb : (x == ("__debug__" : Str)) = false := by decide) : PE X (.Call (.Name x p) [] [] pos) (tMake C sp dvs E tNil) := by
  intro pins s σ H Q I h
  refine wpAny_Call_Name_kw (ld_glob I hg hm ?_ hdb)
  exact PySem.W.callWith_K0 I.kIn M.kp (run_make (us := []) M F hr hb hd hx I .nil h)
end

/-! ### keywords -/
/-- the values of the keywords, from the left -/
def PK (X : Cx) (kws : List Keyword) (t : TA) : Prop :=
  ∀ (pos : Pos) (pins : List (Addr × Obj)) (s : Shared) (σ : St) (H : Hp) (Q : List V → Hp → Prop), Inv X pins σ H s → t σ H Q → wpAny (model X.prog X.w) X.A (evalAll ((backToKw pos (keywordEach kws X.env)).map (·.2))) (AP X pins σ Q) X.xe s
section
variable {X : Cx} {CX : CXT} {k : Nat} {f C : Addr} {fd : FuncData} {ps ks : List Str} {sp : Sp} {E : XK} {x m : Str} {p pos apos kpos : Pos} {e o : Expr} {es : List Expr} {kws : List Keyword} {te ta : TE} {t tk : TA} {nm : Option Str}
theorem pk_nil : PK X [] tNil := fun _ _ _ _ H Q I h => wpAny_evalAll_nil ⟨[], H, I, .nil, h⟩
theorem pk_cons (ha : PE X e te) (hr : PK X kws t) : PK X (⟨nm, e, kpos⟩ :: kws) (tCons te t) := by
  intro pos pins s σ H Q I h
  show wpAny _ _ (evalAll ((do let v ← eval e X.env; standAt pos; pure v) :: (backToKw pos (keywordEach kws X.env)).map (·.2))) _ _ s
  refine wpAny_evalAll_cons (wpAny_bind (thn (ha pins s σ H _ I h) fun u s1 ⟨x, H1, I1, r1, q1⟩ => wpAny_bind (wpAny_standAt (wpAny_pure ?_))))
  exact thn (hr pos pins s1 σ H1 _ I1 q1) fun us s2 ⟨xs, H2, I2, r2, q2⟩ => ⟨x :: xs, H2, I2, .cons r1 r2, q2⟩

/-- how a call with keywords binds: g puts the positional values us and the keywords' values ws (names ks) in the parameters' order, defaults among them -/
structure KBinds (K : PySem.W.Frag) (fd : FuncData) (ps ks : List Str) (g : List Value → List Value → List Value) (gV : List V → List V → List V) : Prop where
  to : ∀ (s : Shared) (us ws : List Value), K.In s.heap → (g us ws).length = ps.length → BindsTo s fd ⟨us, ks.zip ws⟩ (ps.zip (g us ws))
  rel : ∀ {vs : List V} {us : List Value} {zs : List V} {ws : List Value}, Vals vs us → Vals zs ws → Vals (gV vs zs) (g us ws)
def tCallK (sp : Sp) (gV : List V → List V → List V) (E : XK) (t tk : TA) : TE := fun σ H Q => t σ H fun vs H1 => tk σ H1 fun zs H2 => sp (gV vs zs) H2 Q E
variable {g : List Value → List Value → List Value} {gV : List V → List V → List V}
theorem run_fnk {pins : List (Addr × Obj)} {σ : St} {H : Hp} {s : Shared} {Q : VK} {us ws : List Value} {vs zs : List V} (F : FnOk X.prog X.w X.K X.mg X.base CX k f fd ps sp) (hr : Room k X.A) (hb : KBinds X.K fd ps ks g gV) (hx : Passes CX X E)
    (I : Inv X pins σ H s) (r : Vals vs us) (rz : Vals zs ws) (h : sp (gV vs zs) H Q E) : wpAny (model X.prog X.w) X.A (call (.ref f) us (ks.zip ws)) (EP X pins σ Q) X.xe s := by
  have r2 := hb.rel r rz
  have hl : (g us ws).length = ps.length := by rw [← r2.length]; exact F.len _ _ _ _ h
  refine wpAny_call (codeAny_mono (F.run X.A X.stack s H ⟨us, ks.zip ws⟩ (g us ws) (gV vs zs) Q E hr I.env0 (hb.to s us ws I.kIn hl) r2 h) fun r s' hq => ?_)
  cases r with
  | error e => exact hx pins σ H s e s' I hq
  | ok fl =>
    cases fl with
    | ret u => exact I.after hq
    | next => exact False.elim hq
    | brk => exact False.elim hq
    | cont => exact False.elim hq
/-- f(e, .., k = v, ..) -/
theorem pe_callK (F : FnOk X.prog X.w X.K X.mg X.base CX k f fd ps sp) (hr : Room k X.A) (hg : Gl X x) (hm : X.mg x = some (.ref f)) (hk : PySem.W.keepIn X.K (.ref f) = true) (hb : KBinds X.K fd ps ks g gV) (hx : Passes CX X E)
    (ha : PA X (e :: es) t) (hkw : PK X kws tk) (hall : (backToKw pos (keywordEach kws X.env)).all (·.1.isSome) = true := by rfl) (hks : (backToKw pos (keywordEach kws X.env)).filterMap (·.1) = ks := by rfl)
    (hdb : (x == ("__debug__" : Str)) = false := by decide) (he : starEach (e :: es) X.env = (false, eval e X.env) :: starEach es X.env := by rfl)
    (hpl : ((backTo pos (starEach (e :: es) X.env)).any (·.1) || (backToKw pos (keywordEach kws X.env)).any (·.1.isNone)) = false := by rfl) :
    PE X (.Call (.Name x p) (e :: es) kws pos) (tCallK sp gV E t tk) := by
  intro pins s σ H Q I h
  refine wpAny_Call_Name_kw (ld_glob I hg hm ?_ hdb)
  refine PySem.W.callWith_KW (h₀ := X.base) I.ok.mod.kin hk hall (thn (ha pos pins s σ H _ I h) fun us s1 ⟨vs, H1, I1, r, q⟩ => ?_) hpl he
  refine thn (hkw pos pins s1 σ H1 _ I1 q) fun ws s2 ⟨zs, H2, I2, rz, q2⟩ => ⟨I2.kIn, ?_⟩
  rw [hks]
  exact run_fnk F hr hb hx I2 r rz q2
end

/-! ### a def's body keeps its promise -/
/-- names: the parameters first -/
structure FnScope (N P : List Str) (sc : Scope) : Prop where
  kind : sc.kind = .function
  co : sc.isCoroutine = false
  gen : sc.isGenerator = false
  nd : N.Nodup
  pre : N.take P.length = P
  par : ∀ x ∈ P, sc.names.lookup x = some .local ∨ sc.names.lookup x = some .cell
  nofree : ∀ y ∈ sc.names, y.2 ≠ .free

theorem bindL_out {kindOf : Str → Option NameKind} {x : Str} : ∀ {binds : List (Str × Value)} {m : Str → Option Value}, (∀ v, (x, v) ∉ binds) → bindL kindOf binds m x = m x
  | [], _, _ => rfl
  | (n, v) :: r, m, h => by
    unfold bindL
    rw [bindL_out fun w hw => h w (List.mem_cons_of_mem _ hw)]
    split
    · have : x ≠ n := by rintro rfl; exact h v List.mem_cons_self
      simp [this]
    · rfl
theorem bindC_out {kindOf : Str → Option NameKind} {x : Str} : ∀ {binds : List (Str × Value)} {m : Str → Option Value}, (∀ v, (x, v) ∉ binds) → bindC kindOf binds m x = m x
  | [], _, _ => rfl
  | (n, v) :: r, m, h => by
    unfold bindC
    rw [bindC_out fun w hw => h w (List.mem_cons_of_mem _ hw)]
    split
    · rfl
    · have : x ≠ n := by rintro rfl; exact h v List.mem_cons_self
      simp [this]
theorem bindL_get {kindOf : Str → Option NameKind} {x : Str} {v : Value} : ∀ {P : List Str} {vs : List Value} {i : Nat} {m : Str → Option Value}, P.Nodup → P[i]? = some x → vs[i]? = some v → kindOf x = some .local →
    bindL kindOf (P.zip vs) m x = some v
  | [], _, _, _, _, h, _, _ => by simp at h
  | _ :: _, [], _, _, _, _, h, _ => by simp at h
  | p :: P, w :: vs, 0, m, nd, h1, h2, hk => by
    simp at h1 h2; subst h1; subst h2
    show bindL kindOf ((p, w) :: P.zip vs) m p = _
    unfold bindL
    rw [bindL_out fun v hv => (List.nodup_cons.mp nd).1 (List.of_mem_zip hv).1, if_pos hk]
    simp
  | p :: P, w :: vs, i + 1, m, nd, h1, h2, hk => by
    show bindL kindOf ((p, w) :: P.zip vs) m x = _
    unfold bindL
    exact bindL_get (i := i) (List.nodup_cons.mp nd).2 (by simpa using h1) (by simpa using h2) hk
theorem bindC_get {kindOf : Str → Option NameKind} {x : Str} {v : Value} : ∀ {P : List Str} {vs : List Value} {i : Nat} {m : Str → Option Value}, P.Nodup → P[i]? = some x → vs[i]? = some v → kindOf x ≠ some .local →
    bindC kindOf (P.zip vs) m x = some v
  | [], _, _, _, _, h, _, _ => by simp at h
  | _ :: _, [], _, _, _, _, h, _ => by simp at h
  | p :: P, w :: vs, 0, m, nd, h1, h2, hk => by
    simp at h1 h2; subst h1; subst h2
    show bindC kindOf ((p, w) :: P.zip vs) m p = _
    unfold bindC
    rw [bindC_out fun v hv => (List.nodup_cons.mp nd).1 (List.of_mem_zip hv).1, if_neg hk]
    simp
  | p :: P, w :: vs, i + 1, m, nd, h1, h2, hk => by
    show bindC kindOf ((p, w) :: P.zip vs) m x = _
    unfold bindC
    exact bindC_get (i := i) (List.nodup_cons.mp nd).2 (by simpa using h1) (by simpa using h2) hk

/-- the names' values at the entry -/
def start (N : List Str) (vs : List V) : St := vs.map some ++ List.replicate (N.length - vs.length) none

/-- the context of a def's body, at its entry; an exception leaves the frame, then lies as CX says -/
def cxOf (CX : CXT) (P : Program) (w : World) (K : PySem.W.Frag) (mg : Str → Option Value) (base : Heap) (N : List Str) (qual : Str) (scope : Scope) (f : Addr) (cd : Value) (A : Around) (outer : List Env) (s : Shared) (H : Hp) (E : XK) : Cx where
  prog := P
  w := w
  K := K
  mg := mg
  base := base
  A := A.deeper (envOfC qual scope s.heap.objs.size f cd)
  N := N
  s₀ := s
  H₀ := H
  env := envOfC qual scope s.heap.objs.size f cd
  outer := outer
  stack := envOfC qual scope s.heap.objs.size f cd :: outer
  ex := []
  calm := true
  fn := fun _ => true
  pn := []
  xe := fun e s' => wpAny (model P w) (A.deeper (envOfC qual scope s.heap.objs.size f cd)) (leaving (envOfC qual scope s.heap.objs.size f cd) e) (fun _ s'' => CX outer H s E e s'') (fun e' s'' => CX outer H s E e' s'') s'

theorem cell_has {sc : Scope} {n : Nat} {x : Str} (h : sc.names.lookup x = some .cell) : ∃ c, (cellsFrom n sc.names []).lookup x = some c := by
  have q := PySem.W.cellsFrom_some sc.names n [] (.inl h)
  exact Option.isSome_iff_exists.mp q

theorem inv_start {CX : CXT} {P : Program} {w : World} {K : PySem.W.Frag} {mg : Str → Option Value} {base : Heap} {N ps : List Str} {qual : Str} {scope : Scope} {f : Addr} {cd : Value} {A : Around} {outer : List Env} {s s1 : Shared} {H : Hp} {E : XK} {us : List Value} {vs : List V}
    (S : FnScope N ps scope) (hd : A.handled = none) (e0 : Env0 P w K mg base A outer s H) (hl : vs.length = ps.length) (r : Vals vs us)
    (x : InCallC s s.heap.objs.size (bindL (envOfC qual scope s.heap.objs.size f cd).kindOf (ps.zip us) fun _ => none) (cellsFrom (s.heap.objs.size + 1) scope.names []) (bindC (envOfC qual scope s.heap.objs.size f cd).kindOf (ps.zip us) fun _ => none) s1) :
    Inv (cxOf CX P w K mg base N qual scope f cd A outer s H E) [] (start N vs) H s1 := by
  have hpl : ps.length ≤ N.length := by have := congrArg List.length S.pre; rw [List.length_take] at this; omega
  obtain ⟨h1, tk, rfl, hk⟩ := x.done
  have noA : ∀ b : Addr, b ∉ (cxOf CX P w K mg base N qual scope f cd A outer s H E).ex := fun b z => absurd (show b ∈ ([] : List Addr) from z) (by simp)
  refine ⟨⟨e0.mod, S.kind, rfl, rfl, Nat.le_refl _, fun y z c h1 h2 => ?_, fun y hy => ?_, fun y c _ h => ?_, fun _ => hd, Around.frames_deeper e0.frames, .inr ⟨rfl, rfl⟩, fun b z => absurd z (noA b), e0.bs, e0.bsz, fun b _ _ => noA b, fun b z => absurd z (noA b), e0.funs, e0.frf⟩,
    rfl, e0.bare, Un.kept hk, ⟨_, x.toInCall.ns, fun i y v h1 h2 h3 => ?_⟩, fun y c h => ⟨_, x.cell y c h⟩, e0.hok.fresh (Nat.le_refl _), fun y c h => ?_, fun p hp => absurd (show p ∈ ([] : List (Addr × Obj)) from hp) (by simp), e0.hok.kept hk, ?_⟩
  · exact name_of_addr x.apart (PySem.mem_of_lookup h1) (PySem.mem_of_lookup h2)
  · have hy : scope.names.lookup y = some .cell ∨ scope.names.lookup y = some .free := hy
    rcases hy with hy | hy
    · exact cell_has hy
    · exact absurd rfl (S.nofree _ (PySem.mem_of_lookup hy))
  · exact Nat.le_of_lt (x.above y c (PySem.mem_of_lookup h))
  · have hi : i < vs.length := by
      unfold start at h2
      by_cases hi : i < vs.length
      · exact hi
      · rw [List.getElem?_append_right (by simpa using hi)] at h2
        rw [List.getElem?_replicate] at h2
        split at h2 <;> cases h2
    have ha : vs[i]? = some v := by
      unfold start at h2
      rw [List.getElem?_append_left (by simpa using hi), List.getElem?_map] at h2
      cases e : vs[i]? with
      | none => rw [e] at h2; cases h2
      | some a => rw [e] at h2; cases h2; rfl
    obtain ⟨u, hu, rv⟩ := r.get ha
    have hp : ps[i]? = some y := by
      rw [← S.pre, List.getElem?_take_of_lt (by omega)]; exact h1
    have ndP : ps.Nodup := by rw [← S.pre]; exact S.nd.sublist (List.take_sublist _ _)
    refine ⟨u, rv, ?_⟩
    rcases S.par y (List.mem_of_getElem? hp) with k | k
    · exact .inl ⟨k, bindL_get ndP hp hu k⟩
    · obtain ⟨c, e⟩ := cell_has (n := s.heap.objs.size + 1) k
      refine .inr ⟨.inl k, c, e, ?_⟩
      have q := x.cell y c e
      rw [bindC_get ndP hp hu (by show scope.names.lookup y ≠ _; rw [k]; decide)] at q
      exact q
  · exact e0.hok.fresh (Nat.le_of_lt (x.above y c (PySem.mem_of_lookup h)))
  · unfold start
    show _ = N.length
    rw [List.length_append, List.length_map, List.length_replicate]
    omega

/-- THE RULE: a def (or a method) of the text, by its body. The body's reading t is chosen for each entry; it is run at the parameters' values -/
theorem fn_of {CX : CXT} {P : Program} {w : World} {K : PySem.W.Frag} {mg : Str → Option Value} {base : Heap} {k : Nat} {f : Addr} {name qual : Str} {params : Arguments} {body : List Stmt} {scope : Scope} {dV kV doc pm cdv ct oc : Value} {an od : Option Addr}
    {osl : Array (Option Value)} {N ps : List Str} {sp : Sp} (lk : K.lookup f = some ⟨oc, od, .func (PySem.W.fnOf name qual params body scope dV kV doc pm an cdv ct), osl⟩) (hcd : PySem.W.codeIn K cdv qual = true) (S : FnScope N ps scope)
    (len : ∀ vs H Q E, sp vs H Q E → vs.length = ps.length)
    (hbody : ∀ (A : Around) (outer : List Env) (s : Shared) (H : Hp) (vs : List V) (Q : VK) (E : XK), Room k (A.deeper (envOfC qual scope s.heap.objs.size f cdv)) → sp vs H Q E →
      ∃ t, PSs (cxOf CX P w K mg base N qual scope f cdv A outer s H E) body t ∧ t { nx := fun _ H' => Q .non H', rt := Q } (start N vs) H) :
    FnOk P w K mg base CX (k + 1) f (PySem.W.fnOf name qual params body scope dV kV doc pm an cdv ct) ps sp := by
  refine ⟨len, fun A outer s H args us vs Q E hr e0 hb r hsp => ?_⟩
  have hl := len _ _ _ _ hsp
  have KX : K.In s.heap := e0.mod.kin.keeps fun b o e => (e0.bs b o e).1
  have lim : s.heap.NoLimit := e0.mod.nolimit.keeps fun b o e => (e0.bs b o e).1
  have hkind : ∀ y ∈ ps.zip us, scope.names.lookup y.1 = some .local ∨ (scope.names.lookup y.1 = some .cell ∧ ((cellsFrom (s.heap.objs.size + 1) scope.names []).lookup y.1).isSome = true) := fun ⟨n, v⟩ hy => by
    rcases S.par n (List.of_mem_zip hy).1 with q | q
    · exact .inl q
    · exact .inr ⟨q, PySem.W.cellsFrom_some _ _ _ (.inl q)⟩
  refine codeAny_call_function hr.depth (KX _ _ lk) rfl S.co S.gen rfl (PySem.W.codeRec_of KX hcd) (hb _ _ _ _ ?_)
  refine wpAny_newFunctionEnv_cells S.kind hkind fun env he s1 x => ?_
  subst he
  refine ⟨lim.keeps x.toInCall.keep, codeAny_func ?_⟩
  obtain ⟨t, ht, hq⟩ := hbody A outer s H vs Q E (hr.deeper _) hsp
  have I : Inv (cxOf CX P w K mg base N qual scope f cdv A outer s H E) [] (start N vs) H s1 := inv_start S hr.hd e0 hl r x
  refine wpAny_mono (ht [] s1 (start N vs) H _ I hq) (fun fl s' hs => ?_) fun e s' hs => hs
  have fin : ∀ {σ' : St} {H' : Hp} {v : V} {u : Value}, Inv (cxOf CX P w K mg base N qual scope f cdv A outer s H E) [] σ' H' s' → RelV v u → Q v H' → CE outer P w H s Q u s' :=
    fun {σ' H' v u} J rv q => ⟨v, H', J.os, J.bare, J.base, J.hok, rv, q⟩
  cases fl with
  | ret u =>
    obtain ⟨v, σ', H', J, rv, q⟩ := hs
    exact fin J rv q
  | next =>
    obtain ⟨σ', H', J, q⟩ := hs
    exact fin (v := V.non) (u := Value.none) J rfl q
  | brk =>
    obtain ⟨_, _, _, q⟩ := hs
    exact False.elim q
  | cont =>
    obtain ⟨_, _, _, q⟩ := hs
    exact False.elim q
end L2

namespace L2
open PySem PySem.Spec PyProof.Rows
section
variable {X : Cx} {x : Str} {p pos : Pos} {e : Expr} {es : List Expr} {t : TA} {id T : String} {r : List V → Hp → VK → Prop}

def tCB (r : List V → Hp → VK → Prop) (t : TA) : TE := fun σ H Q => t σ H fun vs H1 => r vs H1 Q
/-- f(e, ..), f a built-in function -/
theorem pe_callB (hc : CallR X (.builtin id) r) (hg : Gl X x) (hm : X.mg x = none) (hv : bootBuiltins x = some (.builtin id)) (ha : PA X (e :: es) t) (hn : x ≠ "__name__" := by decide) (hdb : (x == ("__debug__" : Str)) = false := by decide)
    (he : starEach (e :: es) X.env = (false, eval e X.env) :: starEach es X.env := by rfl) (hpl : (backTo pos (starEach es X.env)).any (·.1) = false := by rfl) : PE X (.Call (.Name x p) (e :: es) [] pos) (tCB r t) := by
  intro pins s σ H Q I h
  refine wpAny_Call_Name_kw (ld_blt I hg hm hv ?_ hn hdb)
  exact PyProof.Rows.callWith_builtin1 (thn (ha pos pins s σ H _ I h) fun us s1 ⟨vs, H1, I1, r1, q1⟩ => hc pins s1 σ H1 vs us Q I1 r1 q1) he hpl
/-- T(e, ..), T a built-in type -/
theorem pe_callTy (hc : CallR X (.type T) r) (hg : Gl X x) (hm : X.mg x = none) (hv : bootBuiltins x = some (.type T)) (ha : PA X (e :: es) t) (hn : x ≠ "__name__" := by decide) (hdb : (x == ("__debug__" : Str)) = false := by decide)
    (he : starEach (e :: es) X.env = (false, eval e X.env) :: starEach es X.env := by rfl) (hpl : (backTo pos (starEach es X.env)).any (·.1) = false := by rfl) : PE X (.Call (.Name x p) (e :: es) [] pos) (tCB r t) := by
  intro pins s σ H Q I h
  refine wpAny_Call_Name_kw (ld_blt I hg hm hv ?_ hn hdb)
  exact PyProof.Rows.callWith_type1 (thn (ha pos pins s σ H _ I h) fun us s1 ⟨vs, H1, I1, r1, q1⟩ => hc pins s1 σ H1 vs us Q I1 r1 q1) he hpl
/-- T() -/
theorem pe_callTy0 (hc : CallR X (.type T) r) (hg : Gl X x) (hm : X.mg x = none) (hv : bootBuiltins x = some (.type T)) (hn : x ≠ "__name__" := by decide) (hdb : (x == ("__debug__" : Str)) = false := by decide) :
    PE X (.Call (.Name x p) [] [] pos) (tCB r tNil) := by
  intro pins s σ H Q I h
  refine wpAny_Call_Name_kw (ld_blt I hg hm hv ?_ hn hdb)
  exact PyProof.Rows.callWith_type0 (hc pins s σ H [] [] Q I .nil h)
end
end L2

namespace HT
open PySem PyProof.Rows

/-- t < u of tuples of ints -/
def lexLt : List Int → List Int → Bool
  | [], [] => false
  | [], _ :: _ => true
  | _ :: _, [] => false
  | x :: xs, y :: ys => if x = y then lexLt xs ys else decide (x < y)
theorem lexLt_cons (x y : Int) (xs ys : List Int) : lexLt (x :: xs) (y :: ys) = if x = y then lexLt xs ys else decide (x < y) := rfl
theorem lexLt_nil_nil : lexLt [] [] = false := rfl
theorem lexLt_nil_cons (y : Int) (ys : List Int) : lexLt [] (y :: ys) = true := rfl
theorem lexLt_cons_nil (x : Int) (xs : List Int) : lexLt (x :: xs) [] = false := rfl

theorem eqAt_int (A : Around) (s : Shared) (a : Int) (t : Tok) (c : Int) (u : Tok) : ∃ e, SeqAt.EqAt A s (.int a t) (.int c u) e ∧ (e = true ↔ a = c) :=
  ⟨(a == c), SeqAt.EqAt.int_int a t c u, by simp⟩
theorem rcLt_int (A : Around) (s : Shared) (a : Int) (t : Tok) (c : Int) (u : Tok) (prog : Program) (w : World) (E : Value → Shared → Prop) (Q : Value → Shared → Prop) (h : Q (.bool (decide (a < c))) s) :
    wpAny (model prog w) A (richCompare .Lt (.int a t) (.int c u)) Q E s :=
  (PyProof.Rows.lt_int h : wpAny (model prog w) A (compareOp .Lt (.int a t) (.int c u)) Q E s)

section
open PySem.SeqAt
open PySem.AutoSeq1 (wpAny_loadPart')
open PySem.MeetsSeq PySem.MeetsSeq2 PySem.MeetsSeq3

theorem tuple_lt_ints (l b : Addr) (items items2 : Array Value) (n n2 : Nat) (dd dd2 : Option Addr) (sl sl2 : Array (Option Value)) (ns ms : List Int) (hi : IntsAre items.toList ns) (hj : IntsAre items2.toList ms) :
    Meets (Builtin.«tuple.__lt__» ⟨[.ref l, .ref b], []⟩)
      (fun _ R s => s.heap.get? l = some { cls := .type "tuple", dict := dd, data := .seq items n, slots := sl } ∧ s.heap.get? b = some { cls := .type "tuple", dict := dd2, data := .seq items2 n2, slots := sl2 } ∧
        R (.ok (.ret (.bool (lexLt ns ms)))) s) :=
  .of_wp fun prog w A R s h => by
    obtain ⟨hp, g, d, tk, os⟩ := s; obtain ⟨hl, hb, h⟩ := h
    have f2 := AutoSeq1.sub_tuple_tuple
    have z1 : items.size = ns.length := by rw [← hi.length]; simp
    have z2 : items2.size = ms.length := by rw [← hj.length]; simp
    wp_walk using wpAny_loadPart' hl, wpAny_loadPart' hb, wpAny_forIn_list _ (fun rest b s' => b.1 = none ∧ s' = ⟨hp, g, d, tk, os⟩ ∧ ∃ (vs ws : List Value) (ns' ms' : List Int), rest = vs.zip ws ∧
      IntsAre vs ns' ∧ IntsAre ws ms' ∧ ns'.length + items2.size = ms'.length + items.size ∧ R (.ok (.ret (.bool (lexLt ns' ms')))) ⟨hp, g, d, tk, os⟩) _
    case turn =>
      rintro ⟨y, x⟩ rest b s' ⟨hb', rfl, vs, ws, ns', ms', hz, hvi, hwi, hlen, hR⟩
      cases hvi with
      | nil => rw [List.zip_nil_left] at hz; cases hz
      | cons a t hvi' =>
        cases hwi with
        | nil => rw [List.zip_nil_right] at hz; cases hz
        | cons c u hwi' =>
          rw [List.zip_cons_cons] at hz
          injection hz with hyx hrest
          injection hyx with hy hx
          subst hy hx
          rw [lexLt_cons] at hR
          simp only [List.length_cons] at hlen
          obtain ⟨e, he, hiff⟩ := eqAt_int A.in1 ⟨hp, g, d, tk, os⟩ a t c u
          refine wpAny_bind (he prog w _ _ ?_)
          cases e with
          | true =>
            rw [if_pos (hiff.mp rfl)] at hR
            wp_walk
            exact ⟨rfl, rfl, _, _, _, _, hrest, hvi', hwi', by omega, hR⟩
          | false =>
            rw [if_neg (fun q => absurd (hiff.mpr q) Bool.false_ne_true)] at hR
            have hri := rcLt_int A.in1 ⟨hp, g, d, tk, os⟩ a t c u prog w
            wp_walk using hri
            exact ⟨_, rfl, by simpa using hR⟩
    case fin =>
      rintro ⟨b1, b2⟩ s' ⟨hb', rfl, vs, ws, ns', ms', hz, hvi, hwi, hlen, hR⟩
      simp only at hb'
      subst hb'
      have hv : lexLt ns' ms' = decide (items.size < items2.size) := by
        cases hvi with
        | nil =>
          cases hwi with
          | nil =>
            simp only [List.length_nil] at hlen
            rw [lexLt_nil_nil]
            exact (decide_eq_false (by omega)).symm
          | cons c u hw =>
            simp only [List.length_nil, List.length_cons] at hlen
            rw [lexLt_nil_cons]
            exact (decide_eq_true (by omega)).symm
        | cons a t hv =>
          cases hwi with
          | nil =>
            simp only [List.length_nil, List.length_cons] at hlen
            rw [lexLt_cons_nil]
            exact (decide_eq_false (by omega)).symm
          | cons c u hw =>
            rw [List.zip_cons_cons] at hz
            cases hz
      rw [hv] at hR
      wp_walk
      exact ⟨_, rfl, by simpa [Builtin.Tuple.tupleCompareSizes] using hR⟩
    case h =>
      exact ⟨rfl, rfl, items.toList, items2.toList, ns, ms, rfl, hi, hj, by omega, h⟩
end

section
variable {prog : Program} {w : World} {A : Around} {E : Value → Shared → Prop} {s : Shared}

theorem lt_tupInts {l b : Addr} {items items2 : Array Value} {ns ms : List Int} {Q : Value → Shared → Prop} (hl : IsTup s.heap l items) (hb : IsTup s.heap b items2) (hi : IntsAre items.toList ns) (hj : IntsAre items2.toList ms)
    (hu : A.units < cLine) (h : Q (.bool (lexLt ns ms)) s) : wpAny (model prog w) A (compareOp .Lt (.ref l) (.ref b)) Q E s := by
  obtain ⟨⟨cls, dd, data, sl⟩, ho, hc, n, hd⟩ := id hl
  obtain ⟨⟨cls2, dd2, data2, sl2⟩, ho2, hc2, n2, hd2⟩ := id hb
  simp only at hc hd hc2 hd2
  subst hc hd hc2 hd2
  exact richCompare_meets_room (op := .Lt) ⟨_, ho, rfl⟩ ⟨_, ho2, rfl⟩ PySem.F.slot_tuple_lt PySem.F.entry_tuple_lt (PySem.F.args_tuple_lt_2 _ _) (tuple_lt_ints l b items items2 n n2 dd dd2 sl sl2 ns ms hi hj)
    ⟨ho, ho2, show Value.bool (lexLt ns ms) ≠ Value.notImplemented ∧ Q (.bool (lexLt ns ms)) s from ⟨(fun x => nomatch x), h⟩⟩ hu

/-- t + u, t not empty -/
theorem cat_tup {t b : Addr} {vs ws : List Value} {Q : Value → Shared → Prop} (ht : IsTup s.heap t vs.toArray) (hb : IsTup s.heap b ws.toArray) (hv : vs ≠ [])
    (h1 : ws = [] → Q (.ref t) s) (h2 : ws ≠ [] → Q (.ref s.heap.objs.size) { s with heap := s.heap.push { cls := .type "tuple", data := .seq (vs ++ ws).toArray } })
    (hsz : vs.length + ws.length ≤ sizeLine) : wpAny (model prog w) A (binaryOp .Add (.ref t) (.ref b)) Q E s := by
  obtain ⟨⟨cls, dd, data, sl⟩, ho, hc, n, hd⟩ := id ht
  obtain ⟨⟨cls2, dd2, data2, sl2⟩, ho2, hc2, n2, hd2⟩ := id hb
  simp only at hc hd hc2 hd2
  subst hc hd hc2 hd2
  have e : vs.toArray ++ ws.toArray = (vs ++ ws).toArray := by simp
  by_cases hw : ws = []
  · exact concat_meets ⟨_, ho, rfl⟩ ⟨_, ho2, rfl⟩ noFill_tuple_add seq_tuple_add PySem.F.slot_tuple_add PySem.F.entry_tuple_add (PySem.F.args_tuple_add_2 _ _)
      (tuple_addW1 t b vs.toArray ws.toArray n n2 dd dd2 sl sl2 (by simpa using hv) (by simp [hw])) ⟨ho, ho2, h1 hw⟩
  · refine concat_meets ⟨_, ho, rfl⟩ ⟨_, ho2, rfl⟩ noFill_tuple_add seq_tuple_add PySem.F.slot_tuple_add PySem.F.entry_tuple_add (PySem.F.args_tuple_add_2 _ _)
      (tuple_addW2 t b vs.toArray ws.toArray n n2 dd dd2 sl sl2 (by simpa using hv) (by simpa using hw) (by rw [List.size_toArray, List.size_toArray]; exact hsz)) ⟨ho, ho2, ?_⟩
    rw [e]
    exact h2 hw

/-! ### t[a:b], not the whole -/
/-- a slice's bound as a place among n (d where it is left out) -/
def sIx (n d : Nat) : Option Int → Nat
  | none => d
  | some v => if v < 0 then (v + (n : Int)).toNat else min v.toNat n
theorem sIx_none (n d : Nat) : sIx n d none = d := rfl
theorem sIx_nat (n d k : Nat) : sIx n d (some (k : Int)) = min k n := by
  show (if (k : Int) < 0 then ((k : Int) + (n : Int)).toNat else min (k : Int).toNat n) = min k n
  rw [if_neg (by omega), Int.toNat_natCast]
theorem sIx_le (n d : Nat) (hd : d ≤ n) (o : Option Int) : sIx n d o ≤ n := by
  cases o with
  | none => exact hd
  | some v =>
    show (if v < 0 then (v + (n : Int)).toNat else min v.toNat n) ≤ n
    by_cases hv : v < 0
    · rw [if_pos hv]; omega
    · rw [if_neg hv]; exact Nat.min_le_right _ _
theorem clip_eq (v : Int) (n d : Nat) : (if v < 0 then max (v + (n : Int)) 0 else min v (n : Int)) = ((sIx n d (some v) : Nat) : Int) := by
  show (if v < 0 then max (v + (n : Int)) 0 else min v (n : Int)) = (((if v < 0 then (v + (n : Int)).toNat else min v.toNat n) : Nat) : Int)
  by_cases hv : v < 0
  · simp only [if_pos hv]; omega
  · simp only [if_neg hv]; omega
theorem adjust_gen (lo hi : Option Int) (n : Nat) : Builtin.Slice.sliceAdjust lo hi 1 (n : Int) = (((sIx n 0 lo : Nat) : Int), ((sIx n n hi : Nat) : Int)) := by
  have h1 : ¬ ((1 : Int) < 0) := by omega
  unfold Builtin.Slice.sliceAdjust
  simp only [h1, if_false]
  refine Prod.ext ?_ ?_
  · cases lo with
    | none => rfl
    | some v => exact clip_eq v n 0
  · cases hi with
    | none => rfl
    | some v => exact clip_eq v n n
theorem places_gen (i j : Nat) : Builtin.Slice.slicePlaces (i : Int) (j : Int) 1 = j - i := by
  unfold Builtin.Slice.slicePlaces
  have h1 : (1 : Int) > 0 := by omega
  simp only [h1, if_true, Int.ediv_one]
  split <;> omega
theorem slicePart_ {v : Value} {o : Option Int} {Q : Option Int → Shared → Prop} (p : IsPart v o) (h : Q o s) : wpAny (model prog w) A (Builtin.Slice.slicePartIndex v) Q E s := by
  cases p with
  | none => exact slicePart_none h
  | int i t => exact slicePart_int h
theorem sliceApplied_gen {sl : Addr} {vl vu : Value} {lo hi : Option Int} {n : Nat} {Q : Int × Int × Nat → Shared → Prop} (hs : s.heap.IsSliceOf sl vl vu .none) (pl : IsPart vl lo) (pu : IsPart vu hi)
    (h : Q (((sIx n 0 lo : Nat) : Int), 1, sIx n n hi - sIx n 0 lo) s) : wpAny (model prog w) A (Builtin.Slice.sliceApplied (.ref sl) (pure (n : Int))) Q E s := by
  obtain ⟨os, hos, hcs, hds⟩ := id hs
  unfold Builtin.Slice.sliceApplied Builtin.Slice.sliceFields
  refine wpAny_bind (wpAny_bind (wpAny_field hos hds (x := vl) rfl (wpAny_bind (wpAny_field hos hds (x := vu) rfl (wpAny_bind (wpAny_field hos hds (x := .none) rfl (wpAny_pure ?_)))))))
  refine wpAny_bind (slicePart_none ?_)
  show wpAny _ _ (if ((1 : Int) == 0) = true then _ else _) _ _ s
  rw [if_neg (by decide)]
  refine wpAny_bind (slicePart_ pl (wpAny_bind (slicePart_ pu (wpAny_bind (wpAny_pure ?_)))))
  show wpAny _ _ (match Builtin.Slice.sliceAdjust lo hi 1 (n : Int) with | (lo, hi) => pure (lo, (1 : Int), Builtin.Slice.slicePlaces lo hi 1)) _ _ s
  rw [adjust_gen lo hi n]
  show wpAny _ _ (pure (((sIx n 0 lo : Nat) : Int), (1 : Int), Builtin.Slice.slicePlaces ((sIx n 0 lo : Nat) : Int) ((sIx n n hi : Nat) : Int) 1)) _ _ s
  rw [places_gen]
  exact wpAny_pure h
theorem pick_gen (xs : Array Value) (i k : Nat) : ((List.range k).filterMap fun (m : Nat) => xs[((i : Int) + (m : Int) * 1).toNat]?).toArray = ((xs.toList.drop i).take k).toArray := by
  have e : (fun (m : Nat) => xs[((i : Int) + (m : Int) * 1).toNat]?) = fun m => xs[i + m]? := by
    funext m
    have : ((i : Int) + (m : Int) * 1).toNat = i + m := by omega
    rw [this]
  rw [e]
  have := pick_run xs i k
  rw [List.filterMap_map] at this
  have e2 : ((fun x => xs[x]?) ∘ fun x => i + x) = fun m => xs[i + m]? := rfl
  rw [e2] at this
  rw [this]

theorem getItem_tuple_cut {t sl : Addr} {items : Array Value} {vl vu : Value} {lo hi : Option Int} {Q : Value → Shared → Prop} (ht : IsTup s.heap t items) (hs : s.heap.IsSliceOf sl vl vu .none) (pl : IsPart vl lo) (pu : IsPart vu hi)
    (hw : ¬ (sIx items.size 0 lo = 0 ∧ sIx items.size items.size hi = items.size))
    (h : Q (.ref s.heap.objs.size) { s with heap := s.heap.push { cls := .type "tuple", data := .seq ((items.toList.drop (sIx items.size 0 lo)).take (sIx items.size items.size hi - sIx items.size 0 lo)).toArray } })
    (hsz : items.size ≤ sizeLine) : wpAny (model prog w) A (getItem (.ref t) (.ref sl)) Q E s := by
  have htake : sizeOk (.seq ((items.toList.drop (sIx items.size 0 lo)).take (sIx items.size items.size hi - sIx items.size 0 lo)).toArray) := by
    show ((items.toList.drop (sIx items.size 0 lo)).take (sIx items.size items.size hi - sIx items.size 0 lo)).toArray.size ≤ sizeLine
    rw [List.size_toArray, List.length_take, List.length_drop, Array.length_toList]
    omega
  have hj : sIx items.size items.size hi ≤ items.size := sIx_le _ _ (Nat.le_refl _) hi
  obtain ⟨os, hos, hcs, hds⟩ := id hs
  have hTs : s.TypeIs (.ref sl) "slice" := ⟨os, hos, hcs⟩
  unfold getItem
  try with_reducible refine wpAny_holding ?_
  first | refine wpAny_bind (wpAny_pure ?_) | skip
  refine wpAny_bind (wpAny_sequenceKey ht.typeIs (by decide) ?_)
  refine wpAny_bind (wpAny_callSpecial?_slot (name := Str.ofString "__getitem__") ht.typeIs PyProof.Rows.slot_tuple_getitem
    (wpAny_call_entry PyProof.Rows.slot_tuple_getitem ht.typeIs entry_tuple_getitem ?_ (args_tuple_getitem _ _)))
  show wpAny _ _ (Builtin.Tuple.tupleItemsOf (.ref t) >>= _) _ _ s
  refine wpAny_bind (tupleItemsOf_ ht ?_)
  refine wpAny_bind (wpAny_typeOf hTs ?_)
  rw [if_pos (by decide)]
  refine wpAny_bind (sliceApplied_gen hs pl pu ?_)
  have hno : ¬ ((((sIx items.size 0 lo : Nat) : Int) == 0 && (1 : Int) == 1 && (sIx items.size items.size hi - sIx items.size 0 lo) == items.size) = true) := by
    intro q
    rw [Bool.and_eq_true, Bool.and_eq_true] at q
    have q1 : ((sIx items.size 0 lo : Nat) : Int) = 0 := eq_of_beq q.1.1
    have q2 : sIx items.size items.size hi - sIx items.size 0 lo = items.size := eq_of_beq q.2
    exact hw ⟨by omega, by omega⟩
  show wpAny _ _ (if (((sIx items.size 0 lo : Nat) : Int) == 0 && (1 : Int) == 1 && (sIx items.size items.size hi - sIx items.size 0 lo) == items.size) = true then _ else _) _ _ s
  rw [if_neg hno, pick_gen]
  first
    | exact wpAny_bind (m := Builtin.Tuple.tupleExact _) (wpAny_newObj_type (wpAny_pure ⟨_, rfl, wpAny_pure h⟩) htake)
    | exact wpAny_bind (m := Builtin.Tuple.tupleExact _) (wpAny_newObj_type (wpAny_bind (wpAny_pure (wpAny_pure ⟨_, rfl, wpAny_pure h⟩))) htake)
    | exact wpAny_bind (wpAny_bind (m := Builtin.Tuple.tupleExact _) (wpAny_newObj_type (wpAny_pure (wpAny_pure ⟨_, rfl, wpAny_pure h⟩)) htake))
    | exact wpAny_bind (wpAny_bind (m := Builtin.Tuple.tupleExact _) (wpAny_newObj_type (wpAny_pure ⟨_, rfl, wpAny_pure h⟩) htake))
end
end HT

namespace L2
open PySem PySem.Spec PyProof.Rows

/-! ### the parts of a slice -/
abbrev TO := St → Hp → (Option Int → Hp → Prop) → Prop
/-- a slice's part (left out, or an int) -/
def PO (X : Cx) (e : Option Expr) (t : TO) : Prop :=
  ∀ (pins : List (Addr × Obj)) (s : Shared) (σ : St) (H : Hp) (Q : Option Int → Hp → Prop), Inv X pins σ H s → t σ H Q →
    wpAny (model X.prog X.w) X.A (evalPart e X.env) (fun u s' => ∃ o H', Inv X pins σ H' s' ∧ IsPart u o ∧ Q o H') X.xe s
def tNoPart : TO := fun _ H Q => Q none H
def tPart (t : TE) : TO := fun σ H Q => t σ H fun x H1 => ∃ i, x = .int i ∧ Q (some i) H1

theorem intsAre_of {ns : List Int} : ∀ {us : List Value}, Vals (ns.map V.int) us → IntsAre us ns := by
  induction ns with
  | nil => intro us r; rw [List.map_nil] at r; cases r; exact .nil
  | cons n ns ih =>
    intro us r
    rw [List.map_cons] at r
    cases r with
    | cons r1 r2 =>
      obtain ⟨t, e⟩ := r1
      subst e
      exact .cons n t (ih r2)

section
variable {X : Cx} {e : Expr} {te : TE} {lo hi : Option Expr} {tl th : TO} {pos p2 : Pos}

theorem po_none : PO X none tNoPart := by
  intro pins s σ H Q I h
  rw [evalPart_none]
  exact wpAny_pure ⟨none, H, I, .none, h⟩
theorem po_some (h : PE X e te) : PO X (some e) (tPart te) := by
  intro pins s σ H Q I hw
  rw [evalPart_some]
  refine thn (h pins s σ H _ I hw) fun u s1 ⟨x, H1, I1, r1, q1⟩ => ?_
  obtain ⟨i, rfl, q⟩ := q1
  obtain ⟨t, rfl⟩ := r1
  exact ⟨some i, H1, I1, .int i t, q⟩

/-- what a slice of a value is, by values: the slice object stands at sl -/
def SlR (X : Cx) (r : V → Option Int → Option Int → Hp → VK → Prop) : Prop :=
  ∀ (pins : List (Addr × Obj)) (s : Shared) (σ : St) (H : Hp) (x : V) (v vl vu : Value) (lo hi : Option Int) (sl : Addr) (Q : VK), Inv X pins σ H s → RelV x v → s.heap.IsSliceOf sl vl vu .none → IsPart vl lo → IsPart vu hi → r x lo hi H Q →
    ∃ T id, typeLookup (.type T) "__getitem__" = pure (some (.builtin id)) ∧ s.TypeIs v T ∧ wpAny (model X.prog X.w) X.A (getItem v (.ref sl)) (EP X pins σ Q) X.xe s
theorem SlR.or {r r' : V → Option Int → Option Int → Hp → VK → Prop} (h : SlR X r) (h' : SlR X r') : SlR X (fun x lo hi H Q => r x lo hi H Q ∨ r' x lo hi H Q) := by
  intro pins s σ H x v vl vu lo hi sl Q I rx hs pl pu q
  rcases q with q | q
  · exact h pins s σ H x v vl vu lo hi sl Q I rx hs pl pu q
  · exact h' pins s σ H x v vl vu lo hi sl Q I rx hs pl pu q
def tSl (r : V → Option Int → Option Int → Hp → VK → Prop) (te : TE) (tl th : TO) : TE := fun σ H Q => te σ H fun x H1 => tl σ H1 fun l H2 => th σ H2 fun u H3 => r x l u H3 Q
/-- a[lo:hi], any a -/
theorem pe_slice {r : V → Option Int → Option Int → Hp → VK → Prop} (hr : SlR X r) (he : PE X e te) (hl : PO X lo tl) (hu : PO X hi th) : PE X (.Subscript e (.Slice lo hi none p2) pos) (tSl r te tl th) := by
  intro pins s σ H Q I h
  refine Subscript_ (thn (he pins s σ H _ I h) fun v s1 ⟨x, H1, I1, r1, q1⟩ => ?_)
  refine wpAny_Slice (thn (hl pins s1 σ H1 _ I1 q1) fun vl s2 ⟨l, H2, I2, pl, q2⟩ => thn (hu pins s2 σ H2 _ I2 q2) fun vu s3 ⟨u, H3, I3, pu, q3⟩ => ?_)
  rw [evalPart_none]
  refine wpAny_pure ?_
  have I4 : Inv X pins σ H3 { s3 with heap := s3.heap.push { cls := .type "slice", data := .fields #[vl, vu, .none] } } := I3.kept (t' := s3.toks) fun b ob q => Heap.get?_push_of_some _ q
  obtain ⟨T, id, hT, ht, hg⟩ := hr pins { s3 with heap := s3.heap.push { cls := .type "slice", data := .fields #[vl, vu, .none] } } σ H3 x v vl vu l u s3.heap.objs.size Q I4 r1 (Heap.IsSliceOf.new ..) pl pu q3
  show wpAny (model X.prog X.w) X.A (subscriptTail e (.Slice lo hi none p2) v (.ref s3.heap.objs.size)) (EP X pins σ Q) X.xe { s3 with heap := s3.heap.push { cls := .type "slice", data := .fields #[vl, vu, .none] } }
  exact tail_any (ops := [.ref s3.heap.objs.size, v]) ht hT hg (by with_unfolding_all rfl)

/-- the items of xs[lo:hi] -/
def cutV (xs : List V) (lo hi : Option Int) : List V := (xs.drop (HT.sIx xs.length 0 lo)).take (HT.sIx xs.length xs.length hi - HT.sIx xs.length 0 lo)
theorem cutV_length (xs : List V) (lo hi : Option Int) : (cutV xs lo hi).length ≤ xs.length := by
  unfold cutV
  rw [List.length_take, List.length_drop]
  omega
/-- t[lo:hi], not the whole of it (the whole would be t itself) -/
def rSlT (K : PySem.W.Frag) : V → Option Int → Option Int → Hp → VK → Prop := fun x lo hi H Q => ∃ a xs, x = .ref a ∧ SqT K H a xs ∧
  ¬ (HT.sIx xs.length 0 lo = 0 ∧ HT.sIx xs.length xs.length hi = xs.length) ∧ ∀ p, H p = none → Q (.ref p) (upd H p (.tup (cutV xs lo hi)))
theorem sl_tup : SlR X (rSlT X.K) := by
  intro pins s σ H x v vl vu lo hi sl Q I rx hs pl pu h
  obtain ⟨a, xs, rfl, hx, hw, q⟩ := h
  cases rx
  obtain ⟨its, r, ht, hz⟩ := I.tuple hx
  have hlen : its.toArray.size = xs.length := by rw [List.size_toArray]; exact r.length.symm
  refine ⟨"tuple", _, PyProof.Rows.slot_tuple_getitem.lookup, ht.typeIs, ?_⟩
  refine HT.getItem_tuple_cut ht hs pl pu (by rw [hlen]; exact hw) ?_ (by rw [hlen]; exact hz)
  rw [hlen]
  refine ⟨.ref s.heap.objs.size, _, I.laid (t' := s.toks) (o := .tup (cutV xs lo hi)) (fun b ob q => Heap.get?_push_of_some _ q) (Nat.le_refl _) ?_, rfl, q _ (I.hok.fresh (Nat.le_refl _))⟩
  exact ⟨Nat.le_trans (cutV_length xs lo hi) hz, _, (r.drop (HT.sIx xs.length 0 lo)).take (HT.sIx xs.length xs.length hi - HT.sIx xs.length 0 lo), IsTup.new _ _⟩

/-! ### t < u, t + u -/
def rLtT (K : PySem.W.Frag) : R2 := fun x y H Q => ∃ a b ns ms, x = .ref a ∧ y = .ref b ∧ SqT K H a (ns.map V.int) ∧ SqT K H b (ms.map V.int) ∧ Q (.bl (HT.lexLt ns ms)) H
theorem op_ltT (hu : X.A.units < cLine) : OpR X (compareOp .Lt) (rLtT X.K) := by
  intro pins s σ H x y v u Q I rx ry h
  obtain ⟨a, b, ns, ms, rfl, rfl, ha, hb, q⟩ := h
  cases rx
  cases ry
  obtain ⟨its, r1, p1, _⟩ := I.tuple ha
  obtain ⟨its2, r2, p2, _⟩ := I.tuple hb
  have i1 : IntsAre its.toArray.toList ns := intsAre_of r1
  have i2 : IntsAre its2.toArray.toList ms := intsAre_of r2
  exact HT.lt_tupInts p1 p2 i1 i2 hu ⟨.bl (HT.lexLt ns ms), H, I, rfl, q⟩
/-- t + u, t not empty: u empty gives t itself -/
def rCatT (K : PySem.W.Frag) : R2 := fun x y H Q => ∃ a b xs ys, x = .ref a ∧ y = .ref b ∧ SqT K H a xs ∧ SqT K H b ys ∧ xs ≠ [] ∧ xs.length + ys.length ≤ sizeLine ∧
  (ys = [] → Q (.ref a) H) ∧ (ys ≠ [] → ∀ p, H p = none → Q (.ref p) (upd H p (.tup (xs ++ ys))))
theorem Vals.nil_iff {xs : List V} {us : List Value} (r : Vals xs us) : us = [] ↔ xs = [] := by
  cases r with
  | nil => simp
  | cons _ _ => simp
theorem op_catT : OpR X (binaryOp .Add) (rCatT X.K) := by
  intro pins s σ H x y v u Q I rx ry h
  obtain ⟨a, b, xs, ys, rfl, rfl, ha, hb, hx, hz, q1, q2⟩ := h
  cases rx
  cases ry
  obtain ⟨its, r1, p1, _⟩ := I.tuple ha
  obtain ⟨its2, r2, p2, _⟩ := I.tuple hb
  refine HT.cat_tup p1 p2 (fun z => hx (r1.nil_iff.mp z)) (fun z => ⟨.ref a, H, I, rfl, q1 (r2.nil_iff.mp z)⟩) (fun z => ?_) (by rw [← r1.length, ← r2.length]; exact hz)
  refine ⟨.ref s.heap.objs.size, _, I.laid (t' := s.toks) (o := .tup (xs ++ ys)) (fun b ob q => Heap.get?_push_of_some _ q) (Nat.le_refl _) ?_, rfl, q2 (fun w => z (r2.nil_iff.mpr w)) _ (I.hok.fresh (Nat.le_refl _))⟩
  exact ⟨by rw [List.length_append]; exact hz, _, r1.append r2, IsTup.new _ _⟩
/-- tuple(t) -/
theorem call_tupleT : CallR X (.type "tuple") (fun xs H Q => ∃ a ys, xs = [.ref a] ∧ SqT X.K H a ys ∧ Q (.ref a) H) := by
  intro pins s σ H xs us Q I r h
  obtain ⟨a, ys, rfl, ha, q⟩ := h
  obtain ⟨u, rfl, ru⟩ := vals1 r
  cases ru
  obtain ⟨its, _, p1, _⟩ := I.tuple ha
  exact call_tuple_same (items := its.toArray) p1 ⟨.ref a, H, I, rfl, q⟩
end
end L2

namespace L2
open PySem PySem.Spec PyProof.Rows

/-! ### places -/
/-- the place that an index of any sign means -/
def ixN (n : Nat) (i : Int) : Option Nat := if 0 ≤ i then (if i < n then some i.toNat else none) else if -(n : Int) ≤ i then some (i + n).toNat else none
def atI {α : Type} (xs : List α) (i : Int) : Option α := (ixN xs.length i).bind fun j => xs[j]?
theorem ixN_seq {n : Nat} {i : Int} {j : Nat} (h : ixN n i = some j) : seqIndex? i n = some j ∧ j < n ∧ -(n : Int) ≤ i ∧ i < n := by
  unfold ixN at h
  by_cases h0 : 0 ≤ i
  · rw [if_pos h0] at h
    by_cases h1 : i < n
    · rw [if_pos h1] at h
      have e : i.toNat = j := Option.some.inj h
      exact ⟨by rw [seqIndex_of h0 h1, e], by omega, by omega, h1⟩
    · rw [if_neg h1] at h; cases h
  · rw [if_neg h0] at h
    by_cases h1 : -(n : Int) ≤ i
    · rw [if_pos h1] at h
      have e : (i + n).toNat = j := Option.some.inj h
      exact ⟨by rw [seqIndex_neg (by omega) h1, e], by omega, h1, by omega⟩
    · rw [if_neg h1] at h; cases h
theorem atI_get {α : Type} {xs : List α} {i : Int} {v : α} (h : atI xs i = some v) : ∃ j, seqIndex? i xs.length = some j ∧ xs[j]? = some v ∧ j < xs.length ∧ -(xs.length : Int) ≤ i ∧ i < xs.length := by
  unfold atI at h
  cases e : ixN xs.length i with
  | none => rw [e] at h; cases h
  | some j =>
    rw [e] at h
    obtain ⟨h1, h2, h3, h4⟩ := ixN_seq e
    exact ⟨j, h1, h, h2, h3, h4⟩
theorem atI_nat {α : Type} {xs : List α} {j : Nat} {v : α} (h : xs[j]? = some v) : atI xs (j : Int) = some v := by
  have hj : j < xs.length := (List.getElem?_eq_some_iff.mp h).1
  have e : ixN xs.length (j : Int) = some j := by
    unfold ixN
    rw [if_pos (by omega), if_pos (by omega)]; simp
  unfold atI; rw [e]; exact h
theorem atI_last {α : Type} (xs : List α) (v : α) : atI (xs ++ [v]) (-1) = some v := by
  have hl : (xs ++ [v]).length = xs.length + 1 := by simp
  have e : ixN (xs ++ [v]).length (-1) = some xs.length := by
    unfold ixN
    rw [hl, if_neg (by decide), if_pos (by omega)]
    congr 1
    omega
  unfold atI
  rw [e]
  show (xs ++ [v])[xs.length]? = some v
  simp

/-! ### what may be subscripted -/
/-- what stands as an index of a plain subscript -/
def PlainIx (b : Expr) : Prop := ∀ o i, subscripted b false o i = operate [o, i] (getItem o i)
/-- a subscript by values -/
def IxR (X : Cx) (r : R2) : Prop :=
  ∀ (value slice : Expr) (pins : List (Addr × Obj)) (s : Shared) (σ : St) (H : Hp) (x y : V) (v u : Value) (Q : VK), Inv X pins σ H s → RelV x v → RelV y u → r x y H Q →
    subscripted slice false v u = operate [v, u] (getItem v u) → wpAny (model X.prog X.w) X.A (subscriptTail value slice v u) (EP X pins σ Q) X.xe s
/-- a call of a builtin's method by values: the receiver, the arguments -/
def MtR (X : Cx) (id : String) (r : V → List V → Hp → VK → Prop) : Prop :=
  ∀ (pins : List (Addr × Obj)) (s : Shared) (σ : St) (H : Hp) (x : V) (xs : List V) (v : Value) (us : List Value) (Q : VK), Inv X pins σ H s → RelV x v → Vals xs us → r x xs H Q →
    wpAny (model X.prog X.w) X.A (call (.builtin id) (v :: us)) (EP X pins σ Q) X.xe s
section
variable {X : Cx} {a b : Expr} {ta tb : TE} {pos : Pos}
theorem IxR.or {r r' : R2} (h : IxR X r) (h' : IxR X r') : IxR X (fun x y H Q => r x y H Q ∨ r' x y H Q) := by
  intro value slice pins s σ H x y v u Q I rx ry q hs
  rcases q with q | q
  · exact h value slice pins s σ H x y v u Q I rx ry q hs
  · exact h' value slice pins s σ H x y v u Q I rx ry q hs
theorem MtR.or {id : String} {r r' : V → List V → Hp → VK → Prop} (h : MtR X id r) (h' : MtR X id r') : MtR X id (fun x xs H Q => r x xs H Q ∨ r' x xs H Q) := by
  intro pins s σ H x xs v us Q I rx rs q
  rcases q with q | q
  · exact h pins s σ H x xs v us Q I rx rs q
  · exact h' pins s σ H x xs v us Q I rx rs q
/-- a[b] -/
theorem pe_ix {r : R2} (hr : IxR X r) (ha : PE X a ta) (hb : PE X b tb) (hs : PlainIx b) : PE X (.Subscript a b pos) (tOp r ta tb) := by
  intro pins s σ H Q I h
  exact Subscript_ (binT ha hb I h fun v u s2 x y H2 I2 rx ry q => hr a b pins s2 σ H2 x y v u Q I2 rx ry q (hs _ _))

def rIxL (K : PySem.W.Frag) : R2 := fun x y H Q => ∃ p xs i v, x = .ref p ∧ y = .int i ∧ SqL K H p xs ∧ atI xs i = some v ∧ Q v H
def rIxT (K : PySem.W.Frag) : R2 := fun x y H Q => ∃ p xs i v, x = .ref p ∧ y = .int i ∧ SqT K H p xs ∧ atI xs i = some v ∧ Q v H
def rIxS : R2 := fun x y H Q => ∃ z i c, x = .str z ∧ y = .int i ∧ z.length ≤ sizeLine ∧ atI z.cps.toList i = some c ∧ Q (.str ⟨#[c]⟩) H
theorem ix_list : IxR X (rIxL X.K) := by
  intro value slice pins s σ H x y v u Q I rx ry h hs
  obtain ⟨p, xs, i, z, rfl, rfl, hq, he, q⟩ := h
  cases rx
  obtain ⟨t, rfl⟩ := ry
  obtain ⟨its, r, pl, hz⟩ := I.list hq
  obtain ⟨j, h1, h2, h3, h4, h5⟩ := atI_get he
  obtain ⟨w, ew, rw'⟩ := r.get h2
  have hl := r.length
  have hn := line63
  have fin : EP X pins σ Q w s := ⟨z, H, I, rw', q⟩
  by_cases h0 : 0 ≤ i
  · have hj : i.toNat = j := by
      rw [seqIndex_of h0 h5] at h1
      exact Option.some.inj h1
    exact item_listR pl.isList h0 (by omega) (by rw [hj]; simpa using ew) fin hs
  · have hj : (i + (its.toArray.size : Int)).toNat = j := by
      rw [seqIndex_neg (by omega) h4] at h1
      rw [List.size_toArray, ← hl]
      exact Option.some.inj h1
    exact subscriptTail_builtinR (x := w) pl.isList.typeIs slot_list_getitem.lookup
      (wpAny_getItem_list_neg (Q := fun r s' => r = w ∧ EP X pins σ Q r s') pl.isList (by omega) (by rw [List.size_toArray] <;> omega) (by omega) (by rw [hj]; simpa using ew) ⟨rfl, fin⟩) hs
theorem ix_tup : IxR X (rIxT X.K) := by
  intro value slice pins s σ H x y v u Q I rx ry h hs
  obtain ⟨p, xs, i, z, rfl, rfl, hq, he, q⟩ := h
  cases rx
  obtain ⟨t, rfl⟩ := ry
  obtain ⟨its, r, pl, hz⟩ := I.tuple hq
  obtain ⟨j, h1, h2, h3, h4, h5⟩ := atI_get he
  obtain ⟨w, ew, rw'⟩ := r.get h2
  have hl := r.length
  have hn := line63
  have fin : EP X pins σ Q w s := ⟨z, H, I, rw', q⟩
  exact subscriptTail_builtinR (x := w) pl.typeIs slot_tuple_getitem.lookup
    (getItem_tuple (j := j) (Q := fun r s' => r = w ∧ EP X pins σ Q r s') pl (by omega) (by omega) (by rw [List.size_toArray, ← hl]; exact h1) (by simpa using ew) ⟨rfl, fin⟩) hs
theorem ix_str : IxR X rIxS := by
  intro value slice pins s σ H x y v u Q I rx ry h hs
  obtain ⟨z, i, c, rfl, rfl, hz, he, q⟩ := h
  obtain ⟨t, rfl⟩ := rx
  obtain ⟨t', rfl⟩ := ry
  obtain ⟨j, h1, h2, h3, h4, h5⟩ := atI_get he
  have hl : z.cps.toList.length = z.length := by simp [Str.length]
  rw [hl] at h1 h4 h5
  have hn := line63
  exact tail_any (typeIs_str s z t) slot_str_getitem.lookup (getItem_str (c := c) (by
    have e1 : decide (i < -(2 ^ 63 : Int)) = false := decide_eq_false (by omega)
    have e2 : decide (i ≥ 2 ^ 63) = false := decide_eq_false (by omega)
    rw [e1, e2, Bool.or_false]) (by rw [h1]; simpa using h2) ⟨.str ⟨#[c]⟩, H, I.tok _, ⟨_, rfl⟩, q⟩) hs
/-- list, tuple or str -/
def rIx (K : PySem.W.Frag) : R2 := fun x y H Q => rIxL K x y H Q ∨ rIxT K x y H Q ∨ rIxS x y H Q
theorem ix_seq : IxR X (rIx X.K) := ix_list.or (ix_tup.or ix_str)

/-! ### xs[i] = v, any sign -/
/-- the list's object behind a store -/
theorem mapSeq_set (its : List Value) (n j : Nat) (u : Value) : Obj.mapSeq (·.setIfInBounds j u) { cls := .type "list", data := .seq its.toArray n } = { cls := .type "list", data := .seq (its.set j u).toArray n } := by
  simp [Obj.mapSeq]
theorem Inv.lst {pins : List (Addr × Obj)} {σ : St} {H : Hp} {s : Shared} {p : Addr} {xs : List V} (I : Inv X pins σ H s) (h : H p = some (.lst xs)) :
    ∃ (its : List Value) (n : Nat), Vals xs its ∧ s.heap.get? p = some { cls := .type "list", data := .seq its.toArray n } ∧ xs.length ≤ sizeLine := by
  obtain ⟨z, its, n, r, e⟩ := I.hok p _ h
  exact ⟨its, n, r, e, z⟩
/-- the list at p is written by an update of its object -/
theorem Inv.lstUpd {pins : List (Addr × Obj)} {σ : St} {H : Hp} {s : Shared} {p : Addr} {xs ys : List V} {its its' : List Value} {n n' : Nat} {f : Obj → Obj} (I : Inv X pins σ H s) (h : H p = some (.lst xs))
    (ho : s.heap.get? p = some { cls := .type "list", data := .seq its.toArray n }) (hf : f { cls := .type "list", data := .seq its.toArray n } = { cls := .type "list", data := .seq its'.toArray n' }) (r : Vals ys its') (hz : ys.length ≤ sizeLine) (t : Nat) :
    Inv X pins σ (upd H p (.lst ys)) { s with heap := s.heap.update p f, toks := t } := by
  have e : (s.heap.update p f).get? p = some { cls := .type "list", data := .seq its'.toArray n' } := by
    rw [Heap.get?_update_self f ho (by rw [hf] <;> rfl), hf]
  refine I.write (x := p) (e := p) (by rw [h]; trivial) (.inl rfl) (fun b u hb q => (Heap.get?_update_other _ _ (Ne.symm hb)).trans q) ⟨_, e⟩ ?_
  exact ⟨hz, its', n', r, e⟩
def rSetL : V → V → V → Hp → (Hp → Prop) → Prop := fun o i v H Q => ∃ p xs k j, o = .ref p ∧ i = .int k ∧ H p = some (.lst xs) ∧ ixN xs.length k = some j ∧ Q (upd H p (.lst (xs.set j v)))
theorem set_list : PSet X rSetL := by
  intro pins s σ H o i v ov iv u Q I ro ri rv h
  obtain ⟨p, xs, k, j, rfl, rfl, hp, hj, q⟩ := h
  cases ro
  obtain ⟨t, rfl⟩ := ri
  obtain ⟨its, n, r, ho, hz⟩ := I.lst hp
  obtain ⟨h1, h2, h3, h4⟩ := ixN_seq hj
  have hl := r.length
  have hn := line63
  have I' : Inv X pins σ (upd H p (.lst (xs.set j v))) { s with heap := s.heap.update p (Obj.mapSeq (·.setIfInBounds j u)) } :=
    I.lstUpd hp ho (mapSeq_set its n j u) (r.set rv j) (by rw [List.length_set]; exact hz) s.toks
  by_cases h0 : 0 ≤ k
  · have hk : k.toNat = j := by
      rw [seqIndex_of h0 h4] at h1
      exact Option.some.inj h1
    exact PySem.W.ki_setAt ho h0 (by omega) (by rw [List.size_toArray, ← hl]; exact h4) (by rw [hk]; exact ⟨_, I', q⟩)
  · have hk : (k + (its.toArray.size : Int)).toNat = j := by
      rw [seqIndex_neg (by omega) h3] at h1
      rw [List.size_toArray, ← hl]
      exact Option.some.inj h1
    exact PySem.W.ki_setBack ho (by omega) (by rw [List.size_toArray, ← hl]; exact h3) (by omega) (by rw [hk]; exact ⟨_, I', q⟩)

/-! ### slices -/
theorem slice_bounds (lo hi : Option Int) (n : Nat) : (sliceBounds lo hi none n).1 = ((HT.sIx n 0 lo : Nat) : Int) ∧ (sliceBounds lo hi none n).2.1 = ((HT.sIx n n hi : Nat) : Int) ∧ (sliceBounds lo hi none n).2.2 = 1 := by
  refine ⟨?_, ?_, rfl⟩
  · cases lo with
    | none => simp [sliceBounds, HT.sIx]
    | some i =>
      simp only [sliceBounds, HT.sIx, Option.getD_none, show (1 : Int) > 0 by decide, if_true]
      by_cases h : i < 0
      · simp only [h, if_true] <;> omega
      · simp only [h, if_false] <;> omega
  · cases hi with
    | none => simp [sliceBounds, HT.sIx]
    | some i =>
      simp only [sliceBounds, HT.sIx, Option.getD_none, show (1 : Int) > 0 by decide, if_true]
      by_cases h : i < 0
      · simp only [h, if_true] <;> omega
      · simp only [h, if_false] <;> omega
theorem slicePick_cut (its : List Value) (lo hi : Option Int) : slicePick its.toArray lo hi none = ((its.drop (HT.sIx its.length 0 lo)).take (HT.sIx its.length its.length hi - HT.sIx its.length 0 lo)).toArray := by
  obtain ⟨h1, h2, h3⟩ := slice_bounds lo hi its.toArray.size
  unfold slicePick
  rw [h1, h2, h3]
  simp only [sliceRange_one, pick_run, List.size_toArray] <;> rfl
/-- xs[lo:hi] of a list: a new list -/
def rSlL (K : PySem.W.Frag) : V → Option Int → Option Int → Hp → VK → Prop := fun x lo hi H Q => ∃ a xs, x = .ref a ∧ SqL K H a xs ∧ ∀ p, H p = none → Q (.ref p) (upd H p (.lst (cutV xs lo hi)))
theorem sl_list : SlR X (rSlL X.K) := by
  intro pins s σ H x v vl vu lo hi sl Q I rx hs pl pu h
  obtain ⟨a, xs, rfl, hx, q⟩ := h
  cases rx
  obtain ⟨its, r, ht, hz⟩ := I.list hx
  have hlen := r.length
  refine ⟨"list", _, slot_list_getitem.lookup, ht.isList.typeIs, ?_⟩
  refine wpAny_getItem_list_slice ht.isList hs pl pu .none (by simp) ?_ (by rw [List.size_toArray] <;> omega)
  rw [slicePick_cut, ← hlen]
  refine ⟨.ref s.heap.objs.size, _, I.laid (t' := s.toks) (o := .lst (cutV xs lo hi)) (fun b ob q => Heap.get?_push_of_some _ q) (Nat.le_refl _) ?_, rfl, q _ (I.hok.fresh (Nat.le_refl _))⟩
  exact ⟨Nat.le_trans (cutV_length xs lo hi) hz, _, 0, (r.drop (HT.sIx xs.length 0 lo)).take (HT.sIx xs.length xs.length hi - HT.sIx xs.length 0 lo), Heap.get?_push_size _ rfl⟩

/-! ### in, not in: flat items -/
def flatV : V → Bool
  | .non => true
  | .bl _ => true
  | .int _ => true
  | .str _ => true
  | _ => false
/-- == of flat values -/
def eqV : V → V → Bool
  | .non, .non => true
  | .bl a, .bl b => a == b
  | .bl a, .int b => (if a then 1 else 0) == b
  | .int a, .bl b => a == (if b then 1 else 0)
  | .int a, .int b => a == b
  | .str a, .str b => a == b
  | _, _ => false
theorem eqAt_V {A : Around} {s : Shared} {y x : V} {u v : Value} (ry : RelV y u) (rx : RelV x v) (fy : flatV y = true) (fx : flatV x = true) : SeqAt.EqAt A s u v (eqV y x) := by
  cases y with
  | non =>
    cases ry
    cases x with
    | non => cases rx; exact SeqAt.EqAt.same _
    | bl b => cases rx; exact SeqAt.EqAt.none_bool b
    | int b => obtain ⟨t, rfl⟩ := rx; exact SeqAt.EqAt.none_int b t
    | str b => obtain ⟨t, rfl⟩ := rx; exact SeqAt.EqAt.none_str b t
    | _ => exact absurd (show false = true from fx) Bool.false_ne_true
  | bl a =>
    cases ry
    cases x with
    | non => cases rx; exact SeqAt.EqAt.bool_none a
    | bl b => cases rx; exact SeqAt.EqAt.bool_bool a b
    | int b => obtain ⟨t, rfl⟩ := rx; exact SeqAt.EqAt.bool_int a b t
    | str b => obtain ⟨t, rfl⟩ := rx; exact SeqAt.EqAt.bool_str a b t
    | _ => exact absurd (show false = true from fx) Bool.false_ne_true
  | int a =>
    obtain ⟨t', rfl⟩ := ry
    cases x with
    | non => cases rx; exact SeqAt.EqAt.int_none a t'
    | bl b => cases rx; exact SeqAt.EqAt.int_bool a t' b
    | int b => obtain ⟨t, rfl⟩ := rx; exact SeqAt.EqAt.int_int a t' b t
    | str b => obtain ⟨t, rfl⟩ := rx; exact SeqAt.EqAt.int_str a t' b t
    | _ => exact absurd (show false = true from fx) Bool.false_ne_true
  | str a =>
    obtain ⟨t', rfl⟩ := ry
    cases x with
    | non => cases rx; exact SeqAt.EqAt.str_none a t'
    | bl b => cases rx; exact SeqAt.EqAt.str_bool a t' b
    | int b => obtain ⟨t, rfl⟩ := rx; exact SeqAt.EqAt.str_int a t' b t
    | str b => obtain ⟨t, rfl⟩ := rx; exact SeqAt.EqAt.str_str a t' b t
    | _ => exact absurd (show false = true from fx) Bool.false_ne_true
  | _ => exact absurd (show false = true from fy) Bool.false_ne_true
/-- the items' answers, read off the values (a value's own answer does not lean on its token) -/
def eqU (x : V) (u : Value) : Bool := match u with
  | .none => eqV .non x
  | .bool b => eqV (.bl b) x
  | .int i _ => eqV (.int i) x
  | .str z _ => eqV (.str z) x
  | _ => false
theorem eqU_of {x y : V} {u : Value} (r : RelV y u) (f : flatV y = true) : eqU x u = eqV y x := by
  cases y with
  | non => cases r; rfl
  | bl b => cases r; rfl
  | int i => obtain ⟨t, rfl⟩ := r; rfl
  | str z => obtain ⟨t, rfl⟩ := r; rfl
  | _ => exact absurd (show false = true from f) Bool.false_ne_true
theorem any_eqU {x : V} : ∀ {xs : List V} {us : List Value}, Vals xs us → xs.all flatV = true → us.any (eqU x) = xs.any fun y => eqV y x
  | _, _, .nil, _ => rfl
  | y :: xs, u :: us, .cons r t, f => by
    rw [List.all_cons, Bool.and_eq_true] at f
    rw [List.any_cons, List.any_cons, eqU_of r f.1, any_eqU t f.2]
theorem mem_eqAt {A : Around} {s : Shared} {x : V} {v : Value} (rx : RelV x v) (fx : flatV x = true) : ∀ {xs : List V} {us : List Value}, Vals xs us → xs.all flatV = true → ∀ u ∈ us, SeqAt.EqAt A s u v (eqU x u)
  | _, _, .nil, _ => fun u hu => by cases hu
  | y :: xs, u :: us, .cons r t, f => fun u' hu => by
    rw [List.all_cons, Bool.and_eq_true] at f
    rcases List.mem_cons.mp hu with rfl | hu
    · rw [eqU_of r f.1]; exact eqAt_V r rx f.1 fx
    · exact mem_eqAt rx fx t f.2 u' hu
def inV (x : V) (xs : List V) : Bool := xs.any fun y => eqV y x
/-- x in a list or tuple of flat items -/
def rIn (K : PySem.W.Frag) (neg : Bool) : R2 := fun x y H Q => ∃ p xs, y = .ref p ∧ (SqL K H p xs ∨ SqT K H p xs) ∧ flatV x = true ∧ xs.all flatV = true ∧ Q (.bl (if neg then !inV x xs else inV x xs)) H
theorem op_in_seq : OpR X (compareOp .In) (rIn X.K false) := by
  intro pins s σ H x y v u Q I rx ry h
  obtain ⟨p, xs, rfl, hq, fx, fs, q⟩ := h
  cases ry
  rcases hq with hq | hq
  · obtain ⟨its, r, pl, hz⟩ := I.list hq
    refine SeqAt.in_listAt (eqU x) pl.isList (fun w hw => mem_eqAt rx fx r fs w (by simpa using hw)) ⟨.bl _, H, I, rfl, ?_⟩
    rw [show its.toArray.any (eqU x) = its.any (eqU x) by simp, any_eqU r fs]
    exact q
  · obtain ⟨its, r, pl, hz⟩ := I.tuple hq
    refine SeqAt.in_tupleAt (eqU x) pl (fun w hw => mem_eqAt rx fx r fs w (by simpa using hw)) ⟨.bl _, H, I, rfl, ?_⟩
    rw [show its.toArray.any (eqU x) = its.any (eqU x) by simp, any_eqU r fs]
    exact q
theorem op_notIn_seq : OpR X (compareOp .NotIn) (rIn X.K true) := by
  intro pins s σ H x y v u Q I rx ry h
  obtain ⟨p, xs, rfl, hq, fx, fs, q⟩ := h
  cases ry
  rcases hq with hq | hq
  · obtain ⟨its, r, pl, hz⟩ := I.list hq
    refine SeqAt.notIn_listAt (eqU x) pl.isList (fun w hw => mem_eqAt rx fx r fs w (by simpa using hw)) ⟨.bl _, H, I, rfl, ?_⟩
    rw [show its.toArray.any (eqU x) = its.any (eqU x) by simp, any_eqU r fs]
    exact q
  · obtain ⟨its, r, pl, hz⟩ := I.tuple hq
    refine SeqAt.notIn_tupleAt (eqU x) pl (fun w hw => mem_eqAt rx fx r fs w (by simpa using hw)) ⟨.bl _, H, I, rfl, ?_⟩
    rw [show its.toArray.any (eqU x) = its.any (eqU x) by simp, any_eqU r fs]
    exact q
theorem op_notIn_str : OpR X (compareOp .NotIn) (fun x y H Q => ∃ i j, x = .str i ∧ y = .str j ∧ Q (.bl (!(!(Builtin.Str.occurrences j i 0 j.length 1).isEmpty))) H) := by
  intro pins s σ H x y v u Q I rx ry h
  obtain ⟨i, j, rfl, rfl, q⟩ := h
  obtain ⟨t, rfl⟩ := rx
  obtain ⟨t', rfl⟩ := ry
  exact notIn_str ⟨.bl _, H, I, rfl, q⟩

/-! ### len, list(x), tuple(x) of any list or tuple that is read -/
theorem call_len_seq : CallR X (.builtin "len") (fun xs H Q => ∃ p ys, xs = [.ref p] ∧ (SqL X.K H p ys ∨ SqT X.K H p ys) ∧ Q (.int ys.length) H) := by
  intro pins s σ H xs us Q I r h
  obtain ⟨p, ys, rfl, hq, q⟩ := h
  obtain ⟨u, rfl, rx⟩ := vals1 r
  cases rx
  have hn := line63
  rcases hq with hq | hq
  · obtain ⟨its, r', pl, hz⟩ := I.list hq
    have hlen := r'.length
    exact Calls.call_len_list pl.isList (by simp only [List.size_toArray] <;> omega) ⟨.int ys.length, H, I.tok _, ⟨s.toks + 1, by rw [List.size_toArray, hlen]⟩, q⟩
  · obtain ⟨its, r', pl, hz⟩ := I.tuple hq
    have hlen := r'.length
    exact len_tuple pl (by simp only [List.size_toArray] <;> omega) ⟨.int ys.length, H, I.tok _, ⟨s.toks + 1, by rw [List.size_toArray, hlen]⟩, q⟩
theorem call_len_str : CallR X (.builtin "len") (fun xs H Q => ∃ z, xs = [.str z] ∧ z.length ≤ sizeLine ∧ Q (.int z.length) H) := by
  intro pins s σ H xs us Q I r h
  obtain ⟨z, rfl, hz, q⟩ := h
  obtain ⟨u, rfl, t, rfl⟩ := vals1 r
  have hn := line63
  exact len_str (by omega) ⟨.int z.length, H, I.tok _, ⟨_, rfl⟩, q⟩
theorem CallR.or {f : Value} {r r' : List V → Hp → VK → Prop} (h : CallR X f r) (h' : CallR X f r') : CallR X f (fun xs H Q => r xs H Q ∨ r' xs H Q) := by
  intro pins s σ H xs us Q I rs q
  rcases q with q | q
  · exact h pins s σ H xs us Q I rs q
  · exact h' pins s σ H xs us Q I rs q
theorem call_list_of : CallR X (.type "list") (fun xs H Q => ∃ p ys, xs = [.ref p] ∧ (SqL X.K H p ys ∨ SqT X.K H p ys) ∧ ∀ l, H l = none → Q (.ref l) (upd H l (.lst ys))) := by
  intro pins s σ H xs us Q I r h
  obtain ⟨p, ys, rfl, hq, q⟩ := h
  obtain ⟨u, rfl, rx⟩ := vals1 r
  cases rx
  have fin : ∀ (its : List Value), Vals ys its → ys.length ≤ sizeLine → ∀ (h' : Heap) (c' : Nat), (∀ b o', s.heap.get? b = some o' → h'.get? b = some o') →
      h'.get? s.heap.objs.size = some { cls := .type "list", dict := none, data := .seq its.toArray c', slots := #[] } → EP X pins σ Q (.ref s.heap.objs.size) { s with heap := h' } := fun its r' hz h' c' kp e =>
    ⟨.ref s.heap.objs.size, _, I.laid (t' := s.toks) kp (Nat.le_refl _) (show ObjOk X.prog X.w _ h' _ (.lst ys) from ⟨hz, its, c', r', e⟩), rfl, q _ (I.hok.fresh (Nat.le_refl _))⟩
  rcases hq with hq | hq
  · obtain ⟨its, r', pl, hz⟩ := I.list hq
    have hlen := r'.length
    obtain ⟨o, ho, hc, n, hd⟩ := pl.isList
    exact call_list_seq p (.inl rfl) ho hc hd (fun h' c' kp e => fin its r' hz h' c' kp e) (by simp only [List.size_toArray] <;> omega)
  · obtain ⟨its, r', pl, hz⟩ := I.tuple hq
    have hlen := r'.length
    obtain ⟨o, ho, hc, n, hd⟩ := pl
    exact call_list_seq p (.inr rfl) ho hc hd (fun h' c' kp e => fin its r' hz h' c' kp e) (by simp only [List.size_toArray] <;> omega)
theorem call_tuple_of : CallR X (.type "tuple") (fun xs H Q => ∃ p ys, xs = [.ref p] ∧ ((SqL X.K H p ys ∧ ∀ l, H l = none → Q (.ref l) (upd H l (.tup ys))) ∨ (SqT X.K H p ys ∧ Q (.ref p) H))) := by
  intro pins s σ H xs us Q I r h
  obtain ⟨p, ys, rfl, h⟩ := h
  obtain ⟨u, rfl, rx⟩ := vals1 r
  cases rx
  rcases h with ⟨hq, q⟩ | ⟨hq, q⟩
  · obtain ⟨its, r', pl, hz⟩ := I.list hq
    have hlen := r'.length
    refine call_tuple_list pl.isList (fun h' kp => ?_) (by simp only [List.size_toArray] <;> omega)
    have I1 : Inv X pins σ H { s with heap := h' } := I.kept (t' := s.toks) kp
    have I2 : Inv X pins σ (upd H h'.objs.size (.tup ys)) { s with heap := h'.push { cls := .type "tuple", data := .seq its.toArray } } :=
      I1.laid (t' := s.toks) (fun b o e => Heap.get?_push_of_some _ e) (Nat.le_refl _) (show ObjOk X.prog X.w _ _ _ (.tup ys) from ⟨hz, its, r', IsTup.new _ _⟩)
    exact ⟨.ref h'.objs.size, _, I2, rfl, q _ (I1.hok.fresh (Nat.le_refl _))⟩
  · obtain ⟨its, r', pl, hz⟩ := I.tuple hq
    exact call_tuple_same pl ⟨.ref p, H, I, rfl, q⟩

/-! ### the call of a builtin's method: o.m(..) -/
/-- the value is of that builtin type -/
def tyV (K : PySem.W.Frag) (T : String) (x : V) (H : Hp) : Prop := match x with
  | .str _ => T = "str"
  | .int _ => T = "int"
  | .ref p => (T = "list" ∧ ∃ xs, SqL K H p xs) ∨ (T = "tuple" ∧ ∃ o, K.lookup p = some o ∧ o.cls = .type "tuple" ∧ o.dict = none) ∨
      (T = "dict" ∧ ((∃ kvs, H p = some (.dK kvs)) ∨ ∃ kvs, H p = some (.dT kvs))) ∨ (T = "set" ∧ ∃ S n, H p = some (.set S n))
  | _ => False
theorem tyV_is {pins : List (Addr × Obj)} {σ : St} {H : Hp} {s : Shared} {T : String} {x : V} {v : Value} (I : Inv X pins σ H s) (r : RelV x v) (ty : tyV X.K T x H) :
    s.TypeIs v T ∧ ∀ a, v = .ref a → ∃ ob, s.heap.get? a = some ob ∧ ob.dict = none := by
  cases x with
  | str z =>
    obtain ⟨t, rfl⟩ := r
    cases (show T = "str" from ty)
    exact ⟨typeIs_str s z t, fun _ e => nomatch e⟩
  | int i =>
    obtain ⟨t, rfl⟩ := r
    cases (show T = "int" from ty)
    exact ⟨typeIs_int s i t, fun _ e => nomatch e⟩
  | ref p =>
    cases r
    rcases ty with ⟨rfl, xs, hq⟩ | ⟨rfl, o, hk, hc, hd⟩ | ⟨rfl, hk⟩ | ⟨rfl, S, n, hk⟩
    · obtain ⟨its, _, pl, _⟩ := I.list hq
      refine ⟨pl.isList.typeIs, fun a e => ?_⟩
      cases e
      obtain ⟨o, n, e, c, hd, _⟩ := pl
      exact ⟨o, e, hd⟩
    · refine ⟨⟨o, I.kIn p o hk, hc⟩, fun a e => ?_⟩
      cases e
      exact ⟨o, I.kIn _ o hk, hd⟩
    · have z : ∃ o, s.heap.get? p = some o ∧ o.ExactDict := by
        rcases hk with ⟨kvs, hk⟩ | ⟨kvs, hk⟩
        · obtain ⟨_, _, _, _, o, _, _, e, ex, _⟩ := I.hok p _ hk
          exact ⟨o, e, ex⟩
        · obtain ⟨_, _, _, _, o, _, _, e, ex, _⟩ := I.hok p _ hk
          exact ⟨o, e, ex⟩
      obtain ⟨o, e, ex⟩ := z
      refine ⟨⟨o, e, ex.1⟩, fun a e2 => ?_⟩
      cases e2
      exact ⟨o, e, ex.2.1⟩
    · obtain ⟨o, _, _, _, e, ex, _⟩ := I.hok p _ hk
      refine ⟨⟨o, e, ex.1⟩, fun a e2 => ?_⟩
      cases e2
      exact ⟨o, e, ex.2.1⟩
  | _ => exact False.elim ty
def tBM0 (K : PySem.W.Frag) (T : String) (r : V → List V → Hp → VK → Prop) (to : TE) : TE := fun σ H Q => to σ H fun x H1 => tyV K T x H1 ∧ r x [] H1 Q
def tBM (K : PySem.W.Frag) (T : String) (r : V → List V → Hp → VK → Prop) (to : TE) (t : TA) : TE := fun σ H Q => to σ H fun x H1 => tyV K T x H1 ∧ t σ H1 fun xs H2 => r x xs H2 Q
variable {o e : Expr} {es : List Expr} {to : TE} {t : TA} {name : Str} {apos cpos : Pos} {T id : String} {r : V → List V → Hp → VK → Prop}
theorem pe_bm0 (pa : PlainAttrs T) (slot : Slot T name id) (hty : typeOf (.builtin id) = pure (.type "method_descriptor")) (hm : MtR X id r) (ho : PE X o to)
    (hbase : attributeBase o name X.env (eval o X.env) = eval o X.env := by rfl) (hline : (apos.endLine == cpos.line) = true := by rfl) : PE X (.Call (.Attribute o name apos) [] [] cpos) (tBM0 X.K T r to) := by
  intro pins s σ H Q I h
  refine wpAny_Call_method0_late hbase hline (thn (ho pins s σ H _ I h) fun v s1 ⟨x, H1, I1, r1, ty, q1⟩ => ?_)
  obtain ⟨h1, h2⟩ := tyV_is I1 r1 ty
  exact ⟨T, id, pa, slot, hty, h1, h2, Calls.callWith_builtin rfl (PySem.evalArgs_none (hm pins s1 σ H1 x [] v [] Q I1 r1 .nil q1))⟩
theorem pe_bm (pa : PlainAttrs T) (slot : Slot T name id) (hty : typeOf (.builtin id) = pure (.type "method_descriptor")) (hm : MtR X id r) (ho : PE X o to) (ha : PA X (e :: es) t)
    (hbase : attributeBase o name X.env (eval o X.env) = eval o X.env := by rfl)
    (hfew : ((backTo cpos (starEach (e :: es) X.env)).all (fun x => !x.1) && (backToKw cpos (keywordEach [] X.env)).all (fun x => x.1.isSome)
      && decide ((e :: es).length + ([] : List Keyword).length + (if ([] : List Keyword).isEmpty then 0 else 1) < 30)) = true := by rfl)
    (hline : (apos.endLine == cpos.line) = true := by rfl) (hs : starEach (e :: es) X.env = (false, eval e X.env) :: starEach es X.env := by rfl) (hplain : (backTo cpos (starEach es X.env)).any (·.1) = false := by rfl) :
    PE X (.Call (.Attribute o name apos) (e :: es) [] cpos) (tBM X.K T r to t) := by
  intro pins s σ H Q I h
  refine wpAny_Call_method_late hbase hfew hline rfl (thn (ho pins s σ H _ I h) fun v s1 ⟨x, H1, I1, r1, ty, q1⟩ => ?_)
  obtain ⟨h1, h2⟩ := tyV_is I1 r1 ty
  refine ⟨T, id, pa, slot, hty, h1, h2, ?_⟩
  have hA := ha cpos pins s1 σ H1 _ I1 q1
  rw [hs] at hA ⊢
  refine Calls.callWith_builtin (by show (false || (backTo cpos (starEach es X.env)).any (·.1)) = false; rw [hplain] <;> rfl) (Calls.evalArgs_plain ?_)
  exact thn hA fun us s2 ⟨vs, H2, I2, r2, q2⟩ => hm pins s2 σ H2 x vs v us Q I2 r1 r2 q2
/- xs.append(e), list.index on a module's tuple .. are MtR facts of 06m -/
end
end L2

namespace L2
open PySem PySem.Spec PyProof.Rows

def MtM (X : Cx) (id : String) (r : V → List V → Hp → VK → Prop) : Prop :=
  ∀ (pins : List (Addr × Obj)) (s : Shared) (σ : St) (H : Hp) (x : V) (xs : List V) (v : Value) (us : List Value) (Q : VK), Inv X pins σ H s → RelV x v → Vals xs us → r x xs H Q →
    wpAny (model X.prog X.w) X.A (call (.builtin id) (v :: us)) (EP X pins σ Q) X.xe s

/-! ### lists of values -/
theorem Vals.one : ∀ {x : V} {us : List Value}, Vals [x] us → ∃ u, us = [u] ∧ RelV x u
  | _, _, .cons r .nil => ⟨_, rfl, r⟩
theorem Vals.two : ∀ {x y : V} {us : List Value}, Vals [x, y] us → ∃ u v, us = [u, v] ∧ RelV x u ∧ RelV y v
  | _, _, _, .cons r (.cons q .nil) => ⟨_, _, rfl, r, q⟩
theorem Vals.zero : ∀ {us : List Value}, Vals [] us → us = []
  | _, .nil => rfl
theorem Vals.dropLast {xs : List V} {us : List Value} (h : Vals xs us) : Vals xs.dropLast us.dropLast := by
  induction h with
  | nil => exact .nil
  | cons r t ih =>
    cases t with
    | nil => exact .nil
    | cons q t' => exact .cons r ih
theorem Vals.eraseIdx : ∀ {xs : List V} {us : List Value} (i : Nat), Vals xs us → Vals (xs.eraseIdx i) (us.eraseIdx i)
  | _, _, _, .nil => .nil
  | _, _, 0, .cons _ t => t
  | _, _, i + 1, .cons r t => .cons r (Vals.eraseIdx i t)
theorem Vals.reverse {xs : List V} {us : List Value} (h : Vals xs us) : Vals xs.reverse us.reverse := by
  induction h with
  | nil => exact .nil
  | cons r t ih => rw [List.reverse_cons, List.reverse_cons]; exact Vals.append ih (.cons r .nil)
theorem Vals.rep {xs : List V} {us : List Value} (h : Vals xs us) : ∀ k : Nat, Vals (List.replicate k xs).flatten (List.replicate k us).flatten
  | 0 => .nil
  | k + 1 => by
    rw [List.replicate_succ, List.replicate_succ, List.flatten_cons, List.flatten_cons]
    exact Vals.append h (Vals.rep h k)
theorem erase_last {α : Type} (l : List α) : l.eraseIdx (l.length - 1) = l.dropLast := by
  induction l with
  | nil => rfl
  | cons a r ih =>
    cases r with
    | nil => rfl
    | cons b r =>
      have e : (a :: b :: r).length - 1 = ((b :: r).length - 1) + 1 := by
        have h1 : (a :: b :: r).length = r.length + 2 := rfl
        have h2 : (b :: r).length = r.length + 1 := rfl
        omega
      rw [e, List.eraseIdx_cons_succ, ih]
      all_goals rfl
theorem len_erase {α : Type} : ∀ (l : List α) (i : Nat), (l.eraseIdx i).length ≤ l.length
  | [], _ => Nat.le_refl _
  | _ :: _, 0 => Nat.le_succ _
  | _ :: r, i + 1 => Nat.succ_le_succ (len_erase r i)
theorem foldl_rep (its : List Value) : ∀ (k : Nat) (acc : List Value),
    List.foldl (fun x1 x2 => x1 ++ x2) acc.toArray (List.replicate k its.toArray) = (acc ++ (List.replicate k its).flatten).toArray
  | 0, acc => by simp
  | k + 1, acc => by
    have e : acc.toArray ++ its.toArray = (acc ++ its).toArray := by simp
    have e2 : (acc ++ its) ++ (List.replicate k its).flatten = acc ++ (List.replicate (k + 1) its).flatten := by
      rw [List.replicate_succ, List.flatten_cons, List.append_assoc]
    rw [← e2, ← foldl_rep its k (acc ++ its), ← e, List.replicate_succ, List.foldl_cons]

section
variable {X : Cx} {pins : List (Addr × Obj)} {σ : St} {H : Hp} {s : Shared} {l b : Addr} {xs ys zs : List V}

/-! ### the two steps: a tracked list is rewritten, a new list is laid -/
theorem Inv.lset {its its' : List Value} {n : Nat} {f : Array Value → Array Value} {t' : Nat} (I : Inv X pins σ H s) (hH : H l = some (.lst xs))
    (e : s.heap.get? l = some { cls := .type "list", data := .seq its.toArray n }) (hf : f its.toArray = its'.toArray) (hv : Vals ys its') (hz : ys.length ≤ sizeLine) :
    Inv X pins σ (upd H l (.lst ys)) { s with heap := s.heap.update l (Obj.mapSeq f), toks := t' } := by
  have q := PySem.IsL.update e f
  rw [hf] at q
  refine I.write (x := l) (e := l) (by rw [hH]; exact trivial) (.inl rfl) (fun b' u hb hu => (Heap.get?_update_other s.heap (Obj.mapSeq f) (Ne.symm hb)).trans hu) ⟨_, q⟩ ?_
  exact ⟨hz, its', _, hv, q⟩
theorem Inv.lnew {its : List Value} {t' : Nat} (I : Inv X pins σ H s) (hv : Vals ys its) (hz : ys.length ≤ sizeLine) :
    Inv X pins σ (upd H s.heap.objs.size (.lst ys)) { s with heap := s.heap.push { cls := .type "list", data := .seq its.toArray }, toks := t' } :=
  I.laid (fun _ _ q => Heap.get?_push_of_some _ q) (Nat.le_refl _) ⟨hz, its, 0, hv, Heap.get?_push_size _ rfl⟩
theorem Inv.fresh (I : Inv X pins σ H s) : H s.heap.objs.size = none := I.hok.fresh (Nat.le_refl _)
theorem Inv.lstM (I : Inv X pins σ H s) (hH : H l = some (.lst xs)) : xs.length ≤ sizeLine ∧ ∃ (its : List Value) (n : Nat), Vals xs its ∧ xs.length = its.length ∧ s.heap.get? l = some { cls := .type "list", data := .seq its.toArray n } := by
  obtain ⟨z, its, n, r, e⟩ := I.hok l _ hH
  exact ⟨z, its, n, r, r.length, e⟩

theorem notLongL {n : Nat} (h : n ≤ sizeLine) : Builtin.List.listTooLong n = false := by
  unfold Builtin.List.listTooLong
  exact decide_eq_false (by omega)
end

section
variable {X : Cx}

/-! ### methods -/
def rAppend : V → List V → Hp → VK → Prop := fun x vs H Q => ∃ l xs y, x = .ref l ∧ vs = [y] ∧ H l = some (.lst xs) ∧ xs.length < sizeLine ∧ Q .non (upd H l (.lst (xs ++ [y])))
theorem mt_append : MtM X "list.append" rAppend := by
  intro pins s σ H x vs v us Q I rx rv h
  obtain ⟨l, xs, y, rfl, rfl, hH, hz, q⟩ := h
  cases rx
  obtain ⟨u, rfl, ru⟩ := rv.one
  obtain ⟨z, its, n, r, hl, e⟩ := I.lstM hH
  refine call_meets F.slot_list_append ⟨_, e, rfl⟩ F.entry_list_append (F.args_list_append_2 _ _) (PySem.list_append l its.toArray n u (by rw [List.size_toArray]; omega)) ⟨e, ?_⟩
  refine ⟨.non, _, I.lset (its' := its ++ [u]) hH e (by simp) (r.append (.cons ru .nil)) ?_, rfl, q⟩
  rw [List.length_append, List.length_singleton]
  omega

def rExtend : V → List V → Hp → VK → Prop := fun x vs H Q => ∃ l b xs zs, x = .ref l ∧ vs = [.ref b] ∧ H l = some (.lst xs) ∧ H b = some (.lst zs) ∧ xs.length + zs.length ≤ sizeLine ∧ Q .non (upd H l (.lst (xs ++ zs)))
theorem mt_extend : MtM X "list.extend" rExtend := by
  intro pins s σ H x vs v us Q I rx rv h
  obtain ⟨l, b, xs, zs, rfl, rfl, hH, hB, hz, q⟩ := h
  cases rx
  obtain ⟨u, rfl, ru⟩ := rv.one
  cases ru
  obtain ⟨z, its, n, r, hl, e⟩ := I.lstM hH
  obtain ⟨z2, its2, n2, r2, hl2, e2⟩ := I.lstM hB
  have hsz : its.toArray.size + its2.toArray.size ≤ sizeLine := by rw [List.size_toArray, List.size_toArray]; omega
  have hlong : ¬ (!its.toArray.isEmpty && Builtin.List.listTooLong (its.toArray.size + its2.toArray.size)) = true := by
    rw [notLongL hsz, Bool.and_false]
    exact Bool.false_ne_true
  refine call_meets F.slot_list_extend ⟨_, e, rfl⟩ F.entry_list_extend (F.args_list_extend_2 _ _)
    (AutoSeq1.list_extend_list_list_0 l its.toArray n b its2.toArray n2 hlong (by rw [List.size_toArray]; omega) (by omega)) ⟨e, e2, ?_⟩
  refine ⟨.non, _, I.lset (its' := its ++ its2) hH e (by simp) (r.append r2) ?_, rfl, q⟩
  rw [List.length_append]
  omega

def rPop : V → List V → Hp → VK → Prop := fun x vs H Q => ∃ l xs y, x = .ref l ∧ vs = [] ∧ H l = some (.lst xs) ∧ xs[xs.length - 1]? = some y ∧ Q y (upd H l (.lst xs.dropLast))
theorem mt_pop : MtM X "list.pop" rPop := by
  intro pins s σ H x vs v us Q I rx rv h
  obtain ⟨l, xs, y, rfl, rfl, hH, hy, q⟩ := h
  cases rx
  have hus := rv.zero
  subst hus
  obtain ⟨z, its, n, r, hl, e⟩ := I.lstM hH
  obtain ⟨u, hu, ru⟩ := r.get hy
  have hy' : its.toArray[its.toArray.size - 1]? = some u := by
    show its.toArray[its.length - 1]? = some u
    rw [← Array.getElem?_toList, ← hl]
    exact hu
  refine call_meets F.slot_list_pop ⟨_, e, rfl⟩ F.entry_list_pop (F.args_list_pop_1 _) (MeetsSeq.list_pop_last l its.toArray n u hy' (by rw [List.size_toArray]; omega)) ⟨e, ?_⟩
  refine ⟨y, _, I.lset (its' := its.dropLast) hH e ?_ r.dropLast ?_, ru, q⟩
  · show its.toArray.eraseIdxIfInBounds (its.toArray.size - 1) = its.dropLast.toArray
    rw [List.size_toArray, List.eraseIdxIfInBounds_toArray, erase_last]
  · rw [List.length_dropLast]
    omega

def rPopAt : V → List V → Hp → VK → Prop := fun x vs H Q => ∃ l xs i k y, x = .ref l ∧ vs = [.int i] ∧ H l = some (.lst xs) ∧ -(2 ^ 63) ≤ i ∧ i < 2 ^ 63 ∧ seqIndex? i xs.length = some k ∧ xs[k]? = some y ∧ Q y (upd H l (.lst (xs.eraseIdx k)))
theorem mt_popAt : MtM X "list.pop" rPopAt := by
  intro pins s σ H x vs v us Q I rx rv h
  obtain ⟨l, xs, i, k, y, rfl, rfl, hH, h1, h2, hk, hy, q⟩ := h
  cases rx
  obtain ⟨u, rfl, ru⟩ := rv.one
  obtain ⟨t, rfl⟩ := ru
  obtain ⟨z, its, n, r, hl, e⟩ := I.lstM hH
  obtain ⟨w, hw, rw'⟩ := r.get hy
  refine call_meets F.slot_list_pop ⟨_, e, rfl⟩ F.entry_list_pop (F.args_list_pop_2 _ _)
    (MeetsSeq.list_pop_at l its.toArray n i t k w (fitsIndex_both h1 h2) (by rw [List.size_toArray, ← hl]; exact hk) (by rw [← Array.getElem?_toList]; exact hw) (by rw [List.size_toArray]; omega)) ⟨e, ?_⟩
  refine ⟨y, _, I.lset (its' := its.eraseIdx k) hH e ?_ (r.eraseIdx k) ?_, rw', q⟩
  · show its.toArray.eraseIdxIfInBounds k = (its.eraseIdx k).toArray
    rw [List.eraseIdxIfInBounds_toArray]
  · have := len_erase xs k
    omega

def rReverse : V → List V → Hp → VK → Prop := fun x vs H Q => ∃ l xs, x = .ref l ∧ vs = [] ∧ H l = some (.lst xs) ∧ Q .non (upd H l (.lst xs.reverse))
theorem mt_reverse : MtM X "list.reverse" rReverse := by
  intro pins s σ H x vs v us Q I rx rv h
  obtain ⟨l, xs, rfl, rfl, hH, q⟩ := h
  cases rx
  have hus := rv.zero
  subst hus
  obtain ⟨z, its, n, r, hl, e⟩ := I.lstM hH
  refine call_meets F.slot_list_reverse ⟨_, e, rfl⟩ F.entry_list_reverse (F.args_list_reverse_1 _) (AutoSeq1.list_reverse_list_0 l its.toArray n (by rw [List.size_toArray]; omega)) ⟨e, ?_⟩
  refine ⟨.non, _, I.lset (its' := its.reverse) hH e (by simp) r.reverse ?_, rfl, q⟩
  rw [List.length_reverse]
  omega

def rClear : V → List V → Hp → VK → Prop := fun x vs H Q => ∃ l xs, x = .ref l ∧ vs = [] ∧ H l = some (.lst xs) ∧ Q .non (upd H l (.lst []))
theorem mt_clear : MtM X "list.clear" rClear := by
  intro pins s σ H x vs v us Q I rx rv h
  obtain ⟨l, xs, rfl, rfl, hH, q⟩ := h
  cases rx
  have hus := rv.zero
  subst hus
  obtain ⟨z, its, n, r, hl, e⟩ := I.lstM hH
  refine call_meets F.slot_list_clear ⟨_, e, rfl⟩ F.entry_list_clear (F.args_list_clear_1 _) (AutoSeq1.list_clear_list_0 l its.toArray n (by rw [List.size_toArray]; omega)) ⟨e, ?_⟩
  exact ⟨.non, _, I.lset (its' := []) (ys := []) hH e rfl .nil (Nat.zero_le _), rfl, q⟩

/-! ### list + list, list += list, list * int -/
def rCat : R2 := fun x y H Q => ∃ l b xs zs, x = .ref l ∧ y = .ref b ∧ H l = some (.lst xs) ∧ H b = some (.lst zs) ∧ xs.length + zs.length ≤ sizeLine ∧ ∀ p, H p = none → Q (.ref p) (upd H p (.lst (xs ++ zs)))
theorem op_cat : OpR X (binaryOp .Add) rCat := by
  intro pins s σ H x y v u Q I rx ry h
  obtain ⟨l, b, xs, zs, rfl, rfl, hH, hB, hz, q⟩ := h
  cases rx
  cases ry
  obtain ⟨z, its, n, r, hl, e⟩ := I.lstM hH
  obtain ⟨z2, its2, n2, r2, hl2, e2⟩ := I.lstM hB
  refine PySem.P.add_list e e2 ?_ (by rw [List.size_toArray, List.size_toArray]; omega)
  have ea : its.toArray ++ its2.toArray = (its ++ its2).toArray := by simp
  rw [ea]
  exact ⟨.ref _, _, I.lnew (t' := s.toks) (r.append r2) (by rw [List.length_append]; omega), rfl, q _ I.fresh⟩
/-- a list times an int (a negative one is nothing) -/
def rRep : R2 := fun x y H Q => ∃ l k xs, x = .ref l ∧ y = .int k ∧ H l = some (.lst xs) ∧ -(2 ^ 63) ≤ k ∧ k < 2 ^ 63 ∧ xs.length * k.toNat ≤ sizeLine ∧
  ∀ p, H p = none → Q (.ref p) (upd H p (.lst (List.replicate k.toNat xs).flatten))
theorem len_rep {α : Type} (xs : List α) (k : Nat) : (List.replicate k xs).flatten.length = k * xs.length := by
  induction k with
  | zero => simp
  | succ k ih => rw [List.replicate_succ, List.flatten_cons, List.length_append, ih, Nat.succ_mul, Nat.add_comm]
theorem op_rep : OpR X (binaryOp .Mult) rRep := by
  intro pins s σ H x y v u Q I rx ry h
  obtain ⟨l, k, xs, rfl, rfl, hH, h1, h2, hz, q⟩ := h
  cases rx
  obtain ⟨t, rfl⟩ := ry
  obtain ⟨z, its, n, r, hl, e⟩ := I.lstM hH
  have hlen : its.toArray.size * k.toNat ≤ sizeLine := by rw [List.size_toArray, ← hl]; exact hz
  have hcap : ¬ its.toArray.size * k.toNat > (2 ^ 63 - 1) / 8 := by
    have : (sizeLine : Nat) ≤ (2 ^ 63 - 1) / 8 := by decide
    omega
  have hfit : ¬ (!Builtin.List.listFitsIndex k) = true := by
    rw [fitsIndex_both h1 h2]
    exact Bool.false_ne_true
  have hlong : ¬ Builtin.List.listTooLong (its.toArray.size * k.toNat) = true := by
    rw [notLongL hlen]
    exact Bool.false_ne_true
  have hnew : List.foldl (fun x1 x2 => x1 ++ x2) #[] (List.replicate (if its.toArray.isEmpty = true then 0 else k.toNat) its.toArray) = (List.replicate k.toNat its).flatten.toArray := by
    have f0 : ∀ m : Nat, List.foldl (fun x1 x2 => x1 ++ x2) #[] (List.replicate m its.toArray) = (List.replicate m its).flatten.toArray := fun m => by
      have := foldl_rep its m []
      rw [List.nil_append] at this
      exact this
    rw [f0]
    cases its with
    | nil => simp
    | cons a r' => rw [if_neg (by simp)]
  refine wpAny_binaryOp_repeat_ref (T := "list") (U := "int") (by decide) ⟨_, e, rfl⟩ (fun s' => typeIs_int s' k t) noFill_list_mul F.fills_int_mul F.slot_int_rmul repeat_list F.slot_int_index.lookup
    (call_meets F.slot_int_rmul (typeIs_int s k t) F.entry_int_rmul (F.args_int_rmul_2 _ _) (int___rmul___int_list k t l its.toArray n)
      ⟨e, rfl, ⟨_, e, rfl⟩, call_meets F.slot_list_mul ⟨_, e, rfl⟩ F.entry_list_mul (F.args_list_mul_2 _ _) (AutoListH.list___mul___list_int_3 l its.toArray n k t hfit hcap hlong) ⟨e, ?_⟩⟩)
  rw [hnew]
  exact ⟨.ref _, _, I.lnew (t' := s.toks) (r.rep k.toNat) (by rw [len_rep, Nat.mul_comm]; exact hz), rfl, q _ I.fresh⟩

/-! ### del xs[i] -/
theorem del_list {pins : List (Addr × Obj)} {s : Shared} {σ : St} {H : Hp} {l : Addr} {xs : List V} {i : Int} {t : Tok} {k : Nat} {Q : Unit → Shared → Prop} (I : Inv X pins σ H s) (hH : H l = some (.lst xs))
    (h1 : -(2 ^ 63) ≤ i) (h2 : i < 2 ^ 63) (hk : seqIndex? i xs.length = some k) (h : ∀ s', Inv X pins σ (upd H l (.lst (xs.eraseIdx k))) s' → Q () s') :
    wpAny (model X.prog X.w) X.A (delItem (.ref l) (.int i t)) Q X.xe s := by
  obtain ⟨z, its, n, r, hl, e⟩ := I.lstM hH
  refine PySem.P.delItem_list (k := k) e (fitsIndex_both h1 h2) (by rw [List.size_toArray, ← hl]; exact hk) (h _ ?_) (by rw [List.size_toArray]; omega)
  refine I.lset (its' := its.eraseIdx k) (t' := s.toks) hH e ?_ (r.eraseIdx k) ?_
  · show its.toArray.eraseIdxIfInBounds k = (its.eraseIdx k).toArray
    rw [List.eraseIdxIfInBounds_toArray]
  · have := len_erase xs k
    omega
end

/-! ### xs[a:b] = ys -/
section
variable {prog : Program} {w : World} {A : Around} {E : Value → Shared → Prop} {s : Shared}
theorem splice_eq (its its2 : List Value) (a c : Nat) : its.toArray.extract 0 a ++ its2.toArray ++ its.toArray.extract c its.toArray.size = (its.take a ++ its2 ++ its.drop c).toArray := by
  apply Array.toList_inj.mp
  first
    | (simp
       exact List.take_of_length_le (by simp))
    | simp [List.take_of_length_le]
    | simp
theorem bounds_run {a c n : Nat} (hac : a ≤ c) (hc : c ≤ n) : sliceBounds (some (a : Int)) (some (c : Int)) none n = ((a : Int), (c : Int), 1) := by
  simp only [sliceBounds, Option.getD_none]
  have h1 : ¬ ((a : Int) < 0) := by omega
  have h2 : ¬ ((c : Int) < 0) := by omega
  simp only [h1, h2, if_false, show (1 : Int) > 0 by decide, if_true]
  congr 1
  · omega
  · congr 1; omega
set_option maxRecDepth 100000 in
/-- list.__setitem__ with a slice of step one and another list -/
theorem setItem_slice {l b sl : Addr} {items new : Array Value} {n n2 : Nat} {vl vu : Value} {a c : Nat} {Q : Unit → Shared → Prop}
    (e : s.heap.get? l = some { cls := .type "list", data := .seq items n }) (e2 : s.heap.get? b = some { cls := .type "list", data := .seq new n2 }) (hne : l ≠ b)
    (hs : s.heap.IsSliceOf sl vl vu .none) (pl : IsPart vl (some (a : Int))) (pu : IsPart vu (some (c : Int))) (hac : a ≤ c) (hc : c ≤ items.size)
    (hsz : items.size + new.size ≤ sizeLine) (h : Q () { s with heap := s.heap.update l (Obj.mapSeq fun xs => xs.extract 0 a ++ new ++ xs.extract c xs.size) }) :
    wpAny (model prog w) A (setItem (.ref l) (.ref sl) (.ref b)) Q E s := by
  have hl : s.heap.IsList l items := PySem.IsL.isList e
  have hb : s.heap.IsList b new := PySem.IsL.isList e2
  obtain ⟨os, hos, hcs, hds⟩ := id hs
  have hTs : s.TypeIs (.ref sl) "slice" := ⟨os, hos, hcs⟩
  have hstep : ¬ ((rawPart none == rawInt 0) = true) := Bool.false_ne_true
  have hsame : Builtin.List.listSameRef (.ref l) (.ref b) = false := by
    unfold Builtin.List.listSameRef
    exact beq_eq_false_iff_ne.mpr hne
  have hmax : (max (a : Int) (c : Int)).toNat = c := by omega
  have hz' : ((fun xs : Array Value => xs.extract 0 a ++ new ++ xs.extract c xs.size) items).size ≤ sizeLine + 1 := by
    simp only [Array.size_append, Array.size_extract]
    omega
  unfold setItem
  try with_reducible refine wpAny_holding ?_
  first | refine wpAny_bind (wpAny_pure ?_) | skip
  refine wpAny_bind (wpAny_sequenceKey hl.typeIs (by decide) ?_)
  refine wpAny_bind (wpAny_callSpecial?_slot (name := Str.ofString "__setitem__") hl.typeIs slot_list_setitem
    (wpAny_call_entry slot_list_setitem hl.typeIs entry_list_setitem ?_ (args_list_setitem _ _ _)))
  show wpAny _ _ (Builtin.List.listSubscript? (.ref sl) >>= _) _ _ s
  refine wpAny_bind ?_
  unfold Builtin.List.listSubscript?
  refine wpAny_bind (wpAny_specialOf hTs slice_no_index ?_)
  simp only [Option.isNone_none, if_true]
  refine wpAny_pure ?_
  show wpAny _ _ (typeOf (.ref sl) >>= _) _ _ s
  refine wpAny_bind (wpAny_typeOf hTs ?_)
  first
    | rw [if_neg (by decide)]
    | refine PySem.W.KFB.if_not (by decide) ?_
  rw [listSliceParts_eq]
  refine wpAny_bind (wpAny_bind (wpAny_field hos hds (x := .none) rfl (wpAny_bind (wpAny_listPart .none ?_))))
  rw [if_neg hstep]
  refine wpAny_bind (wpAny_field hos hds (x := vl) rfl (wpAny_bind (wpAny_listPart pl ?_)))
  refine wpAny_bind (wpAny_field hos hds (x := vu) rfl (wpAny_bind (wpAny_listPart pu (wpAny_pure ?_))))
  first
    | simp only [hsame, Bool.false_eq_true, if_false]
    | refine PySem.W.KFB.if_not hsame ?_
    | (dsimp only
       rw [if_neg (by rw [hsame]; exact Bool.false_ne_true)])
  refine wpAny_bind (m := Builtin.List.listAllItems (.ref b) "must assign iterable to extended slice") ?_
  unfold Builtin.List.listAllItems
  refine wpAny_bind (wpAny_typeOf hb.typeIs ?_)
  first
    | refine PySem.W.KFB.if_so (by decide) ?_
    | rw [if_pos (by decide)]
    | simp only [beq_self_eq_true, Bool.true_or, if_true]
  unfold Builtin.List.listItems
  refine wpAny_bind (wpAny_seqItems e2 rfl (wpAny_pure ?_))
  refine wpAny_bind (wpAny_bind (wpAny_seqItems e rfl (wpAny_pure ?_)))
  refine wpAny_bind (wpAny_of_eq ((sliceIndices_raw (some (a : Int)) (some (c : Int)) none items.size (by simp)).trans (congrArg (pure : Int × Int × Int → Sem (Int × Int × Int)) (bounds_run hac hc))) ?_)
  show wpAny _ _ (if ((1 : Int) == 1) = true then _ else _) _ _ s
  rw [if_pos (by decide)]
  refine wpAny_bind (wpAny_rule ?_)
  first
    | simp only [notLongL hsz, Bool.false_eq_true, if_false]
    | refine PySem.W.KFB.if_not (notLongL hsz) ?_
  first | refine wpAny_bind (wpAny_pure ?_) | skip
  show wpAny _ _ (updateSeq l (fun xs => xs.extract 0 ((a : Int)).toNat ++ new ++ xs.extract (max (a : Int) (c : Int)).toNat xs.size) >>= _) _ _ s
  rw [hmax, Int.toNat_natCast]
  refine wpAny_bind (wpAny_updateSeq (hz := Nat.le_trans (Nat.le_add_right _ _) hsz) (_hz' := hz') e rfl ?_)
  refine wpAny_bind (wpAny_letGo ?_)
  first
    | exact wpAny_bind (wpAny_pure (wpAny_pure ⟨.none, rfl, wpAny_pure h⟩))
    | exact wpAny_pure ⟨.none, rfl, wpAny_pure h⟩
end

section
variable {X : Cx}
/-- xs[a:c] = ys of another list, at the value level: sl is the slice object that was just made -/
theorem set_slice {pins : List (Addr × Obj)} {s : Shared} {σ : St} {H : Hp} {l b sl : Addr} {xs ys : List V} {a c : Int} {vl vu : Value} {Q : Unit → Shared → Prop} (I : Inv X pins σ H s)
    (hH : H l = some (.lst xs)) (hB : H b = some (.lst ys)) (hne : l ≠ b) (hs : s.heap.IsSliceOf sl vl vu .none) (ra : RelV (.int a) vl) (rc : RelV (.int c) vu) (h0 : 0 ≤ a) (hac : a ≤ c) (hc : c ≤ xs.length)
    (hz : xs.length + ys.length ≤ sizeLine) (h : ∀ s', Inv X pins σ (upd H l (.lst (xs.take a.toNat ++ ys ++ xs.drop c.toNat))) s' → Q () s') :
    wpAny (model X.prog X.w) X.A (setItem (.ref l) (.ref sl) (.ref b)) Q X.xe s := by
  obtain ⟨ta, rfl⟩ := ra
  obtain ⟨tc, rfl⟩ := rc
  obtain ⟨z, its, n, r, hl, e⟩ := I.lstM hH
  obtain ⟨z2, its2, n2, r2, hl2, e2⟩ := I.lstM hB
  obtain ⟨a', rfl⟩ := Int.eq_ofNat_of_zero_le h0
  obtain ⟨c', rfl⟩ := Int.eq_ofNat_of_zero_le (Int.le_trans h0 hac)
  simp only [Int.toNat_natCast] at h
  refine setItem_slice (a := a') (c := c') e e2 hne hs (.int _ _) (.int _ _) (by omega) (by rw [List.size_toArray]; omega) (by rw [List.size_toArray, List.size_toArray]; omega) (h _ ?_)
  refine I.lset (its' := its.take a' ++ its2 ++ its.drop c') (t' := s.toks) hH e ?_ (Vals.append (Vals.append (r.take _) r2) (r.drop _)) ?_
  · exact splice_eq its its2 a' c'
  · rw [List.length_append, List.length_append, List.length_take, List.length_drop]
    omega
end
end L2

namespace L2
open PySem PySem.Spec PyProof.Rows

/-! ### lists of pairs as tables -/
section
variable {κ : Type} [DecidableEq κ]
def valV (kvs : List (κ × V)) (k : κ) : Option V := (kvs.find? fun kv => decide (kv.1 = k)).map (·.2)
/-- in its place, or at the end -/
def putK (kvs : List (κ × V)) (k : κ) (v : V) : List (κ × V) :=
  if (kvs.any fun kv => decide (kv.1 = k)) = true then kvs.map (fun kv => if kv.1 = k then (kv.1, v) else kv) else kvs ++ [(k, v)]
def dropK (kvs : List (κ × V)) (k : κ) : List (κ × V) := kvs.filter fun kv => decide (kv.1 ≠ k)

theorem valV_nil {k : κ} : valV ([] : List (κ × V)) k = none := rfl
theorem valV_pos {p : κ × V} {r : List (κ × V)} {k : κ} (e : p.1 = k) : valV (p :: r) k = some p.2 := by simp [valV, List.find?_cons, e]
theorem valV_neg {p : κ × V} {r : List (κ × V)} {k : κ} (e : ¬ p.1 = k) : valV (p :: r) k = valV r k := by simp [valV, List.find?_cons, e]
theorem valV_any (k : κ) : ∀ kvs : List (κ × V), (kvs.any fun kv => decide (kv.1 = k)) = (valV kvs k).isSome
  | [] => rfl
  | p :: r => by
    rw [List.any_cons]
    by_cases e : p.1 = k
    · simp only [valV_pos e, decide_eq_true e, Bool.true_or, Option.isSome_some]
    · rw [valV_neg e, decide_eq_false e, Bool.false_or]; exact valV_any k r
theorem valV_map (k j : κ) (y : V) : ∀ kvs : List (κ × V), valV (kvs.map fun kv => if kv.1 = k then (kv.1, y) else kv) j = (valV kvs j).map fun x => if j = k then y else x
  | [] => rfl
  | p :: r => by
    have ih := valV_map k j y r
    rw [List.map_cons]
    by_cases h : p.1 = k
    · rw [if_pos h]
      by_cases e : p.1 = j
      · rw [valV_pos (p := (p.1, y)) e, valV_pos e, Option.map_some, if_pos (e.symm.trans h)]
      · rw [valV_neg (p := (p.1, y)) e, valV_neg e, ih]
    · rw [if_neg h]
      by_cases e : p.1 = j
      · rw [valV_pos (p := p) e, valV_pos e, Option.map_some, if_neg (fun z => h (e.trans z))]
      · rw [valV_neg (p := p) e, valV_neg e, ih]
theorem valV_snoc (k j : κ) (y : V) : ∀ kvs : List (κ × V), valV kvs k = none → valV (kvs ++ [(k, y)]) j = if j = k then some y else valV kvs j
  | [], _ => by
    by_cases e : k = j
    · rw [if_pos e.symm]; exact valV_pos (p := (k, y)) e
    · rw [if_neg (fun z => e z.symm)]; exact valV_neg (p := (k, y)) e
  | p :: r, hn => by
    rw [List.cons_append]
    have hk : ¬ p.1 = k := fun z => by rw [valV_pos z] at hn; cases hn
    rw [valV_neg hk] at hn
    have ih := valV_snoc k j y r hn
    by_cases e : p.1 = j
    · rw [valV_pos e, valV_pos e, if_neg (fun z => hk (e.trans z))]
    · rw [valV_neg e, valV_neg e, ih]
theorem valV_put (kvs : List (κ × V)) (k j : κ) (y : V) : valV (putK kvs k y) j = if j = k then some y else valV kvs j := by
  unfold putK
  by_cases a : (kvs.any fun kv => decide (kv.1 = k)) = true
  · rw [if_pos a, valV_map]
    rw [valV_any] at a
    by_cases e : j = k
    · obtain ⟨x, hx⟩ := Option.isSome_iff_exists.mp a
      rw [if_pos e, e, hx, Option.map_some, if_pos rfl]
    · rw [if_neg e]
      cases valV kvs j with
      | none => rfl
      | some x => rw [Option.map_some, if_neg e]
  · rw [if_neg a]
    refine valV_snoc k j y kvs ?_
    rw [valV_any] at a
    cases q : valV kvs k with
    | none => rfl
    | some x => rw [q] at a; exact (a rfl).elim
theorem length_putK (kvs : List (κ × V)) (k : κ) (v : V) : (putK kvs k v).length ≤ kvs.length + 1 := by
  unfold putK
  split
  · rw [List.length_map]; omega
  · rw [List.length_append, List.length_cons, List.length_nil]; omega
theorem putK_new {kvs : List (κ × V)} {k : κ} (v : V) (h : valV kvs k = none) : putK kvs k v = kvs ++ [(k, v)] := by
  unfold putK
  rw [valV_any, h]
  exact if_neg (by decide)

theorem RelO.isSome_eq {o : Option V} {u : Option Value} (r : RelO o u) : o.isSome = u.isSome := by
  cases o with
  | none => cases u with
    | none => rfl
    | some _ => exact (show False from r).elim
  | some _ => cases u with
    | none => exact (show False from r).elim
    | some _ => rfl
theorem RelO.getD {o : Option V} {u : Option Value} {d : V} {d' : Value} (r : RelO o u) (rd : RelV d d') : RelV (o.getD d) (u.getD d') := by
  cases o with
  | none => cases u with
    | none => exact rd
    | some _ => exact (show False from r).elim
  | some _ => cases u with
    | none => exact (show False from r).elim
    | some _ => exact r

/-- raw tables of the same keys -/
theorem KV.val {kvs : List (κ × V)} {vs : List (κ × Value)} (r : KV kvs vs) (k : κ) : RelO (valV kvs k) (valueAt vs k) := by
  unfold KV at r
  induction r with
  | nil => exact True.intro
  | @cons p q ps qs h t ih =>
    obtain ⟨h1, h2⟩ := h
    by_cases e : p.1 = k
    · have e' : q.1 = k := h1.symm.trans e
      have b : valueAt (q :: qs) k = some q.2 := by simp [valueAt, List.find?_cons, e']
      rw [valV_pos e, b]; exact h2
    · have e' : ¬ q.1 = k := fun z => e (h1.trans z)
      have b : valueAt (q :: qs) k = valueAt qs k := by simp [valueAt, List.find?_cons, e']
      rw [valV_neg e, b]; exact ih
theorem KV.any {kvs : List (κ × V)} {vs : List (κ × Value)} (r : KV kvs vs) (k : κ) : (kvs.any fun kv => decide (kv.1 = k)) = vs.any fun kv => decide (kv.1 = k) := by
  unfold KV at r
  induction r with
  | nil => rfl
  | cons h t ih => rw [List.any_cons, List.any_cons, ih, h.1]
theorem KV.repl {kvs : List (κ × V)} {vs : List (κ × Value)} (r : KV kvs vs) (k : κ) {y : V} {u : Value} (ry : RelV y u) :
    KV (kvs.map fun kv => if kv.1 = k then (kv.1, y) else kv) (vs.map fun kv => if kv.1 = k then (kv.1, u) else kv) := by
  unfold KV at r ⊢
  induction r with
  | nil => exact .nil
  | @cons p q ps qs h t ih =>
    rw [List.map_cons, List.map_cons]
    refine .cons ?_ ih
    obtain ⟨h1, h2⟩ := h
    by_cases e : p.1 = k
    · rw [if_pos e, if_pos (h1.symm.trans e)]; exact ⟨h1, ry⟩
    · rw [if_neg e, if_neg (fun z => e (h1.trans z))]; exact ⟨h1, h2⟩
theorem KV.put {kvs : List (κ × V)} {vs : List (κ × Value)} (r : KV kvs vs) (k : κ) {y : V} {u : Value} (ry : RelV y u) : KV (putK kvs k y) (stored vs k u) := by
  unfold putK stored
  rw [r.any k]
  by_cases e : (vs.any fun kv => decide (kv.1 = k)) = true
  · rw [if_pos e, if_pos e]; exact r.repl k ry
  · rw [if_neg e, if_neg e]; exact Paired.snoc r ⟨rfl, ry⟩
theorem KV.drop {kvs : List (κ × V)} {vs : List (κ × Value)} (r : KV kvs vs) (k : κ) : KV (dropK kvs k) (without vs k) := by
  unfold KV at r ⊢
  unfold dropK without
  induction r with
  | nil => exact .nil
  | @cons p q ps qs h t ih =>
    obtain ⟨h1, h2⟩ := h
    rw [List.filter_cons, List.filter_cons]
    by_cases e : p.1 = k
    · have a : ¬ decide (p.1 ≠ k) = true := by simp [e]
      have b : ¬ decide (q.1 ≠ k) = true := by simp [h1.symm.trans e]
      rw [if_neg a, if_neg b]; exact ih
    · have e' : ¬ q.1 = k := fun z => e (h1.trans z)
      have a : decide (p.1 ≠ k) = true := by simp [e]
      have b : decide (q.1 ≠ k) = true := by simp [e']
      rw [if_pos a, if_pos b]; exact .cons ⟨h1, h2⟩ ih
theorem KV.keys {kvs : List (κ × V)} {vs : List (κ × Value)} (r : KV kvs vs) : kvs.map (·.1) = vs.map (·.1) := by
  unfold KV at r
  induction r with
  | nil => rfl
  | cons h t ih => rw [List.map_cons, List.map_cons, ih, h.1]
theorem KV.length {kvs : List (κ × V)} {vs : List (κ × Value)} (r : KV kvs vs) : kvs.length = vs.length := Paired.length r
theorem dropK_le (kvs : List (κ × V)) (k : κ) : (dropK kvs k).length ≤ kvs.length := List.length_filter_le _ _
end


/-! ### a tracked dict, its keys ints and texts or tuples of these -/
theorem kV_is {P : Program} {w : World} {k : Key} {u : Value} (r : RelV (kV k) u) : (mixKind P w).is k u = true := by
  cases k with
  | inl i => obtain ⟨t, e⟩ := (show ∃ t, u = Value.int i t from r); subst e; exact mixKind_int P w i t
  | inr x => obtain ⟨t, e⟩ := (show ∃ t, u = Value.str x t from r); subst e; exact mixKind_str P w x t
theorem kV_inj {a b : Key} (e : kV a = kV b) : a = b := by
  cases a with
  | inl i => cases b with
    | inl j => have e' : V.int i = V.int j := e; injection e' with e'; rw [e']
    | inr y => exact nomatch (show V.int i = V.str y from e)
  | inr x => cases b with
    | inl j => exact nomatch (show V.str x = V.int j from e)
    | inr y => have e' : V.str x = V.str y := e; injection e' with e'; rw [e']
theorem kVs_inj : ∀ {a b : List Key}, a.map kV = b.map kV → a = b
  | [], [], _ => rfl
  | [], _ :: _, e => by simp at e
  | _ :: _, [], e => by simp at e
  | x :: xs, y :: ys, e => by
    rw [List.map_cons, List.map_cons] at e
    injection e with e1 e2
    rw [kV_inj e1, kVs_inj e2]
theorem items_are {P : Program} {w : World} : ∀ {ks : List Key} {us : List Value}, Vals (ks.map kV) us → ItemsAre (mixKind P w) ks us
  | [], _, r => by rw [List.map_nil] at r; cases r; exact .nil
  | k :: ks, _, r => by
    rw [List.map_cons] at r
    cases r with
    | cons h t => exact .cons (kV_is h) (items_are t)

/-- raw entries of a dict with tuple keys -/
abbrev KT (H : Hp) : List (List Key × V) → List (List Key × Addr × Value) → Prop := Paired fun p q => p.1 = q.1 ∧ H q.2.1 = some (.tup (p.1.map kV)) ∧ RelV p.2 q.2.2
theorem KT.val {H : Hp} {kvs : List (List Key × V)} {xs : List (List Key × Addr × Value)} (r : KT H kvs xs) (k : List Key) : RelO (valV kvs k) ((atKey xs k).map (·.2)) := by
  induction r with
  | nil => exact True.intro
  | @cons p q ps qs h t ih =>
    obtain ⟨h1, _, h2⟩ := h
    by_cases e : p.1 = k
    · have e' : q.1 = k := h1.symm.trans e
      have b : atKey (q :: qs) k = some q.2 := by simp [atKey, List.find?_cons, e']
      rw [valV_pos e, b]; exact h2
    · have e' : ¬ q.1 = k := fun z => e (h1.trans z)
      have b : atKey (q :: qs) k = atKey qs k := by simp [atKey, List.find?_cons, e']
      rw [valV_neg e, b]; exact ih
theorem KT.repl {H : Hp} {kvs : List (List Key × V)} {xs : List (List Key × Addr × Value)} (r : KT H kvs xs) (k : List Key) {y : V} {u : Value} (ry : RelV y u) :
    KT H (kvs.map fun kv => if kv.1 = k then (kv.1, y) else kv) (xs.map (putAt k u)) := by
  induction r with
  | nil => exact .nil
  | @cons p q ps qs h t ih =>
    rw [List.map_cons, List.map_cons]
    refine .cons ?_ ih
    obtain ⟨h1, h2, h3⟩ := h
    unfold putAt
    by_cases e : p.1 = k
    · rw [if_pos e, if_pos (h1.symm.trans e)]; exact ⟨h1, h2, ry⟩
    · rw [if_neg e, if_neg (fun z => e (h1.trans z))]; exact ⟨h1, h2, h3⟩
theorem KT.put {H : Hp} {kvs : List (List Key × V)} {xs : List (List Key × Addr × Value)} (r : KT H kvs xs) (k : List Key) {b : Addr} {y : V} {u : Value} (hb : H b = some (.tup (k.map kV))) (ry : RelV y u) :
    KT H (putK kvs k y) (storedH xs k b u) := by
  have e : (kvs.any fun kv => decide (kv.1 = k)) = (atKey xs k).isSome := by
    rw [valV_any, (r.val k).isSome_eq, Option.isSome_map]
  unfold putK storedH
  rw [e]
  by_cases q : (atKey xs k).isSome = true
  · rw [if_pos q, if_pos q]; exact r.repl k ry
  · rw [if_neg q, if_neg q]; exact Paired.snoc r ⟨rfl, hb, ry⟩
theorem KT.keeps {H H' : Hp} {kvs : List (List Key × V)} {xs : List (List Key × Addr × Value)} (r : KT H kvs xs) (ht : ∀ b ys, H b = some (.tup ys) → H' b = some (.tup ys)) : KT H' kvs xs :=
  Paired.mapP r fun _ _ z => ⟨z.1, ht _ _ z.2.1, z.2.2⟩

section
variable {P : Program} {w : World} {H : Hp} {h : Heap} {a : Addr}
theorem rd_of {u : HO} (ok : HOk P w H h) (e : Rd H a u) : ObjOk P w H h a u := e.ok ok
theorem dk_rd {kvs : List (Key × V)} (ok : HOk P w H h) (e : Rd H a (.dK kvs)) : kvs.length ≤ sizeLine ∧ (a == sysModules) = false ∧ ∃ vs, KV kvs vs ∧ h.DictOf (mixKind P w) a vs :=
  show ObjOk P w H h a (.dK kvs) from rd_of ok e
theorem dk_of {kvs : List (Key × V)} (ok : HOk P w H h) (e : H a = some (.dK kvs)) : kvs.length ≤ sizeLine ∧ (a == sysModules) = false ∧ ∃ vs, KV kvs vs ∧ h.DictOf (mixKind P w) a vs := dk_rd ok (.inl e)
/-- a tracked tuple of ints and texts is a key -/
theorem key_of {ks : List Key} (ok : HOk P w H h) (e : H a = some (.tup (ks.map kV))) : (tupleKind (mixKind P w)).is h ks a := by
  obtain ⟨_, its, r, o, h1, h2, n, h3⟩ := (show ObjOk P w H h a (.tup (ks.map kV)) from ok a _ e)
  exact ⟨o, its.toArray, n, h1, h2, h3, by simpa using items_are r⟩
theorem dt_rd {kvs : List (List Key × V)} (ok : HOk P w H h) (e : Rd H a (.dT kvs)) : kvs.length ≤ sizeLine ∧ (a == sysModules) = false ∧
    ∃ xs, KT H kvs xs ∧ h.DictOfH (tupleKind (mixKind P w)) a xs := by
  obtain ⟨z, y, xs, r, o, es, ep, h1, h2, h3, h4, h5⟩ := (show ObjOk P w H h a (.dT kvs) from rd_of ok e)
  refine ⟨z, y, xs, r, o, es, ep, h1, h2, h3, h4, fun x hx => ?_, h5⟩
  have all : ∀ {l : List (List Key × V)} {m : List (List Key × Addr × Value)}, KT H l m → ∀ x ∈ m, (tupleKind (mixKind P w)).is h x.1 x.2.1 := by
    intro l m q
    induction q with
    | nil => intro x hx; exact nomatch hx
    | @cons p q ps qs hq t ih =>
      intro x hx
      rcases List.mem_cons.mp hx with e | hx
      · subst e
        exact key_of ok (by rw [← hq.1]; exact hq.2.1)
      · exact ih x hx
  exact all r x hx
theorem dt_of {kvs : List (List Key × V)} (ok : HOk P w H h) (e : H a = some (.dT kvs)) : kvs.length ≤ sizeLine ∧ (a == sysModules) = false ∧
    ∃ xs, KT H kvs xs ∧ h.DictOfH (tupleKind (mixKind P w)) a xs := dt_rd ok (.inl e)
end

/-- what the dict at a holds at the key y -/
def DGet (H : Hp) (a : Addr) (y : V) (r : Option V) : Prop :=
  (∃ kvs k, Rd H a (.dK kvs) ∧ y = kV k ∧ r = valV kvs k) ∨ ∃ kvs k b, Rd H a (.dT kvs) ∧ y = .ref b ∧ H b = some (.tup (k.map kV)) ∧ r = valV kvs k
/-- the heap behind a[y] = v -/
def DPut (H : Hp) (a : Addr) (y v : V) (H' : Hp) : Prop :=
  (∃ kvs k, H a = some (.dK kvs) ∧ y = kV k ∧ kvs.length < sizeLine ∧ H' = upd H a (.dK (putK kvs k v))) ∨
  ∃ kvs k b, H a = some (.dT kvs) ∧ y = .ref b ∧ H b = some (.tup (k.map kV)) ∧ kvs.length < sizeLine ∧ H' = upd H a (.dT (putK kvs k v))
theorem DGet.k {H : Hp} {a : Addr} {kvs : List (Key × V)} {k : Key} (e : H a = some (.dK kvs)) : DGet H a (kV k) (valV kvs k) := .inl ⟨kvs, k, .inl e, rfl, rfl⟩
theorem DGet.t {H : Hp} {a b : Addr} {kvs : List (List Key × V)} {k : List Key} (e : H a = some (.dT kvs)) (eb : H b = some (.tup (k.map kV))) : DGet H a (.ref b) (valV kvs k) := .inr ⟨kvs, k, b, .inl e, rfl, eb, rfl⟩
theorem DPut.k {H : Hp} {a : Addr} {kvs : List (Key × V)} {k : Key} {v : V} (e : H a = some (.dK kvs)) (hl : kvs.length < sizeLine) : DPut H a (kV k) v (upd H a (.dK (putK kvs k v))) := .inl ⟨kvs, k, e, rfl, hl, rfl⟩
theorem DPut.t {H : Hp} {a b : Addr} {kvs : List (List Key × V)} {k : List Key} {v : V} (e : H a = some (.dT kvs)) (eb : H b = some (.tup (k.map kV))) (hl : kvs.length < sizeLine) :
    DPut H a (.ref b) v (upd H a (.dT (putK kvs k v))) := .inr ⟨kvs, k, b, e, rfl, eb, hl, rfl⟩


section
variable {X : Cx} {pins : List (Addr × Obj)} {σ : St} {H : Hp} {s : Shared} {a : Addr} {y v : V} {u r : Value} {o : Option V} {A : Around} {E : Value → Shared → Prop}

theorem Inv.big (I : Inv X pins σ H s) : sysModules < s.heap.objs.size := by
  have h : mainGlobals < s.heap.objs.size := (I.mod.glob.keeps I.bk).lt
  exact Nat.lt_trans (by decide) h

/-- d[y], there -/
theorem d_getItem {Q : Value → Shared → Prop} (hu : A.units + 1 < cLine) (I : Inv X pins σ H s) (g : DGet H a y (some v)) (ry : RelV y u) (h : ∀ w' s', Inv X pins σ H s' → RelV v w' → Q w' s') :
    wpAny (model X.prog X.w) A (getItem (.ref a) u) Q E s := by
  rcases g with ⟨kvs, k, e, ey, l⟩ | ⟨kvs, k, b, e, ey, eb, l⟩
  · subst ey
    obtain ⟨z, hd, vs, rel, dd⟩ := dk_rd I.hok e
    obtain ⟨w', hw, rw'⟩ := RelO.some_of (v := v) (o := valueAt vs k) (by rw [l]; exact rel.val k)
    exact wpAny_getItem_of (kV_is ry) dd.mapOf hw (h w' _ (I.tok _) rw')
  · subst ey
    cases (show u = Value.ref b from ry)
    obtain ⟨z, hd, xs, rel, dd⟩ := dt_rd I.hok e
    obtain ⟨w', hw, rw'⟩ := RelO.some_of (v := v) (o := (atKey xs k).map (·.2)) (by rw [l]; exact rel.val k)
    obtain ⟨p, hp, hp2⟩ := Option.map_eq_some_iff.mp hw
    refine wpAny_getItem_heap (tupleKind_room_in1 hu) (key_of I.hok eb) dd hp ?_
    rw [hp2]
    exact h w' _ (I.tok _) rw'
/-- y in d -/
theorem d_in {Q : Value → Shared → Prop} (hu : A.units + 1 < cLine) (I : Inv X pins σ H s) (g : DGet H a y o) (ry : RelV y u) (h : ∀ s', Inv X pins σ H s' → Q (.bool o.isSome) s') :
    wpAny (model X.prog X.w) A (compareOp .In u (.ref a)) Q E s := by
  rcases g with ⟨kvs, k, e, ey, l⟩ | ⟨kvs, k, b, e, ey, eb, l⟩
  · subst ey
    obtain ⟨z, hd, vs, rel, dd⟩ := dk_rd I.hok e
    refine wpAny_in_of (kV_is ry) hd dd.mapOf ?_
    rw [← (rel.val k).isSome_eq, ← l]
    exact h _ (I.tok _)
  · subst ey
    cases (show u = Value.ref b from ry)
    obtain ⟨z, hd, xs, rel, dd⟩ := dt_rd I.hok e
    refine wpAny_in_heap (tupleKind_room_in1 hu) (key_of I.hok eb) hd dd ?_
    have q := (rel.val k).isSome_eq
    rw [Option.isSome_map] at q
    rw [← q, ← l]
    exact h _ (I.tok _)
theorem d_notIn {Q : Value → Shared → Prop} (hu : A.units + 1 < cLine) (I : Inv X pins σ H s) (g : DGet H a y o) (ry : RelV y u) (h : ∀ s', Inv X pins σ H s' → Q (.bool (!o.isSome)) s') :
    wpAny (model X.prog X.w) A (compareOp .NotIn u (.ref a)) Q E s := by
  rcases g with ⟨kvs, k, e, ey, l⟩ | ⟨kvs, k, b, e, ey, eb, l⟩
  · subst ey
    obtain ⟨z, hd, vs, rel, dd⟩ := dk_rd I.hok e
    refine wpAny_notIn_of (kV_is ry) hd dd.mapOf ?_
    rw [← (rel.val k).isSome_eq, ← l]
    exact h _ (I.tok _)
  · subst ey
    cases (show u = Value.ref b from ry)
    obtain ⟨z, hd, xs, rel, dd⟩ := dt_rd I.hok e
    refine wpAny_notIn_heap (tupleKind_room_in1 hu) (key_of I.hok eb) hd dd ?_
    have q := (rel.val k).isSome_eq
    rw [Option.isSome_map] at q
    rw [← q, ← l]
    exact h _ (I.tok _)
/-- a dict's object is replaced -/
theorem d_write {h' : Heap} {t' : Nat} {ob : HO} (I : Inv X pins σ H s) (mu : Mut (H a)) (hs : Heap.SameBut a s.heap h') (he : ∃ q, h'.get? a = some q) (new : ObjOk X.prog X.w (upd H a ob) h' a ob) :
    Inv X pins σ (upd H a ob) { s with heap := h', toks := t' } :=
  I.write (x := a) (e := a) mu (.inl rfl) (fun b q hb z => (hs.2 b hb).trans z) he new
theorem dk_new {P : Program} {w : World} {H' : Hp} {h' : Heap} {kvs : List (Key × V)} {vs : List (Key × Value)} (z : kvs.length ≤ sizeLine) (hd : (a == sysModules) = false) (rel : KV kvs vs) (dd : h'.DictOf (mixKind P w) a vs) :
    ObjOk P w H' h' a (.dK kvs) := ⟨z, hd, vs, rel, dd⟩
/-- d[y] = v -/
theorem d_setItem {H' : Hp} {Q : Unit → Shared → Prop} (hu : A.units + 1 < cLine) (I : Inv X pins σ H s) (g : DPut H a y v H') (ry : RelV y u) (rv : RelV v r) (h : ∀ s', Inv X pins σ H' s' → Q () s') :
    wpAny (model X.prog X.w) A (setItem (.ref a) u r) Q E s := by
  rcases g with ⟨kvs, k, e, ey, l, eH⟩ | ⟨kvs, k, b, e, ey, eb, l, eH⟩
  · subst ey eH
    obtain ⟨z, hd, vs, rel, dd⟩ := dk_of I.hok e
    have hz : vs.length ≤ sizeLine := by rw [← rel.length]; exact z
    have hl : (putK kvs k v).length ≤ sizeLine := by have := length_putK kvs k v; omega
    refine wpAny_setItem_pairs (hsz := hz) (kV_is ry) dd fun h' dd' hs => h _ ?_
    have he : ∃ q, h'.get? a = some q := let ⟨q, _, _, hq, _⟩ := dd'; ⟨q, hq⟩
    exact d_write I (by rw [e]; exact True.intro) hs he (dk_new hl hd (rel.put k rv) dd')
  · subst ey eH
    cases (show u = Value.ref b from ry)
    obtain ⟨z, hd, xs, rel, dd⟩ := dt_of I.hok e
    have hz : xs.length ≤ sizeLine := by rw [← Paired.length rel]; exact z
    have hl : (putK kvs k v).length ≤ sizeLine := by have := length_putK kvs k v; omega
    refine wpAny_setItem_heap (hsz := hz) (tupleKind_room_in1 hu) (key_of I.hok eb) dd fun h' dd' hs => h _ ?_
    obtain ⟨q, es, ep, hq, h2, h3, h4, _, h5⟩ := dd'
    refine d_write I (by rw [e]; exact True.intro) hs ⟨q, hq⟩ ⟨hl, hd, _, (rel.put k eb rv).keeps fun c ys ec => ?_, q, es, ep, hq, h2, h3, h4, h5⟩
    rw [upd_ne (ne_of ec e (fun z => nomatch z))]
    exact ec
end

section
variable {X : Cx} {pins : List (Addr × Obj)} {σ : St} {H : Hp} {s : Shared} {a : Addr} {kvs : List (Key × V)} {k : Key} {u : Value} {A : Around} {E : Value → Shared → Prop}
/-- del d[k] -/
theorem d_delItem {Q : Unit → Shared → Prop} (I : Inv X pins σ H s) (e : H a = some (.dK kvs)) (ry : RelV (kV k) u) (l : (valV kvs k).isSome = true) (h : ∀ s', Inv X pins σ (upd H a (.dK (dropK kvs k))) s' → Q () s') :
    wpAny (model X.prog X.w) A (delItem (.ref a) u) Q E s := by
  obtain ⟨z, hd, vs, rel, dd⟩ := dk_of I.hok e
  refine wpAny_delItem_slot dd.typeIs (by decide) PySem.F.slot_dict_delitem
    (call_meetsIn PySem.F.slot_dict_delitem dd.typeIs PySem.F.entry_dict_delitem (PySem.F.args_dict_delitem_2 _ _) (meets_dict_delitem_pairs (mixKind X.prog X.w) a (kV_is ry)) ⟨vs, dd, by rw [← rel.length]; exact z, by rw [← (rel.val k).isSome_eq]; exact l, fun h' dd' hs => h _ ?_⟩)
  have he : ∃ q, h'.get? a = some q := let ⟨q, _, _, hq, _⟩ := dd'; ⟨q, hq⟩
  exact d_write I (by rw [e]; exact True.intro) hs he (dk_new (Nat.le_trans (dropK_le kvs k) z) hd (rel.drop k) dd')
/-- d.pop(k[, x]), there -/
theorem d_pop {v : V} {more : List Value} {Q : Value → Shared → Prop} (I : Inv X pins σ H s) (e : H a = some (.dK kvs)) (ry : RelV (kV k) u) (l : valV kvs k = some v) (hm : more = [] ∨ ∃ x, more = [x])
    (h : ∀ w' s', Inv X pins σ (upd H a (.dK (dropK kvs k))) s' → RelV v w' → Q w' s') : wpAny (model X.prog X.w) A (call (.builtin "dict.pop") (.ref a :: u :: more)) Q E s := by
  obtain ⟨z, hd, vs, rel, dd⟩ := dk_of I.hok e
  obtain ⟨w', hw, rw'⟩ := RelO.some_of (v := v) (o := valueAt vs k) (by rw [← l]; exact rel.val k)
  have hp : (keyPart u).isSome = true := by
    cases k with
    | inl i => obtain ⟨t, q⟩ := (show ∃ t, u = Value.int i t from ry); subst q; rfl
    | inr x => obtain ⟨t, q⟩ := (show ∃ t, u = Value.str x t from ry); subst q; rfl
  have ha : argsOk "dict.pop" ⟨.ref a :: u :: more, []⟩ := by
    rcases hm with q | ⟨x, q⟩
    · subst q; exact PySem.F.args_dict_pop_2 _ _
    · subst q; exact PySem.F.args_dict_pop_3 _ _ _
  refine call_meetsIn PySem.F.slot_dict_pop dd.typeIs PySem.F.entry_dict_pop ha (meets_dict_pop_there (mixKind X.prog X.w) a (kV_is ry) more hm hp)
    ⟨vs, w', dd, by rw [← rel.length]; exact z, hw, fun h' dd' hs => h w' _ ?_ rw'⟩
  have he : ∃ q, h'.get? a = some q := let ⟨q, _, _, hq, _⟩ := dd'; ⟨q, hq⟩
  exact d_write I (by rw [e]; exact True.intro) hs he (dk_new (Nat.le_trans (dropK_le kvs k) z) hd (rel.drop k) dd')
/-- d.pop(k, x), not there -/
theorem d_popD {r : Value} {Q : Value → Shared → Prop} (I : Inv X pins σ H s) (e : H a = some (.dK kvs)) (ry : RelV (kV k) u) (l : valV kvs k = none) (h : ∀ s', Inv X pins σ H s' → Q r s') :
    wpAny (model X.prog X.w) A (call (.builtin "dict.pop") [.ref a, u, r]) Q E s := by
  obtain ⟨z, hd, vs, rel, dd⟩ := dk_of I.hok e
  have hn : valueAt vs k = none := RelO.none_of (by rw [← l]; exact rel.val k)
  have hp : (keyPart u).isSome = true := by
    cases k with
    | inl i => obtain ⟨t, q⟩ := (show ∃ t, u = Value.int i t from ry); subst q; rfl
    | inr x => obtain ⟨t, q⟩ := (show ∃ t, u = Value.str x t from ry); subst q; rfl
  exact call_meetsIn PySem.F.slot_dict_pop dd.typeIs PySem.F.entry_dict_pop (PySem.F.args_dict_pop_3 _ _ _) (meets_dict_pop_default (mixKind X.prog X.w) a (kV_is ry) hd hp r) ⟨vs, dd, hn, h _ (I.tok _)⟩
/-- d.clear() -/
theorem d_clear {Q : Value → Shared → Prop} (I : Inv X pins σ H s) (e : H a = some (.dK kvs)) (h : ∀ s', Inv X pins σ (upd H a (.dK [])) s' → Q .none s') : wpAny (model X.prog X.w) A (call (.builtin "dict.clear") [.ref a]) Q E s := by
  obtain ⟨z, hd, vs, rel, dd⟩ := dk_of I.hok e
  refine call_meetsIn PySem.F.slot_dict_clear dd.typeIs PySem.F.entry_dict_clear (PySem.F.args_dict_clear_1 _) (meets_dict_clear (mixKind X.prog X.w) a) ⟨vs, dd, by rw [← rel.length]; exact z, fun h' dd' hs => h _ ?_⟩
  have he : ∃ q, h'.get? a = some q := let ⟨q, _, _, hq, _⟩ := dd'; ⟨q, hq⟩
  exact d_write (t' := s.toks) I (by rw [e]; exact True.intro) hs he (dk_new (Nat.zero_le _) hd .nil dd')
/-- len(d) -/
theorem d_len {Q : Value → Shared → Prop} (I : Inv X pins σ H s) (e : Rd H a (.dK kvs)) (h : ∀ t s', Inv X pins σ H s' → Q (.int kvs.length t) s') : wpAny (model X.prog X.w) A (call (.builtin "len") [.ref a]) Q E s := by
  obtain ⟨z, hd, vs, rel, dd⟩ := dk_rd I.hok e
  refine call_len_dict hd dd (by rw [← rel.length]; rw [sizeLine_eq] at z; omega) ?_
  rw [← rel.length]
  exact h _ _ (I.tok _)
/-- if d -/
theorem d_truth {Q : Bool → Shared → Prop} (I : Inv X pins σ H s) (e : Rd H a (.dK kvs)) (h : ∀ s', Inv X pins σ H s' → Q (!kvs.isEmpty) s') : wpAny (model X.prog X.w) A (truthy (.ref a)) Q E s := by
  obtain ⟨z, hd, vs, rel, dd⟩ := dk_rd I.hok e
  refine wpAny_truthy_dict hd dd (by rw [← rel.length]; rw [sizeLine_eq] at z; omega) ?_
  have q : kvs.isEmpty = vs.isEmpty := by cases rel <;> rfl
  rw [← q]
  exact h _ (I.tok _)
end


/-! ### readings and rules -/
/-- the element of a subscription, not a slice -/
def NoSl (i : Expr) : Prop := ∀ ov iv, subscripted i false ov iv = operate [ov, iv] (getItem ov iv)
theorem subD_of {prog : Program} {w : World} {A : Around} {E : Value → Shared → Prop} {s : Shared} {env : Env} {value slice : Expr} {pos : Pos} {T id : String} {Q : Value → Shared → Prop}
    (hl : typeLookup (.type T) "__getitem__" = pure (some (.builtin id))) (hs : NoSl slice)
    (h : wpAny (model prog w) A (eval value env) (fun o s₁ => wpAny (model prog w) A (eval slice env) (fun i s₂ => s₂.TypeIs o T ∧ wpAny (model prog w) A (getItem o i) Q E s₂) E s₁) E s) :
    wpAny (model prog w) A (eval (.Subscript value slice pos) env) Q E s := by
  refine Subscript_ (wpAny_mono h (fun o s₁ h₁ => wpAny_mono h₁ (fun i s₂ h₂ => ?_) fun _ _ x => x) fun _ _ x => x)
  obtain ⟨hT, h₂⟩ := h₂
  unfold subscriptTail
  refine wpAny_bind ?_
  rw [getitemInPython_of_ne hT.not_modules]
  refine wpAny_bind (wpAny_specialOf hT hl ?_)
  have fin : wpAny (model prog w) A (subscripted slice false o i) (fun r s₃ => wpAny (model prog w) A (letTemporaryGo value o r >>= fun _ => pure r) Q E s₃) E s₂ := by
    rw [hs o i]
    exact wpAny_operating (wpAny_mono h₂ (fun r s₃ h₃ => wpAny_bind (wpAny_letTemporaryGo (wpAny_pure h₃))) fun _ _ x => x)
  first
    | exact wpAny_pure (wpAny_bind fin)
    | exact wpAny_bind (wpAny_pure (wpAny_bind fin))
    | exact wpAny_bind fin

theorem dict_typeIs {X : Cx} {pins : List (Addr × Obj)} {σ : St} {H : Hp} {s : Shared} {a : Addr} {y : V} {o : Option V} (I : Inv X pins σ H s) (g : DGet H a y o) : s.TypeIs (.ref a) "dict" := by
  rcases g with ⟨kvs, k, e, _, _⟩ | ⟨kvs, k, b, e, _, _, _⟩
  · obtain ⟨_, _, vs, _, dd⟩ := dk_rd I.hok e
    exact dd.typeIs
  · obtain ⟨_, _, xs, _, dd⟩ := dt_rd I.hok e
    exact dd.typeIs
theorem dict_noDict {X : Cx} {pins : List (Addr × Obj)} {σ : St} {H : Hp} {s : Shared} {a : Addr} {y : V} {o : Option V} (I : Inv X pins σ H s) (g : DGet H a y o) :
    ∀ b, Value.ref a = .ref b → ∃ ob, s.heap.get? b = some ob ∧ ob.dict = none := fun b q => by
  cases q
  rcases g with ⟨kvs, k, e, _, _⟩ | ⟨kvs, k, b, e, _, _, _⟩
  · obtain ⟨_, _, vs, _, ob, _, _, h1, h2, _⟩ := dk_rd I.hok e
    exact ⟨ob, h1, h2.2.1⟩
  · obtain ⟨_, _, xs, _, ob, _, _, h1, h2, _⟩ := dt_rd I.hok e
    exact ⟨ob, h1, h2.2.1⟩

/-- d[y] -/
def tDGet (td ty : TE) : TE := fun σ H Q => td σ H fun x H1 => ty σ H1 fun y H2 => ∃ a v, x = .ref a ∧ DGet H2 a y (some v) ∧ Q v H2
/-- y in d, y not in d -/
def tDIn (ty td : TE) : TE := fun σ H Q => ty σ H fun y H1 => td σ H1 fun x H2 => ∃ a o, x = .ref a ∧ DGet H2 a y o ∧ Q (.bl o.isSome) H2
def tDNotIn (ty td : TE) : TE := fun σ H Q => ty σ H fun y H1 => td σ H1 fun x H2 => ∃ a o, x = .ref a ∧ DGet H2 a y o ∧ Q (.bl (!o.isSome)) H2
/-- d[y] = v -/
def sDPut (td ty tv : TE) : TS := fun D σ H => tv σ H fun v H1 => td σ H1 fun x H2 => ty σ H2 fun y H3 => ∃ a H4, x = .ref a ∧ DPut H3 a y v H4 ∧ D.nx σ H4
/-- d[y] op= v -/
def sDAug (td ty tv : TE) (rd : V → V → Hp → VK → Prop) : TS := fun D σ H => td σ H fun x H1 => ty σ H1 fun y H2 => ∃ a v, x = .ref a ∧ DGet H2 a y (some v) ∧
  tv σ H2 fun y2 H3 => rd v y2 H3 fun z H4 => ∃ H5, DPut H4 a y z H5 ∧ D.nx σ H5
/-- del d[y] -/
def sDDel (td ty : TE) : TS := fun D σ H => td σ H fun x H1 => ty σ H1 fun y H2 => ∃ a kvs k, x = .ref a ∧ H2 a = some (.dK kvs) ∧ y = kV k ∧ (valV kvs k).isSome = true ∧ D.nx σ (upd H2 a (.dK (dropK kvs k)))

section
variable {X : Cx} {o i e value : Expr} {pos pos' tpos : Pos} {td ty tv : TE}
theorem pe_dget (hu : X.A.units + 1 < cLine) (ho : PE X o td) (hi : PE X i ty) (hs : NoSl i) : PE X (.Subscript o i pos) (tDGet td ty) := by
  intro pins s σ H Q I h
  refine subD_of PySem.F.slot_dict_getitem.lookup hs (thn (ho pins s σ H _ I h) fun u s1 ⟨x, H1, I1, rx, q1⟩ => thn (hi pins s1 σ H1 _ I1 q1) fun iv s2 ⟨y, H2, I2, ry, a, v, ex, g, q2⟩ => ?_)
  subst ex
  obtain rfl : u = Value.ref a := rx
  exact ⟨dict_typeIs I2 g, d_getItem hu I2 g ry fun w' s3 I3 rw' => ⟨v, H2, I3, rw', q2⟩⟩
theorem pc_din (hu : X.A.units + 1 < cLine) (hi : PE X i ty) (ho : PE X o td) : PC X .In i o (tDIn ty td) := by
  intro pins s σ H Q I h
  refine thn (hi pins s σ H _ I h) fun iv s1 ⟨y, H1, I1, ry, q1⟩ => thn (ho pins s1 σ H1 _ I1 q1) fun u s2 ⟨x, H2, I2, rx, a, ov, ex, g, q2⟩ => ?_
  subst ex
  obtain rfl : u = Value.ref a := rx
  exact d_in hu I2 g ry fun s3 I3 => ⟨.bl ov.isSome, H2, I3, rfl, q2⟩
theorem pc_dnotin (hu : X.A.units + 1 < cLine) (hi : PE X i ty) (ho : PE X o td) : PC X .NotIn i o (tDNotIn ty td) := by
  intro pins s σ H Q I h
  refine thn (hi pins s σ H _ I h) fun iv s1 ⟨y, H1, I1, ry, q1⟩ => thn (ho pins s1 σ H1 _ I1 q1) fun u s2 ⟨x, H2, I2, rx, a, ov, ex, g, q2⟩ => ?_
  subst ex
  obtain rfl : u = Value.ref a := rx
  exact d_notIn hu I2 g ry fun s3 I3 => ⟨.bl (!ov.isSome), H2, I3, rfl, q2⟩
theorem ps_dput (hu : X.A.units + 1 < cLine) (ho : PE X o td) (hi : PE X i ty) (hv : PE X value tv) (hs : swapsWith value (some (.Subscript o i pos')) pos.line X.env = pure false) :
    PS X (.Assign [.Subscript o i pos'] value pos) (sDPut td ty tv) := by
  intro pins s σ H D I h
  refine wpAny_Assign_Subscript (thn (hv pins s σ H _ I h) fun r s1 ⟨v, H1, I1, rv, q1⟩ => thn (ho pins s1 σ H1 _ I1 q1) fun u s2 ⟨x, H2, I2, rx, q2⟩ => thn (hi pins s2 σ H2 _ I2 q2) fun iv s3 ⟨y, H3, I3, ry, a, H4, ex, g, q3⟩ => ?_) hs
  subst ex
  obtain rfl : u = Value.ref a := rx
  exact d_setItem hu I3 g ry rv fun s4 I4 => ⟨σ, H4, I4, q3⟩
theorem ps_daug {op : Operator} {rd : V → V → Hp → VK → Prop} (hu : X.A.units + 1 < cLine) (ho : PE X o td) (hi : PE X i ty) (hv : PE X value tv) (hop : InOp X op rd)
    (ha : ∀ ov iv new, augStore i ov iv new = (do holding [new, ov, iv] (setItem ov iv new); release [new, ov, iv] []; pure .next)) : PS X (.AugAssign (.Subscript o i tpos) op value pos) (sDAug td ty tv rd) := by
  intro pins s σ H D I h
  refine wpAny_AugAssign_SubscriptAny (thn (ho pins s σ H _ I h) fun u s1 ⟨x, H1, I1, rx, q1⟩ => thn (hi pins s1 σ H1 _ I1 q1) fun iv s2 ⟨y, H2, I2, ry, a, v, ex, g, q2⟩ => ?_) ha
  subst ex
  obtain rfl : u = Value.ref a := rx
  refine d_getItem hu I2 g ry fun w' s3 I3 rw' => thn (hv pins s3 σ H2 _ I3 q2) fun w2 s4 ⟨y2, H3, I4, ry2, q3⟩ => thn (hop pins s4 σ H3 v y2 w' w2 _ I4 rw' ry2 q3) fun w3 s5 ⟨z, H4, I5, rz, H5, g5, q4⟩ => ?_
  exact d_setItem hu I5 g5 ry rz fun s6 I6 => ⟨σ, H5, I6, q4⟩
theorem ps_ddel (ho : PE X o td) (hi : PE X i ty) : PS X (.Delete [.Subscript o i tpos] pos) (sDDel td ty) := by
  intro pins s σ H D I h
  refine wpAny_Delete (wpAny_deleteEach_cons (wpAny_delete_Subscript (thn (ho pins s σ H _ I h) fun u s1 ⟨x, H1, I1, rx, q1⟩ => thn (hi pins s1 σ H1 _ I1 q1) fun iv s2 ⟨y, H2, I2, ry, a, kvs, k, ex, e, ey, l, q2⟩ => ?_)))
  subst ex ey
  obtain rfl : u = Value.ref a := rx
  exact d_delItem I2 e ry l fun s3 I3 => wpAny_deleteEach_nil ⟨σ, _, I3, q2⟩
end


/-! ### displays -/
theorem dk_empty {P : Program} {w : World} {H : Hp} (h : Heap) (hb : sysModules < h.objs.size) : ObjOk P w H (h.push { cls := .type "dict", data := .dict #[] }) h.objs.size (.dK []) :=
  ⟨Nat.zero_le _, beq_eq_false_iff_ne.mpr (Ne.symm (Nat.ne_of_lt hb)), [], .nil, Heap.DictOf.new h⟩
theorem dt_empty {P : Program} {w : World} {H : Hp} (h : Heap) (hb : sysModules < h.objs.size) : ObjOk P w H (h.push { cls := .type "dict", data := .dict #[] }) h.objs.size (.dT []) :=
  ⟨Nat.zero_le _, beq_eq_false_iff_ne.mpr (Ne.symm (Nat.ne_of_lt hb)), [], .nil, _, #[], 0, Heap.get?_push_size _ rfl, ⟨rfl, rfl, rfl⟩, rfl, rfl, List.nodup_nil⟩
/-- {}, to be a dict of the kind that is wanted -/
def tDNewK : TE := fun _ H Q => ∀ p, H p = none → Q (.ref p) (upd H p (.dK []))
def tDNewT : TE := fun _ H Q => ∀ p, H p = none → Q (.ref p) (upd H p (.dT []))
section
variable {X : Cx} {pos : Pos}
theorem pe_dnewK : PE X (.Dict [] [] pos) tDNewK := fun pins s σ H Q I h =>
  wpAny_Dict_empty ⟨.ref s.heap.objs.size, _, I.laid (a := s.heap.objs.size) (o := .dK []) (t' := s.toks) (fun _ _ q => Heap.get?_push_of_some _ q) (Nat.le_refl _) (dk_empty s.heap I.big), rfl, h _ (I.hok.fresh (Nat.le_refl _))⟩
theorem pe_dnewT : PE X (.Dict [] [] pos) tDNewT := fun pins s σ H Q I h =>
  wpAny_Dict_empty ⟨.ref s.heap.objs.size, _, I.laid (a := s.heap.objs.size) (o := .dT []) (t' := s.toks) (fun _ _ q => Heap.get?_push_of_some _ q) (Nat.le_refl _) (dt_empty s.heap I.big), rfl, h _ (I.hok.fresh (Nat.le_refl _))⟩
end

/-- the pairs of a display, from the left -/
def tPairs : List (TE × TE) → St → Hp → (List (V × V) → Hp → Prop) → Prop
  | [], _, H, Q => Q [] H
  | (tk, tv) :: r, σ, H, Q => tk σ H fun x H1 => tv σ H1 fun y H2 => tPairs r σ H2 fun ps H3 => Q ((x, y) :: ps) H3
abbrev VV : List (V × V) → List (Value × Value) → Prop := Paired fun p q => RelV p.1 q.1 ∧ RelV p.2 q.2
def PPs (X : Cx) (pos : Pos) (keys : List (Option Expr)) (values : List Expr) (trs : List (TE × TE)) : Prop :=
  ∀ (pins : List (Addr × Obj)) (s : Shared) (σ : St) (H : Hp) (Q : List (V × V) → Hp → Prop), Inv X pins σ H s → tPairs trs σ H Q →
    wpAny (model X.prog X.w) X.A (evalPairs (pairTrees keys values X.env pos)) (fun vs s' => ∃ ps H', Inv X pins σ H' s' ∧ VV ps vs ∧ Q ps H') X.xe s
theorem pps_nil {X : Cx} {pos : Pos} : PPs X pos [] [] [] := fun pins s σ H Q I h => pairTrees_nil_walk ⟨[], H, I, .nil, h⟩
theorem pps_cons {X : Cx} {pos : Pos} {k v : Expr} {ks : List (Option Expr)} {vs : List Expr} {tk tv : TE} {trs : List (TE × TE)} (hk : PE X k tk) (hv : PE X v tv) (hr : PPs X pos ks vs trs) :
    PPs X pos (some k :: ks) (v :: vs) ((tk, tv) :: trs) := fun pins s σ H Q I h =>
  pairTrees_cons_walk (thn (hk pins s σ H _ I h) fun u s1 ⟨x, H1, I1, rx, q1⟩ => thn (hv pins s1 σ H1 _ I1 q1) fun w2 s2 ⟨y, H2, I2, ry, q2⟩ =>
    thn (hr pins s2 σ H2 _ I2 q2) fun ws s3 ⟨ps, H3, I3, rel, q3⟩ => ⟨(x, y) :: ps, H3, I3, .cons ⟨rx, ry⟩ rel, q3⟩)

def mergeK (kvs more : List (Key × V)) : List (Key × V) := more.foldl (fun acc kv => putK acc kv.1 kv.2) kvs
theorem KV.merge : ∀ {more : List (Key × V)} {rs : List (Key × Value)} {kvs : List (Key × V)} {vs : List (Key × Value)}, KV more rs → KV kvs vs → KV (mergeK kvs more) (merged vs rs) := by
  intro more rs kvs vs r
  unfold KV at r
  induction r generalizing kvs vs with
  | nil => intro q; exact q
  | @cons p q ps qs h t ih =>
    intro r0
    have e : KV (putK kvs p.1 p.2) (stored vs q.1 q.2) := by
      have := r0.put p.1 h.2
      rw [← h.1]; exact this
    exact ih e
theorem length_mergeK : ∀ (more kvs : List (Key × V)), (mergeK kvs more).length ≤ kvs.length + more.length
  | [], kvs => by show kvs.length ≤ kvs.length + 0; omega
  | p :: r, kvs => by
    have h1 := length_mergeK r (putK kvs p.1 p.2)
    have h2 := length_putK kvs p.1 p.2
    show (mergeK (putK kvs p.1 p.2) r).length ≤ _
    rw [List.length_cons]; omega
theorem carries_of {P : Program} {w : World} : ∀ {kvs : List (Key × V)} {ws : List (Value × Value)}, VV (kvs.map fun kv => (kV kv.1, kv.2)) ws → ∃ rs, Carries (mixKind P w) ws rs ∧ KV kvs rs
  | [], _, r => by rw [List.map_nil] at r; cases r; exact ⟨[], True.intro, .nil⟩
  | p :: kvs, _, r => by
    rw [List.map_cons] at r
    cases r with
    | @cons a b as bs h t =>
      obtain ⟨rs, c, q⟩ := carries_of (P := P) (w := w) t
      obtain ⟨b1, b2⟩ := b
      exact ⟨(p.1, b2) :: rs, ⟨kV_is h.1, rfl, c⟩, .cons ⟨rfl, h.2⟩ q⟩
/-- {k: v, ..} with keys ints and texts; the new dict stands empty while the pairs are made -/
def tDisp (trs : List (TE × TE)) : TE := fun σ H Q => ∀ p, H p = none → tPairs trs σ (upd H p (.dK [])) fun ps H2 => H2 p = some (.dK []) ∧ ∃ kvs : List (Key × V), ps = kvs.map (fun kv => (kV kv.1, kv.2)) ∧ kvs.length ≤ 15 ∧ Q (.ref p) (upd H2 p (.dK (mergeK [] kvs)))
theorem pe_disp {X : Cx} {pos : Pos} {keys : List (Option Expr)} {values : List Expr} {trs : List (TE × TE)} (h : PPs X pos keys values trs) (hall : keys.all (·.isSome) = true) (hl : keys.length = values.length) (h0 : keys ≠ [])
    (h15 : keys.length ≤ 15) : PE X (.Dict keys values pos) (tDisp trs) := by
  intro pins s σ H Q I q
  have hn := I.hok.fresh (Nat.le_refl s.heap.objs.size)
  have I1 := I.laid (a := s.heap.objs.size) (o := .dK []) (h' := s.heap.push { cls := .type "dict", data := .dict #[] }) (t' := s.toks) (fun _ _ q => Heap.get?_push_of_some _ q) (Nat.le_refl _) (dk_empty s.heap I.big)
  refine wpAny_Dict_walk (knd := mixKind X.prog X.w) hall hl h0 h15 (thn (h pins _ σ _ _ I1 (q _ hn)) fun ws s2 ⟨ps, H2, I2, rel, e, kvs, ep, lk, q2⟩ => ?_)
  subst ep
  obtain ⟨rs, c, rk⟩ := carries_of (P := X.prog) (w := X.w) rel
  obtain ⟨z, hd, vs0, r0, dd⟩ := dk_of I2.hok e
  cases r0
  refine ⟨rs, c, dd, fun h' dd' hs => ⟨.ref s.heap.objs.size, _, ?_, rfl, q2⟩⟩
  have hz : (mergeK [] kvs).length ≤ sizeLine := by
    have h1 := length_mergeK kvs []
    rw [List.length_nil] at h1
    rw [sizeLine_eq]; omega
  have he : ∃ q, h'.get? s.heap.objs.size = some q := let ⟨q, _, _, hq, _⟩ := dd'; ⟨q, hq⟩
  exact d_write I2 (by rw [e]; exact True.intro) hs he (dk_new hz hd (rk.merge .nil) dd')


/-! ### methods -/
/-- a method call o.m(e) of a built-in, with one argument: what must be seen of the text -/
structure M1 (X : Cx) (o : Expr) (m : Str) (apos : Pos) (e : Expr) (cpos : Pos) : Prop where
  base : attributeBase o m X.env (eval o X.env) = eval o X.env
  few : ((backTo cpos (starEach [e] X.env)).all (fun x => !x.1) && (backToKw cpos (keywordEach [] X.env)).all (fun x => x.1.isSome)
    && decide (([e] : List Expr).length + ([] : List Keyword).length + (if ([] : List Keyword).isEmpty then 0 else 1) < 30)) = true
  line : (apos.endLine == cpos.line) = true
  trees : backTo cpos (starEach [e] X.env) = [(false, eval e X.env)]
structure M2 (X : Cx) (o : Expr) (m : Str) (apos : Pos) (e f : Expr) (cpos : Pos) : Prop where
  base : attributeBase o m X.env (eval o X.env) = eval o X.env
  few : ((backTo cpos (starEach [e, f] X.env)).all (fun x => !x.1) && (backToKw cpos (keywordEach [] X.env)).all (fun x => x.1.isSome)
    && decide (([e, f] : List Expr).length + ([] : List Keyword).length + (if ([] : List Keyword).isEmpty then 0 else 1) < 30)) = true
  line : (apos.endLine == cpos.line) = true
  trees : backTo cpos (starEach [e, f] X.env) = [(false, eval e X.env), (false, eval f X.env)]

/-- a is a dict, whatever its keys -/
def IsD (H : Hp) (a : Addr) : Prop := (∃ kvs, Rd H a (.dK kvs)) ∨ ∃ kvs, Rd H a (.dT kvs)
theorem isD_at {X : Cx} {pins : List (Addr × Obj)} {σ : St} {H : Hp} {s : Shared} {a : Addr} (I : Inv X pins σ H s) (d : IsD H a) :
    s.TypeIs (.ref a) "dict" ∧ (∀ b, Value.ref a = .ref b → ∃ ob, s.heap.get? b = some ob ∧ ob.dict = none) ∧ (a == sysModules) = false := by
  rcases d with ⟨kvs, e⟩ | ⟨kvs, e⟩
  · obtain ⟨_, hd, vs, _, dd⟩ := dk_rd I.hok e
    refine ⟨dd.typeIs, fun b q => ?_, hd⟩
    cases q
    obtain ⟨ob, _, _, h1, h2, _⟩ := dd
    exact ⟨ob, h1, h2.2.1⟩
  · obtain ⟨_, hd, xs, _, dd⟩ := dt_rd I.hok e
    refine ⟨dd.typeIs, fun b q => ?_, hd⟩
    cases q
    obtain ⟨ob, _, _, h1, h2, _⟩ := dd
    exact ⟨ob, h1, h2.2.1⟩

section
variable {X : Cx} {pins : List (Addr × Obj)} {σ : St} {H : Hp} {s : Shared} {a : Addr} {y d : V} {u r : Value} {o : Option V} {A : Around} {E : Value → Shared → Prop}
/-- d.get(y) -/
theorem d_get1 {Q : Value → Shared → Prop} (hu : A.units + 1 < cLine) (I : Inv X pins σ H s) (g : DGet H a y o) (ry : RelV y u) (h : ∀ w' s', Inv X pins σ H s' → RelV (o.getD .non) w' → Q w' s') :
    wpAny (model X.prog X.w) A (call (.builtin "dict.get") [.ref a, u]) Q E s := by
  rcases g with ⟨kvs, k, e, ey, l⟩ | ⟨kvs, k, b, e, ey, eb, l⟩
  · subst ey
    obtain ⟨z, hd, vs, rel, dd⟩ := dk_rd I.hok e
    refine call_meetsIn PySem.F.slot_dict_get dd.typeIs PySem.F.entry_dict_get (PySem.F.args_dict_get_2 _ _) (meets_dict_get (mixKind X.prog X.w) a (kV_is ry) hd) ⟨_, dd.mapOf, h _ _ (I.tok _) ?_⟩
    rw [l]
    exact (rel.val k).getD rfl
  · subst ey
    cases (show u = Value.ref b from ry)
    obtain ⟨z, hd, xs, rel, dd⟩ := dt_rd I.hok e
    refine call_meetsIn PySem.F.slot_dict_get dd.typeIs PySem.F.entry_dict_get (PySem.F.args_dict_get_2 _ _) (meetsH_dict_get (tupleKind (mixKind X.prog X.w)) a b hd) ⟨tupleKind_room_in1 hu, k, xs, key_of I.hok eb, dd, h _ _ (I.tok _) ?_⟩
    rw [l]
    exact (rel.val k).getD rfl
/-- d.get(y, x) -/
theorem d_get2 {Q : Value → Shared → Prop} (hu : A.units + 1 < cLine) (I : Inv X pins σ H s) (g : DGet H a y o) (ry : RelV y u) (rd : RelV d r) (h : ∀ w' s', Inv X pins σ H s' → RelV (o.getD d) w' → Q w' s') :
    wpAny (model X.prog X.w) A (call (.builtin "dict.get") [.ref a, u, r]) Q E s := by
  rcases g with ⟨kvs, k, e, ey, l⟩ | ⟨kvs, k, b, e, ey, eb, l⟩
  · subst ey
    obtain ⟨z, hd, vs, rel, dd⟩ := dk_rd I.hok e
    refine call_meetsIn PySem.F.slot_dict_get dd.typeIs PySem.F.entry_dict_get (PySem.F.args_dict_get_3 _ _ _) (meets_dict_get_default (mixKind X.prog X.w) a (kV_is ry) hd r) ⟨_, dd.mapOf, h _ _ (I.tok _) ?_⟩
    rw [l]
    exact (rel.val k).getD rd
  · subst ey
    cases (show u = Value.ref b from ry)
    obtain ⟨z, hd, xs, rel, dd⟩ := dt_rd I.hok e
    refine call_meetsIn PySem.F.slot_dict_get dd.typeIs PySem.F.entry_dict_get (PySem.F.args_dict_get_3 _ _ _) (meetsH_dict_get_default (tupleKind (mixKind X.prog X.w)) a b hd r) ⟨tupleKind_room_in1 hu, k, xs, key_of I.hok eb, dd, h _ _ (I.tok _) ?_⟩
    rw [l]
    exact (rel.val k).getD rd
end

def tDGet1 (td ty : TE) : TE := fun σ H Q => td σ H fun x H1 => ∃ a, x = .ref a ∧ IsD H1 a ∧ ty σ H1 fun y H2 => ∃ o, DGet H2 a y o ∧ Q (o.getD .non) H2
def tDGet2 (td ty tx : TE) : TE := fun σ H Q => td σ H fun x H1 => ∃ a, x = .ref a ∧ IsD H1 a ∧ ty σ H1 fun y H2 => tx σ H2 fun z H3 => ∃ o, DGet H3 a y o ∧ Q (o.getD z) H3
/-- d.pop(k): there; d.pop(k, x): there or not -/
def tDPop1 (td ty : TE) : TE := fun σ H Q => td σ H fun x H1 => ∃ a, x = .ref a ∧ IsD H1 a ∧ ty σ H1 fun y H2 => ∃ kvs k v, H2 a = some (.dK kvs) ∧ y = kV k ∧ valV kvs k = some v ∧ Q v (upd H2 a (.dK (dropK kvs k)))
def tDPop2 (td ty tx : TE) : TE := fun σ H Q => td σ H fun x H1 => ∃ a, x = .ref a ∧ IsD H1 a ∧ ty σ H1 fun y H2 => tx σ H2 fun z H3 => ∃ kvs k, H3 a = some (.dK kvs) ∧ y = kV k ∧
  (∀ v, valV kvs k = some v → Q v (upd H3 a (.dK (dropK kvs k)))) ∧ (valV kvs k = none → Q z H3)
section
variable {X : Cx} {o e f : Expr} {apos cpos : Pos} {td ty tx : TE}
theorem pe_dget1 (hu : X.A.units + 1 < cLine) (ho : PE X o td) (he : PE X e ty) (m : M1 X o "get" apos e cpos) : PE X (.Call (.Attribute o "get" apos) [e] [] cpos) (tDGet1 td ty) := by
  intro pins s σ H Q I h
  refine wpAny_Call_method m.base m.few m.line PySem.F.plainAttrs_dict PySem.F.slot_dict_get PySem.F.type_dict_get (thn (ho pins s σ H _ I h) fun u s1 ⟨x, H1, I1, rx, a, ex, d, q1⟩ => ?_)
  subst ex
  obtain rfl : u = Value.ref a := rx
  obtain ⟨t1, t2, _⟩ := isD_at I1 d
  refine ⟨t1, t2, ?_⟩
  rw [m.trees]
  refine Calls.callWith_builtin rfl (Calls.evalArgs_plain (Calls.spliced_cons (thn (he pins s1 σ H1 _ I1 q1) fun iv s2 ⟨y, H2, I2, ry, ov, g, q2⟩ => Calls.spliced_nil ?_)))
  exact d_get1 hu I2 g ry fun w' s3 I3 rw' => ⟨_, H2, I3, rw', q2⟩
theorem pe_dget2 (hu : X.A.units + 1 < cLine) (ho : PE X o td) (he : PE X e ty) (hf : PE X f tx) (m : M2 X o "get" apos e f cpos) : PE X (.Call (.Attribute o "get" apos) [e, f] [] cpos) (tDGet2 td ty tx) := by
  intro pins s σ H Q I h
  refine wpAny_Call_method m.base m.few m.line PySem.F.plainAttrs_dict PySem.F.slot_dict_get PySem.F.type_dict_get (thn (ho pins s σ H _ I h) fun u s1 ⟨x, H1, I1, rx, a, ex, d, q1⟩ => ?_)
  subst ex
  obtain rfl : u = Value.ref a := rx
  obtain ⟨t1, t2, _⟩ := isD_at I1 d
  refine ⟨t1, t2, ?_⟩
  rw [m.trees]
  refine Calls.callWith_builtin rfl (Calls.evalArgs_plain (Calls.spliced_cons (thn (he pins s1 σ H1 _ I1 q1) fun iv s2 ⟨y, H2, I2, ry, q2⟩ =>
    Calls.spliced_cons (thn (hf pins s2 σ H2 _ I2 q2) fun fv s3 ⟨z, H3, I3, rz, ov, g, q3⟩ => Calls.spliced_nil ?_))))
  exact d_get2 hu I3 g ry rz fun w' s4 I4 rw' => ⟨_, H3, I4, rw', q3⟩
theorem pe_dpop1 (ho : PE X o td) (he : PE X e ty) (m : M1 X o "pop" apos e cpos) : PE X (.Call (.Attribute o "pop" apos) [e] [] cpos) (tDPop1 td ty) := by
  intro pins s σ H Q I h
  refine wpAny_Call_method m.base m.few m.line PySem.F.plainAttrs_dict PySem.F.slot_dict_pop PySem.F.type_dict_pop (thn (ho pins s σ H _ I h) fun u s1 ⟨x, H1, I1, rx, a, ex, d, q1⟩ => ?_)
  subst ex
  obtain rfl : u = Value.ref a := rx
  obtain ⟨t1, t2, _⟩ := isD_at I1 d
  refine ⟨t1, t2, ?_⟩
  rw [m.trees]
  refine Calls.callWith_builtin rfl (Calls.evalArgs_plain (Calls.spliced_cons (thn (he pins s1 σ H1 _ I1 q1) fun iv s2 ⟨y, H2, I2, ry, kvs, k, v, ea, ey, l, q2⟩ => Calls.spliced_nil ?_)))
  subst ey
  exact d_pop I2 ea ry l (.inl rfl) fun w' s3 I3 rw' => ⟨v, _, I3, rw', q2⟩
theorem pe_dpop2 (ho : PE X o td) (he : PE X e ty) (hf : PE X f tx) (m : M2 X o "pop" apos e f cpos) : PE X (.Call (.Attribute o "pop" apos) [e, f] [] cpos) (tDPop2 td ty tx) := by
  intro pins s σ H Q I h
  refine wpAny_Call_method m.base m.few m.line PySem.F.plainAttrs_dict PySem.F.slot_dict_pop PySem.F.type_dict_pop (thn (ho pins s σ H _ I h) fun u s1 ⟨x, H1, I1, rx, a, ex, d, q1⟩ => ?_)
  subst ex
  obtain rfl : u = Value.ref a := rx
  obtain ⟨t1, t2, _⟩ := isD_at I1 d
  refine ⟨t1, t2, ?_⟩
  rw [m.trees]
  refine Calls.callWith_builtin rfl (Calls.evalArgs_plain (Calls.spliced_cons (thn (he pins s1 σ H1 _ I1 q1) fun iv s2 ⟨y, H2, I2, ry, q2⟩ =>
    Calls.spliced_cons (thn (hf pins s2 σ H2 _ I2 q2) fun fv s3 ⟨z, H3, I3, rz, kvs, k, ea, ey, q3, q4⟩ => Calls.spliced_nil ?_))))
  subst ey
  cases l : valV kvs k with
  | some v => exact d_pop I3 ea ry l (.inr ⟨fv, rfl⟩) fun w' s4 I4 rw' => ⟨v, _, I4, rw', q3 v l⟩
  | none => exact d_popD I3 ea ry l fun s4 I4 => ⟨z, H3, I4, rz, q4 l⟩
end

/-! ### dict(d): a copy -/
section
variable {X : Cx} {pins : List (Addr × Obj)} {σ : St} {H : Hp} {s : Shared} {a : Addr} {kvs : List (Key × V)} {A : Around} {E : Value → Shared → Prop}
theorem d_copyOf {Q : Value → Shared → Prop} (I : Inv X pins σ H s) (e : Rd H a (.dK kvs)) (h : ∀ p s', H p = none → Inv X pins σ (upd H p (.dK kvs)) s' → Q (.ref p) s') : wpAny (model X.prog X.w) A (call (.type "dict") [.ref a]) Q E s := by
  obtain ⟨z, hd, vs, rel, dd⟩ := dk_rd I.hok e
  refine kt_call_dict hd dd (by rw [← rel.length]; exact z) fun h' dd' hs => ?_
  refine h _ _ (I.hok.fresh (Nat.le_refl _)) (I.laid (a := s.heap.objs.size) (o := .dK kvs) (t' := s.toks) (fun b q hq => ?_) (Nat.le_refl _) (dk_new z (beq_eq_false_iff_ne.mpr (Ne.symm (Nat.ne_of_lt I.big))) rel dd'))
  exact (hs.2 b (Nat.ne_of_lt (Heap.lt_size hq))).trans (Heap.get?_push_of_some _ hq)
end


section
variable {X : Cx} {pins : List (Addr × Obj)} {σ : St} {H : Hp} {s : Shared} {a : Addr} {y : V} {u : Value} {A : Around} {E : Value → Shared → Prop}
/-- d[y], not there: a KeyError -/
theorem d_missing {Q : Value → Shared → Prop} (hu : A.units + 1 < cLine) (hh : A.handled = none) (I : Inv X pins σ H s) (g : DGet H a y none) (ry : RelV y u)
    (h : ∀ h' e t', Heap.NewExc s.heap h' e "KeyError" → E (.ref e) { s with heap := h', toks := t' }) : wpAny (model X.prog X.w) A (getItem (.ref a) u) Q E s := by
  rcases g with ⟨kvs, k, e, ey, l⟩ | ⟨kvs, k, b, e, ey, eb, l⟩
  · subst ey
    obtain ⟨z, hd, vs, rel, dd⟩ := dk_rd I.hok e
    have hn : valueAt vs k = none := RelO.none_of (by rw [l]; exact rel.val k)
    exact wpAny_getItem_missing_of (kV_is ry) hd hh dd.mapOf hn fun h' ex ne => h h' ex _ ne
  · subst ey
    cases (show u = Value.ref b from ry)
    obtain ⟨z, hd, xs, rel, dd⟩ := dt_rd I.hok e
    have hn : (atKey xs k).map (·.2) = none := RelO.none_of (by rw [l]; exact rel.val k)
    exact wpAny_getItem_missing_heap (tupleKind_room_in1 hu) (key_of I.hok eb) hd hh dd (Option.map_eq_none_iff.mp hn) fun h' ex ne => h h' ex _ ne
end
end L2

namespace Att
open PySem PySem.W PySem.Calls PyProof.Rows

/-! ### the script -/
theorem ints_of_wellAll {P : Params} {h : Heap} : ∀ (ns : List Int) (vs : List Value), WellAll P h vs (ns.map WData.int) → IntsAre vs ns := by
  intro ns
  induction ns with
  | nil =>
    intro vs w
    rw [List.map_nil] at w
    cases w
    exact .nil
  | cons n ns ih =>
    intro vs w
    rw [List.map_cons] at w
    cases w with
    | cons a b =>
      cases a
      exact .cons _ _ (ih _ b)

theorem script_of {l : OpenLaw} {n : Nat} (hn : l.most = some n) {P : Params} {h : Heap} {args : List WData} {vals : List Value}
    (hpre : l.row.toRowW.claim.pre args = true) (hwl : WellAll P h vals args) :
    ∃ a vs ns, vals = [Value.ref a] ∧ args = [WData.list (ns.map WData.int)] ∧ h.get? a = some { cls := .type "list", data := .seq vs.toArray } ∧ IntsAre vs ns ∧ ns.length ≤ n := by
  have hsh : WShape.hasAll [] args [.list .int] = true := (pre_splitW hpre).1
  have hc : l.pre.holds [] { args := args } = true := (pre_splitW hpre).2
  obtain ⟨d, r, rfl, h1, h2⟩ := hasAllW_cons hsh
  obtain rfl := hasAllW_nil h2
  obtain ⟨xs, rfl, h3⟩ := hasW_list h1
  obtain ⟨ns, rfl⟩ := items_int h3
  have hlen : ns.length ≤ n := by
    unfold OpenLaw.pre at hc
    have h4 : (WTm.not (.lt (.lit (.int (n : Int))) (.len (.arg 0)))).holds [] { args := [.list (ns.map .int)] } = true := by
      have h4 := (holds_andW hc).1
      rw [hn] at h4
      exact h4
    have h5 := condW_of h4 (w_not (w_lt w_lit (w_len_list (w_arg rfl))))
    rw [List.length_map] at h5
    refine Nat.le_of_not_lt fun q => ?_
    have q' : (n : Int) < ((ns.length : Nat) : Int) := by omega
    first
      | (rw [decide_eq_true q'] at h5; exact absurd h5 (by decide))
      | (simp at h5; omega)
  cases hwl with
  | cons w1 w2 =>
    cases w2
    cases w1 with
    | list ho hall => exact ⟨_, _, ns, rfl, rfl, ho, ints_of_wellAll ns _ hall, hlen⟩

theorem post_true (l : OpenLaw) (args : List WData) : l.row.toRowW.claim.post args (.bool true) args = true :=
  postW_of (r := l.row.toRowW) (X := (true == true))
    (show WShape.has [] (.bool true) .bool = true by first | rfl | decide | simp [WShape.has, WShape.arms, WShape.armsAll])
    (show (WTm.eq .res (.lit (.bool true))).value [] { args := args, res := some (.bool true), after := args } = some (.bool (true == true)) from w_eq_bool (w_res rfl) w_lit) rfl

/-! ### the attachment: holds_open's last premise (the goal 'hc' behind k_head) from a wpAny of the law's body -/
theorem attach {l : OpenLaw} {n : Nat} {q : Program} {loose : List Str} {XP : (Str → Option Value) → Heap → Prop} {YP : World → Heap → Prop} {d : DefRec} {x : Str}
    (hn : l.most = some n) (hdf : d.params.defaults = [])
    (hbind : ∀ pm cd doc v : Value, bindArgs (docDef d.name d.params d.body d.scope pm cd doc) ⟨[v], []⟩ = pure [(x, v)])
    (hx : d.scope.names.lookup x = some .local ∨ d.scope.names.lookup x = some .cell)
    (hk : d.scope.kind = .function) (hco : d.scope.isCoroutine = false) (hgen : d.scope.isGenerator = false)
    (body : ∀ (w : World) (s₀ s₁ s : Shared) (mg mb : Str → Option Value) (fa : Addr) (o : Obj) (pm cd doc : Value) (a : Addr) (vs : List Value) (ns : List Int),
      Ground q loose [] XP w s₀ mg mb s₁.heap → YP w s₁.heap →
      s₁.heap.get? fa = some o → o.data = .func (docDef d.name d.params d.body d.scope pm cd doc) → s₁.heap.CodeRec cd d.name → mg d.name = some (.ref fa) →
      s₁.heap.get? a = some { cls := .type "list", data := .seq vs.toArray } → IntsAre vs ns → ns.length ≤ n →
      s.gens = #[] → s.os = s₁.os →
      Fr s₁.heap s₁.heap.objs.size s.heap (bindL (envOfC d.name d.scope s₁.heap.objs.size fa cd).kindOf [(x, .ref a)] fun _ => none) →
      Cl s₁.heap.objs.size (cellsFrom (s₁.heap.objs.size + 1) d.scope.names []) s.heap (bindC (envOfC d.name d.scope s₁.heap.objs.size fa cd).kindOf [(x, .ref a)] fun _ => none) →
      wpAny (model l.prog w) (callerA.deeper (envOfC d.name d.scope s₁.heap.objs.size fa cd)) (execs d.body (envOfC d.name d.scope s₁.heap.objs.size fa cd))
        (fun f s' => f = .ret (.bool true) ∧ OldK s₁.heap s'.heap ∧ s'.os = s₁.os ∧ AllBare s'.gens) (fun _ _ => False) s) :
    WalkO q loose XP YP l.row.toRowW d [] (fun f vs => PySem.call f vs) := by
  intro w s₀ s₁ mg mb G Y fa o pm cd doc dV kV ho hd hcd hD hmg hg args vals as hpre hlay hrd hwl hlo
  obtain rfl : dV = .none := Dflts.none hD hdf
  obtain rfl : kV = .none := Dflts.noKw hD
  obtain ⟨a, vs, ns, rfl, rfl, hobj, hints, hlen⟩ := script_of hn hpre hwl
  refine enter_call ?_
  refine call_cells_ret (o := o) (by rw [depth_caller]; decide) ho (fd_plain hd) G.T.nolimit hcd (hbind pm cd doc (.ref a)) (fun y hy => ?_) (fun h₁ tk F X => ?_) hco hgen hk
  · obtain rfl : y = (x, Value.ref a) := List.mem_singleton.mp hy
    rcases hx with e | e
    · exact .inl e
    · exact .inr ⟨e, cellsFrom_some _ _ _ (.inl e)⟩
  · refine wpAny_mono (body w s₀ s₁ { s₁ with heap := h₁, toks := tk } mg mb fa o pm cd doc a vs ns G Y ho (fd_plain hd) hcd hmg hobj hints hlen hg rfl F X) (fun f s' hq => ?_) (fun _ _ hq => hq)
    obtain ⟨rfl, h2, h3, h4⟩ := hq
    exact ⟨.inl ⟨.bool true, .bool true, [], rfl, fun _ => rfl, .bool true, post_true l _, fun _ => ⟨List.Pairwise.nil, fun _ hm => (nomatch hm)⟩⟩, h2, h3, h4⟩

/-- the same from a codeAny of the CALL (for a layer whose function contracts speak of calls) -/
theorem attach_call {l : OpenLaw} {n : Nat} {q : Program} {loose : List Str} {XP : (Str → Option Value) → Heap → Prop} {YP : World → Heap → Prop} {d : DefRec}
    (hn : l.most = some n) (hdf : d.params.defaults = [])
    (call : ∀ (w : World) (s₀ s₁ : Shared) (mg mb : Str → Option Value) (fa : Addr) (o : Obj) (pm cd doc : Value) (a : Addr) (vs : List Value) (ns : List Int),
      Ground q loose [] XP w s₀ mg mb s₁.heap → YP w s₁.heap →
      s₁.heap.get? fa = some o → o.data = .func (docDef d.name d.params d.body d.scope pm cd doc) → s₁.heap.CodeRec cd d.name → mg d.name = some (.ref fa) →
      s₁.heap.get? a = some { cls := .type "list", data := .seq vs.toArray } → IntsAre vs ns → ns.length ≤ n → s₁.gens = #[] →
      codeAny (model l.prog w) callerA (.call (.ref fa) ⟨[.ref a], []⟩) (fun r s' => r = .ok (.ret (.bool true)) ∧ OldK s₁.heap s'.heap ∧ s'.os = s₁.os ∧ AllBare s'.gens) s₁) :
    WalkO q loose XP YP l.row.toRowW d [] (fun f vs => PySem.call f vs) := by
  intro w s₀ s₁ mg mb G Y fa o pm cd doc dV kV ho hd hcd hD hmg hg args vals as hpre hlay hrd hwl hlo
  obtain rfl : dV = .none := Dflts.none hD hdf
  obtain rfl : kV = .none := Dflts.noKw hD
  obtain ⟨a, vs, ns, rfl, rfl, hobj, hints, hlen⟩ := script_of hn hpre hwl
  refine enter_call (codeAny_mono (call w s₀ s₁ mg mb fa o pm cd doc a vs ns G Y ho (fd_plain hd) hcd hmg hobj hints hlen hg) fun r s' hq => ?_)
  obtain ⟨rfl, h2, h3, h4⟩ := hq
  exact ⟨.inl ⟨.bool true, .bool true, [], rfl, fun _ => rfl, .bool true, post_true l _, fun _ => ⟨List.Pairwise.nil, fun _ hm => (nomatch hm)⟩⟩, h2, h3, h4⟩

/-- the same where the top left finished generators (o_head chose holds_openN): nothing may have changed at all and no generator may be left -/
theorem attachN {l : OpenLaw} {n : Nat} {q : Program} {loose : List Str} {XP : (Str → Option Value) → Heap → Prop} {YP : World → Heap → Prop} {d : DefRec} {x : Str}
    (hn : l.most = some n) (hdf : d.params.defaults = [])
    (hbind : ∀ pm cd doc v : Value, bindArgs (docDef d.name d.params d.body d.scope pm cd doc) ⟨[v], []⟩ = pure [(x, v)])
    (hx : d.scope.names.lookup x = some .local ∨ d.scope.names.lookup x = some .cell)
    (hk : d.scope.kind = .function) (hco : d.scope.isCoroutine = false) (hgen : d.scope.isGenerator = false)
    (body : ∀ (w : World) (s₀ s₁ s : Shared) (mg mb : Str → Option Value) (fa : Addr) (o : Obj) (pm cd doc : Value) (a : Addr) (vs : List Value) (ns : List Int),
      Ground q loose [] XP w s₀ mg mb s₁.heap → YP w s₁.heap →
      s₁.heap.get? fa = some o → o.data = .func (docDef d.name d.params d.body d.scope pm cd doc) → s₁.heap.CodeRec cd d.name → mg d.name = some (.ref fa) →
      s₁.heap.get? a = some { cls := .type "list", data := .seq vs.toArray } → IntsAre vs ns → ns.length ≤ n →
      s.gens = #[] → s.os = s₁.os →
      Fr s₁.heap s₁.heap.objs.size s.heap (bindL (envOfC d.name d.scope s₁.heap.objs.size fa cd).kindOf [(x, .ref a)] fun _ => none) →
      Cl s₁.heap.objs.size (cellsFrom (s₁.heap.objs.size + 1) d.scope.names []) s.heap (bindC (envOfC d.name d.scope s₁.heap.objs.size fa cd).kindOf [(x, .ref a)] fun _ => none) →
      wpAny (model l.prog w) (callerA.deeper (envOfC d.name d.scope s₁.heap.objs.size fa cd)) (execs d.body (envOfC d.name d.scope s₁.heap.objs.size fa cd))
        (fun f s' => f = .ret (.bool true) ∧ (∀ b o, s₁.heap.get? b = some o → s'.heap.get? b = some o) ∧ s'.os = s₁.os ∧ s'.gens = #[]) (fun _ _ => False) s) :
    WalkN q loose XP YP l.row.toRowW d [] (fun f vs => PySem.call f vs) := by
  intro w s₀ s₁ mg mb G Y fa o pm cd doc dV kV ho hd hcd hD hmg hg args vals as hpre hlay hrd hwl hlo
  obtain rfl : dV = .none := Dflts.none hD hdf
  obtain rfl : kV = .none := Dflts.noKw hD
  obtain ⟨a, vs, ns, rfl, rfl, hobj, hints, hlen⟩ := script_of hn hpre hwl
  refine enter_callW ?_
  refine call_cells_ret (o := o) (by rw [depth_caller]; decide) ho (fd_plain hd) G.T.nolimit hcd (hbind pm cd doc (.ref a)) (fun y hy => ?_) (fun h₁ tk F X => ?_) hco hgen hk
  · obtain rfl : y = (x, Value.ref a) := List.mem_singleton.mp hy
    rcases hx with e | e
    · exact .inl e
    · exact .inr ⟨e, cellsFrom_some _ _ _ (.inl e)⟩
  · refine wpAny_mono (body w s₀ s₁ { s₁ with heap := h₁, toks := tk } mg mb fa o pm cd doc a vs ns G Y ho (fd_plain hd) hcd hmg hobj hints hlen hg rfl F X) (fun f s' hq => ?_) (fun _ _ hq => hq)
    obtain ⟨rfl, h2, h3, h4⟩ := hq
    exact ⟨.inl ⟨.bool true, .bool true, [], rfl, fun _ => rfl, .bool true, post_true l _, fun _ => ⟨List.Pairwise.nil, fun _ hm => (nomatch hm)⟩⟩, h2, h3, h4⟩

/-! ### rules over ANY heap (no ledger) from facts about the written part K: the library's own take a ledger (News) for what they write -/
section
variable {prog : Program} {w : World} {A : Around} {E : Value → Shared → Prop} {s : Shared} {K : Frag}

/-- a def of the module, or a method (qual 'C.m'), entered: the frame is the next address; cells behind it -/
theorem call_fn {R : Result → Shared → Prop} {name qual : Str} {params : Arguments} {body : List Stmt} {scope : Scope} {dV kV doc pm cdv ct oc : Value} {an od : Option Addr} {osl : Array (Option Value)} {f : Addr} {args : Args} {binds : List (Str × Value)}
    (X : K.In s.heap) (hlim : s.heap.NoLimit) (ho : K.lookup f = some ⟨oc, od, .func (fnOf name qual params body scope dV kV doc pm an cdv ct), osl⟩) (hcd : codeIn K cdv qual = true) (hroom : A.depth < recursionLimit)
    (hbind : BindsTo s (fnOf name qual params body scope dV kV doc pm an cdv ct) args binds)
    (hkind : (binds.all fun y => scope.names.lookup y.1 == some .local || scope.names.lookup y.1 == some .cell) = true)
    (h : ∀ s₁, InCallC s s.heap.objs.size (bindL (envOfC qual scope s.heap.objs.size f cdv).kindOf binds fun _ => none) (cellsFrom (s.heap.objs.size + 1) scope.names [])
        (bindC (envOfC qual scope s.heap.objs.size f cdv).kindOf binds fun _ => none) s₁ →
      wpAny (model prog w) (A.deeper (envOfC qual scope s.heap.objs.size f cdv)) (execs body (envOfC qual scope s.heap.objs.size f cdv))
        (fun fl s' => R (.ok (.ret (match fl with | .ret v => v | _ => .none))) s')
        (fun e s' => wpAny (model prog w) (A.deeper (envOfC qual scope s.heap.objs.size f cdv)) (leaving (envOfC qual scope s.heap.objs.size f cdv) e) (fun _ s'' => R (.error e) s'') (fun e' s'' => R (.error e') s'') s') s₁)
    (hco : scope.isCoroutine = false) (hgen : scope.isGenerator = false) (hk : scope.kind = .function) : codeAny (model prog w) A (.call (.ref f) args) R s := by
  refine codeAny_call_function hroom (X _ _ ho) rfl hco hgen rfl (codeRec_of X hcd) (hbind _ _ _ _ ?_)
  refine wpAny_newFunctionEnv_cells hk (kindsX hkind _) fun env he s₁ x => ?_
  subst he
  exact ⟨hlim.keeps x.toInCall.keep, codeAny_func (h s₁ x)⟩

/-- C(..): dict at size, instance at size + 1, then __init__ -/
theorem make_obj {R : Result → Shared → Prop} {C fI : Addr} {rest : List Value} {kw : List (Str × Value)}
    (X : K.In s.heap) (hm : makesIn K C = true) (hi : findIn K (.ref C) "__init__" = some (some (.ref fI))) (hf : isFn K (.ref fI) = true)
    (h : codeAny (model prog w) (A.under (.builtin "type.__call__" ⟨.ref C :: rest, kw⟩)) (.call (.ref fI) ⟨.ref (s.heap.objs.size + 1) :: rest, kw⟩) (InitBack (s.heap.objs.size + 1) R)
      { s with heap := (s.heap.push emptyDict).push (instObj C s.heap.objs.size) }) : codeAny (model prog w) A (.call (.ref C) ⟨rest, kw⟩) R s := by
  obtain ⟨hh, g, d, t, os⟩ := s
  exact make_core (makes_of X hm) (looks_findIn X hi) (fun self => bind_fn X self (beq_iff_eq.mp hf)) (.inl rfl) h

/-- x.name where the instance's dict holds the name and the class does not -/
theorem get_field {x C : Addr} {ox : Obj} {es : List DictEntry} {n : Nat} {name : Str} {expr : Bool} {v : Value} {Q : Value → Shared → Prop}
    (X : K.In s.heap) (I : PySem.W.InstAt s.heap x ox C (some (dictOf es n))) (hg : plainGet K C name = true) (hh : hasDictIn K C = true) (ha : findIn K (.ref C) name = some none)
    (hl : getL name es = some (some v)) (hv : handedIn v = true) (h : Q v { s with toks := s.toks + 1 }) : wpAny (model prog w) A (getAttr (.ref x) name expr) Q E s :=
  get_value X I (plainGet_of hg).1 (findObj_own hh ha rfl hl) hv h

/-- x.m(..): the method found in the class -/
theorem get_method {x C f : Addr} {ox : Obj} {es : List DictEntry} {n : Nat} {name : Str} {pl : Sem Bool} {Q : Value × List Value → Shared → Prop}
    (X : K.In s.heap) (I : PySem.W.InstAt s.heap x ox C (some (dictOf es n))) (hg : plainGet K C name = true) (hf : findIn K (.ref C) name = some (some (.ref f))) (ht : isFn K (.ref f) = true)
    (hl : getL name es = some none) (h : Q (.ref f, [.ref x]) s) : wpAny (model prog w) A (getMethod (.ref x) name pl) Q E s :=
  method_fn X I (plainGet_of hg).1 (plainGet_of hg).2 hf (beq_iff_eq.mp ht) (by show (lookIn name (dictOf es n)).map _ = _; rw [lookIn_dict, hl]; rfl) h

/-! the whole heap as the ledger: makes every rule that writes through a ledger a rule over any heap -/
def noObjs (h : Heap) : Heap := { h with objs := #[] }
theorem noObjs_get (h : Heap) (b : Addr) : (noObjs h).get? b = none := by
  cases e : (noObjs h).get? b with
  | none => rfl
  | some o => exact absurd (Heap.lt_size e) (Nat.not_lt_zero _)
def ledger (h : Heap) (L d : Addr) : List (Addr × Obj) := (List.range h.objs.size).filterMap fun a => if a = L ∨ a = d then none else (h.get? a).map fun o => (a, o)
theorem mem_ledger {h : Heap} {L d a : Addr} {o : Obj} : (a, o) ∈ ledger h L d ↔ a ≠ L ∧ a ≠ d ∧ h.get? a = some o := by
  unfold ledger
  rw [List.mem_filterMap]
  constructor
  · rintro ⟨b, _, e⟩
    split at e
    · cases e
    · rename_i hb
      obtain ⟨o', ho, e'⟩ := Option.map_eq_some_iff.mp e
      cases e'
      exact ⟨fun q => hb (.inl q), fun q => hb (.inr q), ho⟩
  · rintro ⟨n1, n2, ho⟩
    refine ⟨a, List.mem_range.mpr (Heap.lt_size ho), ?_⟩
    rw [if_neg (show ¬ (a = L ∨ a = d) from fun q => q.elim n1 n2), ho] <;> rfl
theorem news_ledger {h : Heap} {L d : Addr} {od : Obj} (hne : d ≠ L) (ho : h.get? d = some od) : News (noObjs h) L h ([] ++ (d, od) :: ledger h L d) := by
  rintro ⟨a, o⟩ hp
  rcases List.mem_cons.mp hp with e | hp
  · cases e
    exact ⟨ho, hne, noObjs_get _ _⟩
  · obtain ⟨n1, n2, e⟩ := mem_ledger.mp hp
    exact ⟨e, n1, noObjs_get _ _⟩
theorem fr_all {h : Heap} {L : Addr} {m : Str → Option Value} (n : h.Ns L m) : Fr (noObjs h) L h m :=
  ⟨n, fun b o e => (by rw [noObjs_get] at e; cases e), Nat.zero_le _⟩
/-- Upd of the head entry (for append_K, setItem_K ..) -/
theorem upd_ledger {h : Heap} {L d : Addr} {o o' : Obj} : Upd d o o' ((d, o) :: ledger h L d) ((d, o') :: ledger h L d) :=
  .head fun ⟨_, _⟩ hp => (mem_ledger.mp hp).2.1

/-- x.name = v over any heap: L is any namespace of the heap (the frame's, say): its map stays, its object is not told; all else but the dict stays -/
theorem set_field {x C dx L : Addr} {ox : Obj} {m : Str → Option Value} {es es' : List DictEntry} {n n' : Nat} {name : Str} {v : Value} {Q : Unit → Shared → Prop}
    (X : K.In s.heap) (I : PySem.W.InstAt s.heap x ox C (some (dictOf es n))) (hd : ox.dict = some dx) (hL : s.heap.Ns L m) (hne : dx ≠ L)
    (hs : findIn K (.ref C) "__setattr__" = some (some (.builtin "object.__setattr__"))) (hp : plainOver K C = true) (ht : takerIn K C name = some none) (hh : hasDictIn K C = true) (hl : (getL name es).isSome = true)
    (e : (putL name (PyData.keyHash w.params name) (.str name (s.toks + 1)) v es, putN name es n) = (es', n')) (hz : es'.length ≤ 1000)
    (h : ∀ h' : Heap, h'.Ns L m → h'.get? dx = some (dictOf es' n') → (∀ b o, b ≠ dx → b ≠ L → s.heap.get? b = some o → h'.get? b = some o) → Q () { s with heap := h', toks := s.toks + 2 }) :
    wpAny (model prog w) A (setAttr (.ref x) name v) Q E s := by
  obtain ⟨e1, e2⟩ := Prod.mk.inj e
  have hdx : s.heap.get? dx = some (dictOf es n) := by
    have := I.dict
    rw [hd] at this
    exact this
  refine set_plain X I hs (osa_dict (s := { s with toks := s.toks + 1 }) (h₀ := noObjs s.heap) (L := L) (m := m) (od := dictOf es n) (od' := dictOf es' n') (es := es') (n := n') (pre := []) (post := ledger s.heap L dx)
    (fr_all hL) (news_ledger hne hdx) X I hd hp ht hh hl (fun _ q => nomatch q) (fun ⟨_, _⟩ q => (mem_ledger.mp q).2.1) (by rw [putName_dict, e1, e2]) rfl hz fun h' F' N' => ?_)
  exact h h' F'.ns (N'.get (List.Mem.head _)) fun b o n1 n2 ho => N'.get (List.Mem.tail _ (mem_ledger.mpr ⟨n2, n1, ho⟩))
end
end Att

namespace L2
open PySem PySem.Spec PyProof.Rows

theorem vals_ints : ∀ {vs : List Value} {ns : List Int}, IntsAre vs ns → Vals (ns.map V.int) vs
  | _, _, .nil => .nil
  | _, _, .cons n t h => .cons ⟨t, rfl⟩ (vals_ints h)

/-- nothing is tracked but the script, known to the object (or it is an object of the module) -/
def Only (H : Hp) : Prop := ∀ b, H b = none ∨ ∃ o xs, H b = some (.frz o (.lst xs))

/-- THE HEAD: the law's promise, at the heap behind the top. F, the promise of the law's def, may use that base is part of the heap (so K.In base, base.Ns mainGlobals mg stand in Mod) -/
theorem law_call {P : Program} {w : World} {K : PySem.W.Frag} {mg mb : Str → Option Value} {CX : CXT} {k : Nat} {fa a : Addr} {fd : FuncData} {x : Str} {sp : Sp} {s₁ : Shared} {vs : List Value} {ns : List Int}
    (KX : K.In s₁.heap) (hns : s₁.heap.Ns mainGlobals mg) (hb : s₁.heap.Ns builtinsNs mb) (hbb : ∀ x : Str, x ≠ "__name__" → mb x = bootBuiltins x) (hlim : s₁.heap.NoLimit) (hg : s₁.gens = #[])
    (ha : s₁.heap.get? a = some { cls := .type "list", data := .seq vs.toArray }) (hi : IntsAre vs ns) (hl : ns.length ≤ sizeLine) (hr : Room k callerA)
    (F : ∀ base : Heap, K.In base → base.Ns mainGlobals mg → FnOk P w K mg base CX k fa fd [x] sp) (hbind : ∀ (s : Shared) (u : Value), BindsTo s fd ⟨[u], []⟩ [(x, u)])
    (hsp : ∀ H : Hp, Only H → SqL K H a (ns.map V.int) → sp [.ref a] H (fun v _ => v = .bl true) fun _ _ _ => False)
    (hCX : ∀ H e s', CX [] H s₁ (fun _ _ _ => False) e s' → False) :
    codeAny (model P w) callerA (.call (.ref fa) ⟨[.ref a], []⟩) (fun r s' => r = .ok (.ret (.bool true)) ∧ OldK s₁.heap s'.heap ∧ s'.os = s₁.os ∧ AllBare s'.gens) s₁ := by
  have rv := vals_ints hi
  have lenV := hi.length
  have core : ∀ H : Hp, Only H → SqL K H a (ns.map V.int) → HOk P w H s₁.heap → (∀ b, H b ≠ none → b = a) → (H a ≠ none → K.lookup a = none) →
      codeAny (model P w) callerA (.call (.ref fa) ⟨[.ref a], []⟩) (fun r s' => r = .ok (.ret (.bool true)) ∧ OldK s₁.heap s'.heap ∧ s'.os = s₁.os ∧ AllBare s'.gens) s₁ := by
    intro H hO hS hok hA hK
    have base_of : ∀ {b : Addr} {o : Obj}, s₁.heap.get? b = some o → H b = none → (hidT s₁.heap H).get? b = some o := fun e n => hidT_get e n
    have noA : ∀ {b : Addr} {o : Obj} {es : Array DictEntry} {ep : Nat}, s₁.heap.get? b = some o → o.data = .dict es ep → H b = none := fun {b o es ep} e d => by
      cases q : H b with
      | none => rfl
      | some u =>
        have e' : b = a := hA b (by rw [q]; simp)
        subst e'
        rw [ha] at e; cases e
        have d' : Data.seq vs.toArray _ = Data.dict es ep := d
        cases d'
    have nsK : ∀ {b : Addr} {m : Str → Option Value}, s₁.heap.Ns b m → (hidT s₁.heap H).Ns b m := fun {b m} ⟨o, es, ep, e, d, r⟩ => ⟨o, es, ep, base_of e (noA e d), d, r⟩
    have hKb : K.In (hidT s₁.heap H) := fun b o e => base_of (KX b o e) (by
      cases q : H b with
      | none => rfl
      | some u =>
        have e' : b = a := hA b (by rw [q]; simp)
        subst e'
        rw [hK (by rw [q]; simp)] at e; cases e)
    have hM : Mod K mg (hidT s₁.heap H) := ⟨hKb, nsK hns, ⟨mb, nsK hb, hbb⟩, let ⟨mc, h1, h2⟩ := hlim; ⟨mc, nsK h1, h2⟩⟩
    have e0 : Env0 P w K mg (hidT s₁.heap H) callerA [] s₁ H := ⟨rfl, hM, fun b o e => of_hidT e, Nat.le_of_eq (hidT_size _ _), trivial, fun b hb => absurd (show b ∈ ([] : List Addr) from hb) (by simp), hok, .of_eq hg⟩
    refine codeAny_mono ((F _ hKb (nsK hns)).run callerA [] s₁ H ⟨[.ref a], []⟩ [.ref a] [.ref a] _ _ hr e0 (hbind s₁ (.ref a)) (.cons rfl .nil) (hsp H hO hS)) fun r s' h => ?_
    cases r with
    | error e => exact (hCX H e s' h).elim
    | ok fl =>
      cases fl with
      | next => exact False.elim h
      | brk => exact False.elim h
      | cont => exact False.elim h
      | ret u =>
        obtain ⟨v, H', os, bare, un, hok', r', q⟩ := h
        have q' : v = .bl true := q
        subst q'
        obtain rfl : u = Value.bool true := r'
        refine ⟨rfl, OldK.of_keep fun b o e => ?_, os, bare⟩
        cases q : H b with
        | none => exact un.keep b o e q (by intro z; exact absurd (show b ∈ ([] : List Addr) from z) (by simp)) (by simp)
        | some u =>
          rcases hO b with z | ⟨ob, xs, z⟩
          · rw [q] at z; cases z
          · have z2 := un.frzs b ob _ z
            obtain ⟨e1, _⟩ := hok b _ z
            obtain ⟨e2, _⟩ := hok' b _ z2
            rw [e] at e1; cases e1
            exact e2
  cases hk : K.lookup a with
  | some o =>
    have e := KX a o hk
    rw [ha] at e
    cases e
    refine core (fun _ => none) (fun _ => .inl rfl) (.inr ⟨_, vs.toArray, _, hk, rfl, rfl, rfl, by rw [List.size_toArray, lenV]; exact hl, by simpa using rv⟩) (fun b u z => by have z' : (none : Option HO) = some u := z; cases z') (fun b z => absurd rfl z) fun z => absurd rfl z
  | none =>
    refine core (fun b => if b = a then some (.frz { cls := .type "list", data := .seq vs.toArray } (.lst (ns.map V.int))) else none) (fun b => ?_) (.inl (.inr ⟨{ cls := .type "list", data := .seq vs.toArray }, if_pos rfl⟩)) (fun b u z => ?_) (fun b z => ?_) fun _ => hk
    · by_cases hb : b = a
      · exact .inr ⟨_, _, if_pos hb⟩
      · exact .inl (if_neg hb)
    · by_cases hb : b = a
      · have z' := (if_pos hb).symm.trans z
        cases z'
        subst hb
        exact ⟨ha, by rw [List.length_map]; exact hl, vs, _, rv, ha⟩
      · have z' := (if_neg hb).symm.trans z
        cases z'
    · by_cases hb : b = a
      · exact hb
      · exact absurd (if_neg hb) z
end L2

namespace L2
open PySem PySem.Spec PyProof.Rows

abbrev KOf {K : PySem.W.Frag} {h : Heap} (_ : K.In h) : PySem.W.Frag := K

/-- the goal that k_head leaves (case hc), from the law's promise. F gives the function object fd (K's own) once, then the promise over every base -/
theorem walk_of {l : PySem.W.OpenLaw} {n k : Nat} {q : Program} {loose : List Str} {XP : (Str → Option Value) → Heap → Prop} {YP : World → Heap → Prop} {d : DefRec} {K : Params → PySem.W.Frag} {CX : World → CXT} {sp : World → Sp} {x : Str}
    (hn : l.most = some n) (hn2 : n ≤ sizeLine) (hdf : d.params.defaults = []) (hr : Room k callerA)
    (hY : ∀ (w : World) (h : Heap), YP w h → (K w.params).In h)
    (F : ∀ (w : World) (mg : Str → Option Value) (fa : Addr) (h : Heap), (K w.params).In h → h.Ns mainGlobals mg → mg d.name = some (.ref fa) →
      ∃ fd : FuncData, (∀ (s : Shared) (u : Value), BindsTo s fd ⟨[u], []⟩ [(x, u)]) ∧
        ∀ base : Heap, (K w.params).In base → base.Ns mainGlobals mg → FnOk l.prog w (K w.params) mg base (CX w) k fa fd [x] (sp w))
    (hsp : ∀ (w : World) (H : Hp) (a : Addr) (ns : List Int), ns.length ≤ n → Only H → SqL (K w.params) H a (ns.map V.int) → sp w [.ref a] H (fun v _ => v = .bl true) fun _ _ _ => False)
    (hCX : ∀ (w : World) (H : Hp) (s : Shared) (e : Value) (s' : Shared), CX w [] H s (fun _ _ _ => False) e s' → False) :
    PySem.W.WalkO q loose XP YP l.row.toRowW d [] (fun f vs => PySem.call f vs) := by
  refine Att.attach_call hn hdf fun w s₀ s₁ mg mb fa o pm cd doc a vs ns G Y ho hd hcd hmg hobj hints hlen hg => ?_
  have KX := hY w _ Y
  obtain ⟨fd, hb, hF⟩ := F w mg fa _ KX G.T.g hmg
  exact law_call KX G.T.g G.T.b G.T.builtins G.T.nolimit hg hobj hints (Nat.le_trans hlen hn2) hr hF hb (fun H hO hS => hsp w H a ns hlen hO hS) fun H e s' => hCX w H s₁ e s'
/-- the same where the promise hangs on the written part alone: (sp := My.sp_law), no hole under a binder -/
theorem walk_ofK {l : PySem.W.OpenLaw} {n k : Nat} {q : Program} {loose : List Str} {XP : (Str → Option Value) → Heap → Prop} {YP : World → Heap → Prop} {d : DefRec} {K : Params → PySem.W.Frag} {CX : CXT} {sp : PySem.W.Frag → Sp} {x : Str}
    (hn : l.most = some n) (hn2 : n ≤ sizeLine) (hdf : d.params.defaults = []) (hr : Room k callerA)
    (hY : ∀ (w : World) (h : Heap), YP w h → (K w.params).In h)
    (F : ∀ (w : World) (mg : Str → Option Value) (fa : Addr) (h : Heap), (K w.params).In h → h.Ns mainGlobals mg → mg d.name = some (.ref fa) →
      ∃ fd : FuncData, (∀ (s : Shared) (u : Value), BindsTo s fd ⟨[u], []⟩ [(x, u)]) ∧
        ∀ base : Heap, (K w.params).In base → base.Ns mainGlobals mg → FnOk l.prog w (K w.params) mg base CX k fa fd [x] (sp (K w.params)))
    (hsp : ∀ (K : PySem.W.Frag) (H : Hp) (a : Addr) (ns : List Int), ns.length ≤ n → Only H → SqL K H a (ns.map V.int) → sp K [.ref a] H (fun v _ => v = .bl true) fun _ _ _ => False)
    (hCX : ∀ (H : Hp) (s : Shared) (e : Value) (s' : Shared), CX [] H s (fun _ _ _ => False) e s' → False) :
    PySem.W.WalkO q loose XP YP l.row.toRowW d [] (fun f vs => PySem.call f vs) :=
  walk_of (K := K) (CX := fun _ => CX) (sp := fun w => sp (K w.params)) hn hn2 hdf hr hY F (fun w H a ns h1 h2 h3 => hsp (K w.params) H a ns h1 h2 h3) fun _ H s e s' => hCX H s e s'
end L2



/-! SHORT WORDS over the layer: a def of the text, its body, what a loop and a test want. -/
namespace L2
open PySem PySem.Spec PyProof.Rows

/-! ### the text by places -/
/-- the j-th statement of a class's body -/
def inClass (s : Stmt) (j : Nat) : Stmt := match s with
  | .ClassDef _ _ _ body _ _ _ _ _ _ _ => body.getD j (.Pass ⟨0, 0, 0, 0⟩)
  | _ => .Pass ⟨0, 0, 0, 0⟩
def defArgs (s : Stmt) : Arguments := match s with
  | .FunctionDef _ a _ _ _ _ _ _ _ _ => a
  | _ => { posonlyargs := [], args := [], vararg := none, kwonlyargs := [], kw_defaults := [], kwarg := none, defaults := [] }
def defBody (s : Stmt) : List Stmt := match s with
  | .FunctionDef _ _ b _ _ _ _ _ _ _ => b
  | _ => []
def defScope (s : Stmt) : Scope := match s with
  | .FunctionDef _ _ _ _ _ _ sc _ _ _ => sc
  | _ => { kind := .function, names := [], isGenerator := false, isCoroutine := false }

/-! ### no exception leaves a def -/
abbrev CX0 : CXT := fun _ _ _ _ _ _ => False
abbrev E0 : XK := fun _ _ _ => False
theorem pass0 {X : Cx} : Passes CX0 X E0 := fun _ _ _ _ _ _ _ h => h.elim

/-! ### a def (or method) of the text as it stands behind the top -/
structure Fun (K : PySem.W.Frag) (x qual : Str) (st : Stmt) (f : Addr) (fd : FuncData) : Prop where
  ex : ∃ (oc : Value) (od : Option Addr) (kV doc pm : Value) (an : Option Addr) (cdv ct : Value) (osl : Array (Option Value)),
    fd = PySem.W.fnOf x qual (defArgs st) (defBody st) (defScope st) .none kV doc pm an cdv ct ∧ K.lookup f = some ⟨oc, od, .func fd, osl⟩ ∧ PySem.W.codeIn K cdv qual = true
  kp : PySem.W.keepIn K (.ref f) = true
section
variable {P : Program} {w : World} {K : PySem.W.Frag} {mg : Str → Option Value} {base : Heap}
/-- THE RULE for a def: its body as a term of rules, and the reading of that term -/
theorem Fun.ok {x qual : Str} {st : Stmt} {f : Addr} {fd : FuncData} {N ps : List Str} {k : Nat} {sp : Sp} (F : Fun K x qual st f fd) (S : FnScope N ps (defScope st)) (len : ∀ vs H Q E, sp vs H Q E → vs.length = ps.length)
    (hbody : ∀ (cdv : Value) (A : Around) (outer : List Env) (s : Shared) (H : Hp) (vs : List V) (Q : VK) (E : XK), Room k (A.deeper (envOfC qual (defScope st) s.heap.objs.size f cdv)) → sp vs H Q E →
      ∃ t, PSs (cxOf CX0 P w K mg base N qual (defScope st) f cdv A outer s H E).nox (defBody st) t ∧ t { nx := fun _ H' => Q .non H', rt := Q } (start N vs) H) : FnOk P w K mg base CX0 (k + 1) f fd ps sp := by
  obtain ⟨oc, od, kV, doc, pm, an, cdv, ct, osl, rfl, lk, hcd⟩ := F.ex
  refine fn_of lk hcd S len fun A outer s H vs Q E hr hsp => ?_
  obtain ⟨t, h, q⟩ := hbody cdv A outer s H vs Q E hr hsp
  exact ⟨t, h.nox, q⟩
/-- how its arguments bind (no defaults): h is «fun _ _ _ _ _ _ us hl => match us, hl with | [_, _], _ => rfl», one _ a parameter -/
theorem Fun.binds {x qual : Str} {st : Stmt} {f : Addr} {fd : FuncData} {ps : List Str} (F : Fun K x qual st f fd)
    (h : ∀ (kV doc pm : Value) (an : Option Addr) (cdv ct : Value) (us : List Value), us.length = ps.length → bindArgs (PySem.W.fnOf x qual (defArgs st) (defBody st) (defScope st) .none kV doc pm an cdv ct) ⟨us, []⟩ = pure (ps.zip us)) : Binds K fd ps [] := by
  obtain ⟨oc, od, kV, doc, pm, an, cdv, ct, osl, rfl, lk, hcd⟩ := F.ex
  exact .all (h kV doc pm an cdv ct)
theorem fun_mk {x qual : Str} {st : Stmt} {f : Addr} {oc : Value} {od an : Option Addr} {osl : Array (Option Value)} {kV doc pm cdv ct : Value} (l : K.lookup f = some ⟨oc, od, .func (PySem.W.fnOf x qual (defArgs st) (defBody st) (defScope st) .none kV doc pm an cdv ct), osl⟩)
    (c : PySem.W.codeIn K cdv qual = true) (k : PySem.W.keepIn K (.ref f) = true) : Fun K x qual st f (PySem.W.fnOf x qual (defArgs st) (defBody st) (defScope st) .none kV doc pm an cdv ct) := ⟨⟨oc, od, kV, doc, pm, an, cdv, ct, osl, rfl, l, c⟩, k⟩
end
theorem hu_of {A : Around} {k : Nat} (hr : Room k A) : A.units + 1 < cLine := Nat.lt_of_le_of_lt (Nat.add_le_add_left (by decide : 1 ≤ 64) _) hr.units
theorem small1000 {n : Nat} (h : n ≤ 1000) : n < sizeLine := Nat.lt_of_le_of_lt h (by decide)

/-! ### expressions in short: the name that stands in the i-th slot -/
section
variable {X : Cx}
theorem pv (i : Nat) {x : Str} {pos : Pos} (hN : X.N[i]? = some x := by rfl) (hv : Vis X.env.scope x := by first | exact Or.inl rfl | exact Or.inr (Or.inl rfl) | exact Or.inr (Or.inr rfl)) (hd : (x == ("__debug__" : Str)) = false := by decide)
    (hcd : (x == ("__classdict__" : Str)) = false := by decide) : PE X (.Name x pos) (tVar i) := pe_var hN hv hd hcd
end

/-! ### tests -/
theorem iteF {A B : Prop} (h : B) : if false = true then A else B := by
  rw [if_neg Bool.false_ne_true]
  exact h
theorem iteT {A B : Prop} (h : A) : if true = true then A else B := by
  rw [if_pos rfl]
  exact h
theorem ite2 {c A B : Prop} [Decidable c] (h1 : c → A) (h2 : ¬ c → B) : if c then A else B := by
  by_cases h : c
  · rw [if_pos h]
    exact h1 h
  · rw [if_neg h]
    exact h2 h
theorem iteNS {c A B : Prop} [Decidable c] (hc : c) (h : B) : if (!decide c) = true then A else B := by
  rw [decide_eq_true hc]
  exact iteF h

/-! ### heaps -/
/-- all that was tracked is as it was -/
def Same (H H' : Hp) : Prop := ∀ b o, H b = some o → H' b = some o
theorem Same.refl (H : Hp) : Same H H := fun _ _ h => h
theorem Same.trans {H H1 H2 : Hp} (a : Same H H1) (b : Same H1 H2) : Same H H2 := fun c o h => b c o (a c o h)
theorem Same.free {H H' : Hp} (e : Same H H') {l : Addr} (h : H' l = Option.none) : H l = Option.none := by
  cases q : H l with
  | none => rfl
  | some o =>
    rw [e l o q] at h
    cases h
theorem Same.seq {K : PySem.W.Frag} {H H' : Hp} {a : Addr} {xs : List V} (e : Same H H') (h : SqL K H a xs) : SqL K H' a xs := by
  rcases h with (h | ⟨o, h⟩) | h
  · exact .inl (.inl (e _ _ h))
  · exact .inl (.inr ⟨o, e _ _ h⟩)
  · exact .inr h

end L2


namespace L2
open PySem PySem.Spec PyProof.Rows
section
variable {X : Cx}
/-- len of a dict -/
theorem call_lenD : CallR X (.builtin "len") (fun xs H Q => ∃ a kvs, xs = [V.ref a] ∧ H a = some (.dK kvs) ∧ Q (.int kvs.length) H) := by
  intro pins s σ H xs us Q I r h
  obtain ⟨a, kvs, rfl, ha, q⟩ := h
  obtain ⟨u, rfl, ru⟩ := vals1 r
  cases ru
  exact d_len I (.inl ha) fun t s' I' => ⟨.int kvs.length, H, I', ⟨t, rfl⟩, q⟩
end
/-! ### a dict's pairs: keys that differ -/
section
variable {κ : Type} [DecidableEq κ]
theorem valV_not {kvs : List (κ × V)} {k : κ} (h : valV kvs k = none) : ¬ k ∈ kvs.map (·.1) := by
  intro m
  obtain ⟨p, hp, e⟩ := List.mem_map.mp m
  have q : (kvs.any fun kv => decide (kv.1 = k)) = true := List.any_eq_true.mpr ⟨p, hp, decide_eq_true e⟩
  rw [valV_any, h] at q
  exact absurd q (by simp)
theorem valV_in {kvs : List (κ × V)} {k : κ} {v : V} (h : valV kvs k = some v) : k ∈ kvs.map (·.1) := by
  have q : (kvs.any fun kv => decide (kv.1 = k)) = true := by
    rw [valV_any, h]
    all_goals rfl
  obtain ⟨p, hp, e⟩ := List.any_eq_true.mp q
  exact List.mem_map.mpr ⟨p, hp, of_decide_eq_true e⟩
theorem nd_snoc : ∀ {l : List κ} {k : κ}, l.Nodup → ¬ k ∈ l → (l ++ [k]).Nodup
  | [], k, _, _ => by simp
  | a :: r, k, h, hk => by
    obtain ⟨h1, h2⟩ := List.nodup_cons.mp h
    show (a :: (r ++ [k])).Nodup
    refine List.nodup_cons.mpr ⟨fun m => ?_, nd_snoc h2 fun m => hk (List.mem_cons.mpr (Or.inr m))⟩
    rcases List.mem_append.mp m with q | q
    · exact h1 q
    · exact hk (List.mem_cons.mpr (Or.inl (List.mem_singleton.mp q).symm))
theorem nd_putK {kvs : List (κ × V)} {k : κ} (v : V) (hn : (kvs.map (·.1)).Nodup) (h : valV kvs k = none) : ((putK kvs k v).map (·.1)).Nodup := by
  rw [putK_new v h, List.map_append]
  exact nd_snoc hn (valV_not h)
theorem dropK_pos {p : κ × V} {r : List (κ × V)} {k : κ} (e : p.1 = k) : dropK (p :: r) k = dropK r k := by
  unfold dropK
  rw [List.filter_cons, if_neg (by simp [e])]
theorem dropK_neg {p : κ × V} {r : List (κ × V)} {k : κ} (e : ¬ p.1 = k) : dropK (p :: r) k = p :: dropK r k := by
  unfold dropK
  rw [List.filter_cons, if_pos (by simp [e])]
theorem dropK_no : ∀ {kvs : List (κ × V)} {k : κ}, ¬ k ∈ kvs.map (·.1) → dropK kvs k = kvs
  | [], _, _ => rfl
  | p :: r, k, h => by
    have h' : ¬ k ∈ r.map (·.1) := fun m => by
      obtain ⟨q, hq, e⟩ := List.mem_map.mp m
      exact h (List.mem_map.mpr ⟨q, List.mem_cons.mpr (Or.inr hq), e⟩)
    rw [dropK_neg fun e => h (List.mem_map.mpr ⟨p, List.mem_cons.mpr (Or.inl rfl), e⟩), dropK_no h']
theorem dropK_mem {kvs : List (κ × V)} {k : κ} {p : κ × V} (h : p ∈ dropK kvs k) : p ∈ kvs := (List.mem_filter.mp h).1
theorem nd_dropK : ∀ {kvs : List (κ × V)} {k : κ}, (kvs.map (·.1)).Nodup → ((dropK kvs k).map (·.1)).Nodup
  | [], _, _ => List.nodup_nil
  | p :: r, k, h => by
    have h : (p.1 :: r.map (·.1)).Nodup := h
    obtain ⟨h1, h2⟩ := List.nodup_cons.mp h
    by_cases e : p.1 = k
    · rw [dropK_pos e]
      exact nd_dropK h2
    · rw [dropK_neg e]
      show (p.1 :: (dropK r k).map (·.1)).Nodup
      refine List.nodup_cons.mpr ⟨fun m => h1 ?_, nd_dropK h2⟩
      obtain ⟨q, hq, eq⟩ := List.mem_map.mp m
      exact List.mem_map.mpr ⟨q, dropK_mem hq, eq⟩
theorem dropK_len : ∀ {kvs : List (κ × V)} {k : κ}, (kvs.map (·.1)).Nodup → k ∈ kvs.map (·.1) → (dropK kvs k).length + 1 = kvs.length
  | [], _, _, m => by simp at m
  | p :: r, k, h, m => by
    have h : (p.1 :: r.map (·.1)).Nodup := h
    have m : k = p.1 ∨ k ∈ r.map (·.1) := List.mem_cons.mp m
    obtain ⟨h1, h2⟩ := List.nodup_cons.mp h
    by_cases e : p.1 = k
    · subst e
      rw [dropK_pos rfl, dropK_no h1]
      all_goals rfl
    · have m' : k ∈ r.map (·.1) := m.resolve_left fun z => e z.symm
      have q := dropK_len h2 m'
      rw [dropK_neg e, List.length_cons, List.length_cons]
      omega
end
end L2


set_option Elab.async false
set_option linter.all false
set_option maxRecDepth 100000
/-! Comprehensions of one clause over the layer: a block of its own, with the cells that it takes from around it. -/
namespace L2
open PySem PySem.Spec PyProof.Rows

def clOf (env : Env) : List (Str × NameKind) → List (Str × Addr) → List (Str × Addr)
  | [], acc => acc
  | (n, k) :: r, acc => if (k == NameKind.free) = true then clOf env r ((n, (env.cells.lookup n).getD 0) :: acc) else clOf env r acc

theorem clOf_lookup {env : Env} {x : Str} : ∀ (l : List (Str × NameKind)) (acc : List (Str × Addr)),
    (clOf env l acc).lookup x = if (l.any fun p => (p.1 == x) && (p.2 == NameKind.free)) = true then some ((env.cells.lookup x).getD 0) else acc.lookup x
  | [], acc => by simp [clOf]
  | (n, k) :: r, acc => by
    unfold clOf
    by_cases hk : (k == NameKind.free) = true
    · rw [if_pos hk, clOf_lookup r]
      by_cases hr : (r.any fun p => (p.1 == x) && (p.2 == NameKind.free)) = true
      · rw [if_pos hr, if_pos]
        rw [List.any_cons, hr, Bool.or_true]
      · rw [if_neg hr]
        have hr' : (r.any fun p => (p.1 == x) && (p.2 == NameKind.free)) = false := (Bool.not_eq_true _).mp hr
        rw [List.any_cons, hr', Bool.or_false, hk, Bool.and_true, List.lookup_cons]
        by_cases hn : n = x
        · subst hn
          simp
        · have h1 : (n == x) = false := by simpa using hn
          have h2 : (x == n) = false := by simpa using fun z => hn (Eq.symm z)
          simp [h1, h2]
    · rw [if_neg hk, clOf_lookup r]
      have hk' : (k == NameKind.free) = false := by simpa using hk
      rw [List.any_cons, hk', Bool.and_false, Bool.false_or]

theorem closure_clOf {env : Env} {scope : Scope} (h : ∀ n k, (n, k) ∈ scope.names → (k == NameKind.free) = true → (env.cells.lookup n).isSome = true) : closureFor scope env = pure (clOf env scope.names []) := by
  have go : ∀ (l : List (Str × NameKind)) (acc : List (Str × Addr)), (∀ n k, (n, k) ∈ l → (k == NameKind.free) = true → (env.cells.lookup n).isSome = true) →
      (forIn l acc (fun (x : Str × NameKind) (r : List (Str × Addr)) => match x with
        | (name, kind) => if (kind == NameKind.free) = true then (do let a ← cellOf env name; pure (ForInStep.yield ((name, a) :: r))) else pure (ForInStep.yield r)) : Sem (List (Str × Addr))) = pure (clOf env l acc) := by
    intro l
    induction l with
    | nil => intro acc _; rfl
    | cons p r ih =>
      intro acc hp
      obtain ⟨n, k⟩ := p
      rw [List.forIn_cons]
      unfold clOf
      by_cases hk : (k == NameKind.free) = true
      · obtain ⟨c, hc⟩ := Option.isSome_iff_exists.mp (hp n k List.mem_cons_self hk)
        have hc1 : cellOf env n = pure c := by simp only [cellOf, hc]
        simp only [hk, if_true, hc1, hc, Option.getD_some]
        have := ih ((n, c) :: acc) (fun n' k' h' => hp n' k' (List.mem_cons_of_mem _ h'))
        simpa using this
      · simp only [hk, if_false]
        have := ih acc (fun n' k' h' => hp n' k' (List.mem_cons_of_mem _ h'))
        simpa using this
  have := go scope.names [] h
  simp only [closureFor]
  simpa using this

/-- what a comprehension's scope must be, beside the scope around it; cs: the names that it reads from around -/
def compOk (sc out : Scope) (xs : List Str) (cs : List Str) : Bool :=
  (sc.kind == .function) && (out.kind == .function) && sc.names.all (fun p => p.2 != NameKind.cell) && sc.names.all (fun p => p.2 != NameKind.local || sc.names.lookup p.1 == some .local) && xs.all (fun x => sc.names.lookup x == some .local)
    && sc.names.all (fun p => p.2 != NameKind.free || out.names.lookup p.1 == some .cell) && cs.all (fun c => sc.names.lookup c == some .free)

structure CompOk (sc out : Scope) (xs : List Str) (cs : List Str) : Prop where
  kind : sc.kind = .function
  okind : out.kind = .function
  cell : ∀ y ∈ sc.names, y.2 ≠ .cell
  names : ∀ y ∈ sc.names, y.2 = .local → sc.names.lookup y.1 = some .local
  x : ∀ x ∈ xs, sc.names.lookup x = some .local
  free : ∀ n k, (n, k) ∈ sc.names → k = .free → out.names.lookup n = some .cell
  cs : ∀ c ∈ cs, sc.names.lookup c = some .free
theorem compOk.mk {sc out : Scope} {xs : List Str} {cs : List Str} (h : compOk sc out xs cs = true) : CompOk sc out xs cs := by
  unfold compOk at h
  simp only [Bool.and_eq_true, List.all_eq_true, beq_iff_eq, bne_iff_ne, ne_eq, Bool.or_eq_true] at h
  obtain ⟨⟨⟨⟨⟨⟨h1, h2⟩, h3⟩, h4⟩, h5⟩, h6⟩, h7⟩ := h
  exact ⟨h1, h2, h3, fun y hy hl => (h4 y hy).resolve_left fun z => z hl, h5, fun n k hm hk => (h6 (n, k) hm).resolve_left fun z => z hk, h7⟩

theorem relabel_free {sc : Scope} {env : Env} {n : Str} (hk : env.scope.kind = .function) (hout : env.scope.names.lookup n = some .cell) (h : sc.names.lookup n = some .free) : (relabel sc env).names.lookup n = some .cell := by
  unfold relabel
  have go : ∀ l : List (Str × NameKind), l.lookup n = some .free →
      (l.map fun (p : Str × NameKind) => if (p.2 == NameKind.free && env.scope.kind == .function && env.kindOf p.1 == some .cell) = true then (p.1, NameKind.cell) else (p.1, p.2)).lookup n = some .cell := by
    intro l
    induction l with
    | nil => intro h; simp at h
    | cons p r ih =>
      intro h
      obtain ⟨m, k⟩ := p
      rw [List.lookup_cons] at h
      cases hm : n == m with
      | true =>
        rw [hm] at h
        cases h
        have e : n = m := by simpa using hm
        subst e
        have hko : env.kindOf n = some .cell := hout
        rw [List.map_cons]
        simp [hk, hko]
      | false =>
        rw [hm] at h
        rw [List.map_cons]
        by_cases hc : (k == NameKind.free && env.scope.kind == .function && env.kindOf m == some .cell) = true
        · rw [if_pos hc, List.lookup_cons, hm]
          exact ih h
        · rw [if_neg hc, List.lookup_cons, hm]
          exact ih h
  exact go sc.names h

/-- the context of a comprehension's block -/
def cxComp (X : Cx) (xs : List Str) (capt : List Nat) (scope : Scope) (C : Addr) (s : Shared) (H : Hp) (ex : List Addr) : Cx :=
  { X with N := xs ++ capt.map (fun j => X.N.getD j ""), s₀ := s, H₀ := H, env := compEnvC scope (clOf X.env scope.names []) C X.env, outer := X.stack, ex := ex, fn := fun _ => false, pn := [] }

def PTs (X : Cx) (ifs : List Expr) (t : TT) : Prop :=
  ∀ (pins : List (Addr × Obj)) (s : Shared) (σ : St) (H : Hp) (Q : Bool → Hp → Prop), Inv X pins σ H s → t σ H Q →
    wpAny (model X.prog X.w) X.A (forIn ifs true fun c r => if r = true then do let ok ← isTrue c X.env (eval c X.env); pure (ForInStep.yield ok) else pure (ForInStep.yield r)) (TP X pins σ Q) X.xe s
def tYes : TT := fun _ H Q => Q true H
theorem pts_nil {X : Cx} : PTs X [] tYes := fun pins s σ H Q I h => by
  show wpAny _ _ (pure true) _ _ _
  exact wpAny_pure ⟨H, I, h⟩
theorem pts_one {X : Cx} {c : Expr} {t : TT} (hc : PT X c t) : PTs X [c] t := fun pins s σ H Q I h => by
  rw [List.forIn_cons]
  simp only [if_true]
  refine wpAny_bind (wpAny_bind (thn (hc pins s σ H Q I h) fun b s1 q => ?_))
  refine wpAny_pure ?_
  show wpAny _ _ (forIn [] b _) _ _ _
  exact wpAny_pure q

/-- the loop of a comprehension, with the step between -/
theorem compLoop_own {prog : Program} {w : World} {A : Around} {R : Result → Shared → Prop} {s : Shared} {elt target iter : Expr} {ifs : List Expr} {scope : Scope} {pos : Pos} {it acc : Value} {env : Env} (I : Nat → Shared → Prop)
    (turn : ∀ n s, I n s → wpAny (model prog w) A (pyNext it) (fun r s₁ => match r with
      | none => R (.ok .next) s₁
      | some v => wpAny (model prog w) A (letOwnedTupleGo target it v) (fun _ s₁' => wpAny (model prog w) A (assign target env v) (fun _ s₂ =>
          wpAny (model prog w) A (forIn ifs true fun c r => if r = true then do let ok ← isTrue c env (eval c env); pure (ForInStep.yield ok) else pure (ForInStep.yield r)) (fun ok s₃ =>
            if ok = true then wpAny (model prog w) A (eval elt env) (fun x s₄ =>
              wpAny (model prog w) A (call (.builtin "list.append") [acc, x]) (fun _ s₅ => ∃ m, m < n ∧ I m s₅) (notedBy (model prog w) A env fun e s' => R (.error e) s') s₄) (notedBy (model prog w) A env fun e s' => R (.error e) s') s₃
            else ∃ m, m < n ∧ I m s₃) (notedBy (model prog w) A env fun e s' => R (.error e) s') s₂) (notedBy (model prog w) A env fun e s' => R (.error e) s') s₁') (notedBy (model prog w) A env fun e s' => R (.error e) s') s₁) (notedBy (model prog w) A env fun e s' => R (.error e) s') s)
    (n : Nat) (h : I n s) : codeAny (model prog w) A (.compLoop (.ListComp elt [⟨target, iter, ifs, 0⟩] scope pos) 0 it acc env) R s := by
  refine codeAny_loop rfl I (fun n s hI => ?_) n h
  show wpAny _ A ((compTurn (.ListComp elt [⟨target, iter, ifs, 0⟩] scope pos) 0 it acc env).onRaise (fun x => do noteFrame x env; theTreesLotGoes x)) _ _ s
  refine wpAny_noted ?_
  rw [compTurn_list]
  refine wpAny_bind (wpAny_standAt (wpAny_bind (wpAny_mono (turn n s hI) (fun r s₁ h₁ => ?_) fun _ _ h' => h')))
  cases r with
  | none => exact wpAny_pure h₁
  | some v =>
    refine wpAny_bind (wpAny_mono h₁ (fun _ s₁' h₁' => ?_) fun _ _ h' => h')
    refine wpAny_bind (wpAny_mono h₁' (fun _ s₂ h₂ => wpAny_bind (wpAny_mono h₂ (fun ok s₃ h₃ => ?_) fun _ _ h' => h')) fun _ _ h' => h')
    cases ok with
    | false => exact wpAny_pure ⟨rfl, h₃⟩
    | true =>
      exact wpAny_bind (wpAny_bind (wpAny_mono h₃ (fun x s₄ h₄ => wpAny_bind (wpAny_mono h₄ (fun _ s₅ h₅ => wpAny_pure (wpAny_pure ⟨rfl, h₅⟩)) fun _ _ h' => h')) fun _ _ h' => h'))

section
variable {X : Cx} {pins : List (Addr × Obj)} {σ : St} {H H2 : Hp} {s s2 : Shared} {xs : List Str} {capt : List Nat} {scope : Scope} {fp : List Addr}

abbrev emptyL : Obj := { cls := .type "list", dict := none, data := .seq ([] : List Value).toArray }
theorem Inv.stk_lt (I : Inv X pins σ H s) {b : Addr} (hb : s.heap.objs.size ≤ b) : b ∉ frs X.stack := fun z => by
  rcases List.mem_cons.mp (I.stkSub b z) with e | e
  · exact absurd (Nat.lt_of_lt_of_le I.lt hb) (by rw [e]; exact Nat.lt_irrefl _)
  · exact I.nofs hb e

/-- the block's context stands -/
theorem comp_cxok (I : Inv X pins σ H2 s2) (ok : CompOk scope X.env.scope xs (capt.map fun j => X.N.getD j "")) (hf : ∀ b ∈ fp, FpOk X pins H2 b) (hfo : ∀ b ∈ fp, ∃ o, s2.heap.get? b = some o) {HH : Heap} (eH : HH = s2.heap.push emptyL) :
    (cxComp X xs capt scope HH.objs.size { s2 with heap := HH } H2 (s2.heap.objs.size :: fp)).Ok := by
  have hsz : HH.objs.size = s2.heap.objs.size + 1 := by rw [eH, Heap.size_push]
  have look : ∀ y c, (clOf X.env scope.names []).lookup y = some c → X.env.cells.lookup y = some c := fun y c e => by
    rw [clOf_lookup] at e
    split at e
    · rename_i ha
      obtain ⟨p, hp, hq⟩ := List.any_eq_true.mp ha
      simp only [Bool.and_eq_true, beq_iff_eq] at hq
      obtain ⟨q1, q2⟩ := hq
      subst q1
      obtain ⟨c', hc'⟩ := I.ok.has p.1 (.inl (ok.free p.1 p.2 hp q2))
      rw [hc'] at e ⊢
      exact e
    · cases e
  have keep : ∀ b o, s2.heap.get? b = some o → HH.get? b = some o := fun b o e => by rw [eH]; exact Heap.get?_push_of_some _ e
  refine ⟨I.ok.mod, ok.kind, I.ok.glob, I.ok.blt, Nat.le_refl _, fun y z c h1 h2 => I.ok.inj y z c (look y c h1) (look z c h2), fun y hy => ?_, (fun y c h _ => nomatch h), I.ok.hd, I.ok.frames, .inl rfl, fun b hb => ?_, fun b o e => ?_, ?_, fun b o e hb => ?_, fun b hb => ?_, ?_, fun b hb => I.stkFree b hb⟩
  · -- each cell's name has its cell
    have hy' : (relabel scope X.env).names.lookup y = some .cell ∨ (relabel scope X.env).names.lookup y = some .free := hy
    have inn : ∀ (l : List (Str × NameKind)) (k : NameKind), (∀ p ∈ l, p.2 ≠ .cell) → (k = .cell ∨ k = .free) →
        (l.map fun (p : Str × NameKind) => if (p.2 == NameKind.free && X.env.scope.kind == .function && X.env.kindOf p.1 == some .cell) = true then (p.1, NameKind.cell) else (p.1, p.2)).lookup y = some k → ∃ p ∈ l, p.1 = y ∧ p.2 = .free := by
      intro l k hnc hkk
      induction l with
      | nil => intro h; simp at h
      | cons p r ih =>
        intro h
        obtain ⟨m, k'⟩ := p
        rw [List.map_cons] at h
        by_cases hc : (k' == NameKind.free && X.env.scope.kind == .function && X.env.kindOf m == some .cell) = true
        · rw [if_pos hc, List.lookup_cons] at h
          have hfree : k' = .free := by
            simp only [Bool.and_eq_true, beq_iff_eq] at hc
            exact hc.1.1
          cases hm : y == m with
          | true => exact ⟨(m, k'), List.mem_cons_self, by simpa using Eq.symm (by simpa using hm), hfree⟩
          | false =>
            rw [hm] at h
            obtain ⟨p, hp, q⟩ := ih (fun p hp => hnc p (List.mem_cons_of_mem _ hp)) h
            exact ⟨p, List.mem_cons_of_mem _ hp, q⟩
        · rw [if_neg hc, List.lookup_cons] at h
          cases hm : y == m with
          | true =>
            rw [hm] at h
            cases h
            rcases hkk with z | z
            · exact absurd z (hnc (m, k') List.mem_cons_self)
            · exact ⟨(m, k'), List.mem_cons_self, by simpa using Eq.symm (by simpa using hm), z⟩
          | false =>
            rw [hm] at h
            obtain ⟨p, hp, q⟩ := ih (fun p hp => hnc p (List.mem_cons_of_mem _ hp)) h
            exact ⟨p, List.mem_cons_of_mem _ hp, q⟩
    have hex : ∃ p ∈ scope.names, p.1 = y ∧ p.2 = .free := by
      rcases hy' with h | h
      · exact inn scope.names .cell ok.cell (.inl rfl) h
      · exact inn scope.names .free ok.cell (.inr rfl) h
    obtain ⟨p, hp, q1, q2⟩ := hex
    refine ⟨_, (clOf_lookup (env := X.env) scope.names []).trans (if_pos (List.any_eq_true.mpr ⟨p, hp, ?_⟩))⟩
    simp [q1, q2]
  · -- the records that turn are not the frame's
    rcases List.mem_cons.mp hb with z | z
    · subst z
      refine ⟨Nat.ne_of_lt (show s2.heap.objs.size < HH.objs.size by omega), fun y c e q => ?_⟩
      obtain ⟨v, hv⟩ := I.cell y c (look y c e)
      have := hv.lt
      rw [q] at this
      exact absurd this (Nat.lt_irrefl _)
    · obtain ⟨o, ho⟩ := hfo b z
      exact ⟨Nat.ne_of_lt (Nat.lt_of_lt_of_le (Heap.lt_size ho) (show s2.heap.objs.size ≤ HH.objs.size by omega)), fun y c e => (hf b z).2.2.2.2.1 y c (look y c e)⟩
  · obtain ⟨h1, h2⟩ := I.bs b o e
    exact ⟨keep b o h1, h2⟩
  · show X.base.objs.size ≤ HH.objs.size
    have h1 := I.ok.bsz
    have h2 := I.sz
    omega
  · -- the base's objects do not turn
    have h0 := (I.bs b o e).1
    rcases List.mem_cons.mp hb with z | z
    · subst z
      exact absurd (Heap.lt_size h0) (Nat.lt_irrefl _)
    · rcases (hf b z).2.2.2.1 with q | q
      · exact I.ok.noex b o e q
      · have h1 := (I.ok.bs b o e).1
        exact absurd (Nat.lt_of_lt_of_le (Heap.lt_size h1) q) (Nat.lt_irrefl _)
  · show b ∉ frs X.stack
    rcases List.mem_cons.mp hb with z | z
    · subst z
      exact I.stk_lt (Nat.le_refl _)
    · intro q
      rcases List.mem_cons.mp (I.stkSub b q) with e | e
      · exact (hf b z).2.1 e
      · exact (hf b z).2.2.1 e
  · show HH.FunFrames X.base X.stack
    exact Heap.FunFrames.of_keeps (fun b o e _ => ⟨o, keep b o e, rfl⟩) I.stack

/-- the block's first state -/
theorem comp_inv (I : Inv X pins σ H2 s2) (ok : CompOk scope X.env.scope xs (capt.map fun j => X.N.getD j "")) (hcap : ∀ j ∈ capt, j < X.N.length) (hf : ∀ b ∈ fp, FpOk X pins H2 b) (hfo : ∀ b ∈ fp, ∃ o, s2.heap.get? b = some o)
    {HH h1 : Heap} {t : Nat} {m : Str → Option Value} {oc : Obj} (eH : HH = s2.heap.push emptyL) (hns : h1.Ns HH.objs.size m) (hsb : Heap.SameBut HH.objs.size (HH.push oc) h1) :
    Inv (cxComp X xs capt scope HH.objs.size { s2 with heap := HH } H2 (s2.heap.objs.size :: fp)) [(s2.heap.objs.size, emptyL)] (List.replicate xs.length none ++ capt.map fun j => (σ[j]?).join) H2 { s2 with heap := h1, toks := t } := by
  have hsz : HH.objs.size = s2.heap.objs.size + 1 := by rw [eH, Heap.size_push]
  have look : ∀ y c, (clOf X.env scope.names []).lookup y = some c → X.env.cells.lookup y = some c := fun y c e => by
    rw [clOf_lookup] at e
    split at e
    · rename_i ha
      obtain ⟨p, hp, hq⟩ := List.any_eq_true.mp ha
      simp only [Bool.and_eq_true, beq_iff_eq] at hq
      obtain ⟨q1, q2⟩ := hq
      subst q1
      obtain ⟨c', hc'⟩ := I.ok.has p.1 (.inl (ok.free p.1 p.2 hp q2))
      rw [hc'] at e ⊢
      exact e
    · cases e
  have keep0 : ∀ b o, HH.get? b = some o → h1.get? b = some o := fun b o e => hsb.extBut b o (Nat.ne_of_lt (Heap.lt_size e)) (Heap.get?_push_of_some _ e)
  have keep : ∀ b o, s2.heap.get? b = some o → h1.get? b = some o := fun b o e => keep0 b o (by rw [eH]; exact Heap.get?_push_of_some _ e)
  have hD : h1.get? s2.heap.objs.size = some emptyL := keep0 _ _ (by rw [eH]; exact Heap.get?_push_size _ rfl)
  refine ⟨comp_cxok I ok hf hfo eH, rfl, I.bare, Un.kept keep0, ⟨m, hns, fun i y v h1' h2 h3 => ?_⟩, fun y c e => ?_, I.hok.fresh (show s2.heap.objs.size ≤ HH.objs.size by omega), fun y c e => I.freeC y c (look y c e), fun p hp => ?_, I.hok.kept keep, ?_⟩
  · by_cases hi : i < xs.length
    · have h2' : (List.replicate xs.length (none : Option V))[i]? = some (some v) := by
        rw [← List.getElem?_append_left (l₂ := capt.map fun j => (σ[j]?).join) (by simpa using hi)]
        exact h2
      rw [List.getElem?_replicate_of_lt hi] at h2'
      cases h2'
    · have h1'' : (capt.map fun j => X.N.getD j "")[i - xs.length]? = some y := by
        rw [← List.getElem?_append_right (l₁ := xs) (by omega)]
        exact h1'
      have h2' : (capt.map fun j => (σ[j]?).join)[i - xs.length]? = some (some v) := by
        have q := List.getElem?_append_right (l₁ := List.replicate xs.length (none : Option V)) (l₂ := capt.map fun j => (σ[j]?).join) (i := i) (by simpa using hi)
        rw [List.length_replicate] at q
        rw [← q]
        exact h2
      rw [List.getElem?_map] at h1'' h2'
      cases hj : capt[i - xs.length]? with
      | none => rw [hj] at h1''; cases h1''
      | some j =>
        rw [hj] at h1'' h2'
        have ey : X.N.getD j "" = y := by simpa using h1''
        have ev : (σ[j]?).join = some v := by simpa using h2'
        have hjm : j ∈ capt := List.mem_of_getElem? hj
        have hjl := hcap j hjm
        have hN : X.N[j]? = some y := by
          rw [List.getD_eq_getElem?_getD, List.getElem?_eq_getElem hjl] at ey
          rw [List.getElem?_eq_getElem hjl]
          simpa using ey
        have hσ : σ[j]? = some (some v) := by
          cases e : σ[j]? with
          | none => rw [e] at ev; cases ev
          | some o => rw [e] at ev; have ev' : o = some v := ev; rw [ev']
        have hfr : scope.names.lookup y = some .free := ok.cs y (List.mem_map.mpr ⟨j, hjm, ey⟩)
        have hout : X.env.scope.names.lookup y = some .cell := ok.free y .free (PySem.mem_of_lookup hfr) rfl
        obtain ⟨mX, _, hl⟩ := I.loc
        obtain ⟨u, ru, lk⟩ := hl j y v hN hσ (.inr (.inl hout))
        refine ⟨u, ru, ?_⟩
        have hko : X.env.kindOf y = some .cell := hout
        rcases lk with ⟨z, _⟩ | ⟨_, c, hc, hcell⟩
        · rw [hko] at z; cases z
        · refine .inr ⟨.inl (relabel_free ok.okind hout hfr), c, ?_, hcell.keeps keep⟩
          show (clOf X.env scope.names []).lookup y = some c
          rw [clOf_lookup, if_pos (List.any_eq_true.mpr ⟨(y, .free), PySem.mem_of_lookup hfr, by simp⟩), hc]
          rfl
  · obtain ⟨v, hv⟩ := I.cell y c (look y c e)
    exact ⟨v, hv.keeps keep⟩
  · have hp' : p = (s2.heap.objs.size, emptyL) := by simpa [cxComp] using hp
    subst hp'
    refine ⟨hD, I.hok.fresh (Nat.le_refl _), Nat.ne_of_lt (show s2.heap.objs.size < HH.objs.size by omega), I.stk_lt (Nat.le_refl _), fun v z => by cases z⟩
  · show _ = (xs ++ capt.map fun j => X.N.getD j "").length
    simp

/-- W: a comprehension's invariant, by the turn, a measure, the items so far; N: what a turn is to reach; n slots of the target's, c what is taken from around -/
def CompG (J : It) (n : Nat) (c : St) (g : TG) (tt : TT) (te : TE) (H1 : Hp) (Fin : List V → Hp → Prop) : Prop :=
  ∃ W : Nat → Nat → List V → Hp → Prop, (∃ m, W 0 m [] H1) ∧ ∀ i m ys H, W i m ys H → (J.stop i H ∧ Fin ys H) ∨
    (J.go i H ∧ ys.length < sizeLine ∧ ∃ N : List V → Hp → Prop, (∀ ys' H', N ys' H' → ∃ m', m' < m ∧ W (i + 1) m' ys' H') ∧
      ∀ x H', J.yld i H x H' → ∀ os : St, os.length = n → g x (os ++ c) H' fun σ1 H1 => tt σ1 H1 fun b H2 => if b = true then te σ1 H2 fun y H3 => N (ys ++ [y]) H3 else N ys H2)
def tCompG (n : Nat) (g : TG) (capt : List Nat) (wi : TI) (tt : TT) (te : TE) : TE := fun σ H Q => wi σ H fun J H1 =>
  CompG J n (capt.map fun j => (σ[j]?).join) g tt te H1 fun ys H => ∀ l, H l = none → Q (.ref l) (upd H l (.lst ys))
/-- the target writes its own slots alone -/
def Shp (n : Nat) (g : TG) : Prop := ∀ v (os c : St) H Q, os.length = n → g v (os ++ c) H Q → g v (os ++ c) H fun σ' H' => (∃ os' : St, os'.length = n ∧ σ' = os' ++ c) ∧ Q σ' H'
/-- the same, the target a name -/
def CompW (J : It) (S : V → St) (tt : TT) (te : TE) (H1 : Hp) (Fin : List V → Hp → Prop) : Prop :=
  ∃ W : Nat → Nat → List V → Hp → Prop, (∃ m, W 0 m [] H1) ∧ ∀ i m ys H, W i m ys H → (J.stop i H ∧ Fin ys H) ∨
    (J.go i H ∧ ys.length < sizeLine ∧ ∃ N : List V → Hp → Prop, (∀ ys' H', N ys' H' → ∃ m', m' < m ∧ W (i + 1) m' ys' H') ∧
      ∀ x H', J.yld i H x H' → tt (S x) H' fun b H2 => if b = true then te (S x) H2 fun y H3 => N (ys ++ [y]) H3 else N ys H2)
def tComp (capt : List Nat) (wi : TI) (tt : TT) (te : TE) : TE := fun σ H Q => wi σ H fun J H1 =>
  CompW J (fun x => some x :: capt.map fun j => (σ[j]?).join) tt te H1 fun ys H => ∀ l, H l = none → Q (.ref l) (upd H l (.lst ys))
theorem CompW.g {J : It} {c : St} {tt : TT} {te : TE} {H : Hp} {Fin : List V → Hp → Prop} (h : CompW J (fun x => some x :: c) tt te H Fin) : CompG J 1 c (gName 0) tt te H Fin := by
  obtain ⟨W, w0, st⟩ := h
  refine ⟨W, w0, fun i m ys H w => ?_⟩
  rcases st i m ys H w with q | ⟨go, hl, N, hN, step⟩
  · exact .inl q
  · refine .inr ⟨go, hl, N, hN, fun x H' y os hos => ?_⟩
    obtain ⟨o, rfl⟩ := List.length_eq_one_iff.mp hos
    exact step x H' y
theorem shp_name : Shp 1 (gName 0) := fun v os c H Q hos h => by
  obtain ⟨o, rfl⟩ := List.length_eq_one_iff.mp hos
  exact ⟨⟨[some v], rfl, rfl⟩, h⟩
theorem shp_tup2 {K : PySem.W.Frag} : Shp 2 (gTup K 2 (gCons (gName 0) (gCons (gName 1) gNil))) := fun v os c H Q hos h => by
  match os, hos with
  | [a, b], _ =>
  obtain ⟨p, xs, rfl, hp, hl, v1, r1, rfl, v2, r2, rfl, rfl, q⟩ := h
  exact ⟨p, _, rfl, hp, hl, v1, _, rfl, v2, _, rfl, rfl, ⟨[some v1, some v2], rfl, rfl⟩, q⟩

/-- an untracked object becomes tracked -/
theorem HOk.track {P : Program} {w : World} {H : Hp} {h : Heap} {a : Addr} {o : HO} (k : HOk P w H h) (n : H a = none) (new : ObjOk P w (upd H a o) h a o) : HOk P w (upd H a o) h := fun b u e => by
  by_cases hb : b = a
  · subst hb; rw [upd_same] at e; cases e; exact new
  · rw [upd_ne hb] at e
    exact (k b u e).stay (fun _ _ _ q => q) (fun c q => by rw [upd_ne (ne_of_none q n)]; exact q) fun c xs q => by rw [upd_ne (ne_of_none q n)]; exact q

theorem comp_block {elt iter tg : Expr} {g : TG} {ifs : List Expr} {pos : Pos} {tt : TT} {te : TE} {it : Addr} {tn : Nat → Heap → Prop} {J : It} {RR : Value → Addr → Result → Shared → Prop}
    (hx0 : ∀ e s, ¬ X.xe e s) (hc : X.calm = true) (ok : CompOk scope X.env.scope xs (capt.map fun j => X.N.getD j "")) (hcap : ∀ j ∈ capt, j < X.N.length) (hG : ∀ C s H ex, PG (cxComp X xs capt scope C s H ex) tg g) (hgs : Shp xs.length g)
    (hT : ∀ C s H ex, PTs (cxComp X xs capt scope C s H ex) ifs tt) (hE : ∀ C s H ex, PE (cxComp X xs capt scope C s H ex) elt te)
    (I2 : Inv X pins σ H2 s2) (T : Turn X.prog X.w X.K tg J fp it tn) (st2 : tn 0 s2.heap) (f2 : ∀ b ∈ fp, FpOk X pins H2 b)
    (Fin : List V → Hp → Prop) (hW : CompG J xs.length (capt.map fun j => (σ[j]?).join) g tt te H2 Fin)
    (hRR : ∀ D C s' ys H' oc, H' D = none → Fin ys H' → Inv X pins σ (upd H' D (.lst ys)) s' → s'.heap.get? C = some oc → (∃ m, s'.heap.Ns C m) → C ≠ D → H' C = none → C ≠ X.env.locals → C ∉ frs X.stack → X.s₀.heap.objs.size ≤ C → (∀ y c, X.env.cells.lookup y = some c → c ≠ C) → (∀ p ∈ X.pn ++ pins, p.1 ≠ C) →
      (∀ v, oc.data ≠ .cell v) → RR (.ref D) C (.ok .next) s') :
    wpAny (model X.prog X.w) X.A (newList []) (fun acc s₃ => wpAny (model X.prog X.w) X.A (newFunctionEnv scope X.env.globals (clOf X.env scope.names []) [] X.env.qual none .none (some X.env)) (fun cenv s₄ =>
      codeAny (model X.prog X.w) X.A (.compStart (.ListComp elt [⟨tg, iter, ifs, 0⟩] scope pos) 0 (.ref it) acc { cenv with scope := relabel scope X.env }) (RR acc cenv.locals) s₄) X.xe s₃) X.xe s2 := by
  refine wpAny_newObj_type (wpAny_newFunctionEnv ok.cell (by intro y hy; simp at hy) (fun h1 hns hsb => ?_) ok.kind)
  dsimp only at hns hsb ⊢
  generalize eH : s2.heap.push { cls := .type "list", dict := none, data := .seq ([] : List Value).toArray } = HH at hns hsb ⊢
  have eH' : HH = s2.heap.push emptyL := eH.symm
  have hsz : HH.objs.size = s2.heap.objs.size + 1 := by rw [eH', Heap.size_push]
  have hfo : ∀ b ∈ fp, ∃ o, s2.heap.get? b = some o := fun b hb => let ⟨o, ho, _⟩ := T.obj 0 _ st2 b hb; ⟨o, ho⟩
  have flt : ∀ b ∈ fp, b < s2.heap.objs.size := fun b hb => let ⟨o, ho⟩ := hfo b hb; Heap.lt_size ho
  have keep1 : ∀ b o, s2.heap.get? b = some o → h1.get? b = some o := fun b o e =>
    hsb.extBut b o (Nat.ne_of_lt (Nat.lt_of_lt_of_le (Heap.lt_size e) (show s2.heap.objs.size ≤ HH.objs.size by omega))) (Heap.get?_push_of_some _ (by rw [eH']; exact Heap.get?_push_of_some _ e))
  have I4 := comp_inv (t := s2.toks + ([] : List (Str × Value)).length) I2 ok hcap f2 hfo eH' hns hsb
  have st4 : tn 0 h1 := T.keep 0 _ _ st2 fun b _ o e => keep1 b o e
  obtain ⟨W, ⟨m0, w0⟩, turn⟩ := hW
  generalize hX : cxComp X xs capt scope HH.objs.size { s2 with heap := HH } H2 (s2.heap.objs.size :: fp) = Y at I4
  have eProg : Y.prog = X.prog := by rw [← hX]; rfl
  have eW : Y.w = X.w := by rw [← hX]; rfl
  have eK : Y.K = X.K := by rw [← hX]; rfl
  have eA : Y.A = X.A := by rw [← hX]; rfl
  have eEnv : Y.env = compEnvC scope (clOf X.env scope.names []) HH.objs.size X.env := by rw [← hX]; rfl
  have eXe : Y.xe = X.xe := by rw [← hX]; rfl
  have eCalm : Y.calm = true := by rw [← hX]; exact hc
  have ePn : Y.pn = [] := by rw [← hX]; rfl
  have eEx : Y.ex = s2.heap.objs.size :: fp := by rw [← hX]; rfl
  have eFs : Y.fs = frs X.stack := by rw [← hX]; rfl
  have hT' : PTs Y ifs tt := by rw [← hX]; exact hT _ _ _ _
  have hE' : PE Y elt te := by rw [← hX]; exact hE _ _ _ _
  have hG' : PG Y tg g := by rw [← hX]; exact hG _ _ _ _
  have eH0 : Y.H₀ = H2 := by rw [← hX]; rfl
  have eS0 : Y.s₀ = { s2 with heap := HH } := by rw [← hX]; rfl
  have eL : Y.env.locals = HH.objs.size := by rw [eEnv]; rfl
  have ecl : Y.env.cells = clOf X.env scope.names [] := by rw [eEnv]; rfl
  have look : ∀ y c, (clOf X.env scope.names []).lookup y = some c → X.env.cells.lookup y = some c := fun y c e => by
    rw [clOf_lookup] at e
    split at e
    · rename_i ha
      obtain ⟨p, hp, hq⟩ := List.any_eq_true.mp ha
      simp only [Bool.and_eq_true, beq_iff_eq] at hq
      obtain ⟨q1, q2⟩ := hq
      subst q1
      obtain ⟨c', hc'⟩ := I2.ok.has p.1 (.inl (ok.free p.1 p.2 hp q2))
      rw [hc'] at e ⊢
      exact e
    · cases e
  have fpOk : ∀ {pins' : List (Addr × Obj)} {H' : Hp}, (∀ b ∈ fp, H' b = none) → (∀ p ∈ pins', p.1 ∉ fp) → ∀ b ∈ fp, FpOk Y pins' H' b := fun {pins' H'} hn hp b hb => by
    have hlt := flt b hb
    refine ⟨hn b hb, by rw [eL]; exact Nat.ne_of_lt (Nat.lt_of_lt_of_le hlt (show s2.heap.objs.size ≤ HH.objs.size by omega)), ?_, .inl (by rw [eEx]; exact List.mem_cons_of_mem _ hb), fun y c e => (f2 b hb).2.2.2.2.1 y c (look y c (by rw [← ecl]; exact e)), fun p hpp z => ?_⟩
    · rw [eFs]
      intro q
      rcases List.mem_cons.mp (I2.stkSub b q) with e | e
      · exact (f2 b hb).2.1 e
      · exact (f2 b hb).2.2.1 e
    · rw [ePn, List.nil_append] at hpp
      exact hp p hpp (by rw [z]; exact hb)
  have Dnf : s2.heap.objs.size ∉ fp := fun z => absurd (flt _ z) (Nat.lt_irrefl _)
  have loop : codeAny (model X.prog X.w) X.A (.compLoop (.ListComp elt [⟨tg, iter, ifs, 0⟩] scope pos) 0 (.ref it) (.ref s2.heap.objs.size) Y.env) (RR (.ref s2.heap.objs.size) HH.objs.size) { s2 with heap := h1, toks := s2.toks + ([] : List (Str × Value)).length } := by
    refine compLoop_own (fun n s' => ∃ i ys its k os H', Inv Y [(s2.heap.objs.size, { cls := .type "list", data := .seq its.toArray k })] (os ++ capt.map fun j => (σ[j]?).join) H' s' ∧ os.length = xs.length ∧ Vals ys its ∧ ys.length ≤ sizeLine ∧ tn i s'.heap ∧ (∀ b ∈ fp, H' b = none) ∧ W i n ys H') ?_ m0
      ⟨0, [], [], 0, _, H2, I4, List.length_replicate, .nil, Nat.zero_le _, st4, fun b hb => (f2 b hb).1, w0⟩
    rintro n s3 ⟨i, ys, its, k, os, H3, I3, hos, rv, hys, st3, fr3, w3⟩
    have noErr : ∀ {e : Value} {s : Shared}, X.xe e s → notedBy (model X.prog X.w) X.A Y.env (fun e s' => RR (.ref s2.heap.objs.size) HH.objs.size (.error e) s') e s := fun {e s} z => (hx0 e s z).elim
    have pinD := I3.pin (s2.heap.objs.size, { cls := .type "list", data := .seq its.toArray k }) (by simp)
    have fp3 := fpOk (pins' := [(s2.heap.objs.size, { cls := .type "list", data := .seq its.toArray k })]) fr3 (by simpa using Dnf)
    rcases turn i n ys H3 w3 with ⟨stop, fin⟩ | ⟨go, hlt, N, hN, step⟩
    · -- it stops
      have d := T.done Y eProg eW eK eCalm i _ s3 _ H3 X.xe I3 fp3 st3 stop
      rw [eA] at d
      refine wpAny_mono d (fun r s4 ⟨hr, I4'⟩ => ?_) fun e s z => noErr z
      subst hr
      show RR (.ref s2.heap.objs.size) HH.objs.size (.ok .next) s4
      have pinD4 := I4'.pin (s2.heap.objs.size, { cls := .type "list", data := .seq its.toArray k }) (by simp)
      obtain ⟨mC, nsC, _⟩ := I4'.loc
      rw [eL] at nsC
      obtain ⟨oC, esC, epC, hoC, hdC, _⟩ := id nsC
      have base4 := I4'.base
      rw [eFs, eEx, eH0, eS0] at base4
      have hCn : H3 HH.objs.size = none := by rw [← eL]; exact I4'.free
      refine hRR s2.heap.objs.size HH.objs.size s4 ys H3 oC pinD4.2.1 fin ?_ hoC ⟨mC, nsC⟩ (Nat.ne_of_gt (show s2.heap.objs.size < HH.objs.size by omega)) hCn (Nat.ne_of_gt (Nat.lt_of_lt_of_le I2.lt (show s2.heap.objs.size ≤ HH.objs.size by omega))) (I2.stk_lt (by omega)) (by have := I2.sz; omega) (fun y c e z => ?_) (fun p hp z => ?_) (fun v z => by rw [hdC] at z; cases z)
      · have hok4 := I4'.hok
        rw [eProg, eW] at hok4
        have hbl : ∀ b ob, s2.heap.get? b = some ob → b ∉ fp → HH.get? b = some ob ∧ b ∉ s2.heap.objs.size :: fp := fun b ob e hm =>
          ⟨by rw [eH']; exact Heap.get?_push_of_some _ e, fun z => (List.mem_cons.mp z).elim (fun q => absurd (Heap.lt_size e) (by rw [q]; exact Nat.lt_irrefl _)) hm⟩
        refine I2.call' (ch := fp) (by rw [I4'.os, eS0]) ⟨fun b ob e nn hb hx => ?_, fun b ob e nn hb hx => ?_, fun b ob e nn hx => ?_, fun b ob e hx => ?_, fun b xs e => ?_, fun b ob u e => ?_, fun b ps e => ?_⟩ (HOk.track hok4 pinD4.2.1 ⟨hys, its, k, rv, pinD4.1⟩) I4'.bare fun b hb => ⟨(f2 b hb).2.2.2.1, (f2 b hb).2.1, (f2 b hb).2.2.2.2.1, (f2 b hb).2.2.2.2.2⟩
        · obtain ⟨h1', h2'⟩ := hbl b ob e hx
          exact base4.keep b ob h1' nn hb h2'
        · obtain ⟨h1', h2'⟩ := hbl b ob e hx
          exact base4.slot b ob h1' nn hb h2'
        · obtain ⟨h1', h2'⟩ := hbl b ob e hx
          rw [upd_ne (Nat.ne_of_lt (Heap.lt_size e))]
          exact base4.free b ob h1' nn h2'
        · obtain ⟨h1', h2'⟩ := hbl b ob e hx
          exact base4.there b ob h1' h2'
        · have q := base4.tups b xs e
          rw [upd_ne (ne_of_none q pinD4.2.1)]
          exact q
        · have q := base4.frzs b ob u e
          rw [upd_ne (ne_of_none q pinD4.2.1)]
          exact q
        · obtain ⟨more, q⟩ := base4.tbls b ps e
          exact ⟨more, by rw [upd_ne (ne_of_none q pinD4.2.1)]; exact q⟩
      · obtain ⟨v, hv⟩ := I2.cell y c e
        have := hv.lt
        rw [z] at this
        exact absurd this (Nat.not_lt.mpr (show s2.heap.objs.size ≤ HH.objs.size by omega))
      · have := Heap.lt_size (I2.pin p hp).1
        rw [z] at this
        exact absurd this (Nat.not_lt.mpr (show s2.heap.objs.size ≤ HH.objs.size by omega))
    · -- one turn
      have d := T.item Y eProg eW eK eCalm i _ s3 _ H3 X.xe I3 fp3 st3 go
      rw [eA] at d
      refine wpAny_mono d (fun r s4 ⟨u, hr, h4⟩ => ?_) fun e s z => noErr z
      subst hr
      refine wpAny_mono h4 (fun _ s5 ⟨v, H5, I5, r5, y5, st5, fr5⟩ => ?_) fun e s z => noErr z
      have fp5 := fpOk (pins' := [(s2.heap.objs.size, { cls := .type "list", data := .seq its.toArray k })]) fr5 (by simpa using Dnf)
      have I5' := I5.pinned fp5 (T.obj _ _ st5)
      have pg' := hG' _ s5 _ H5 v u _ I5' r5 (hgs v os _ H5 _ hos (step v H5 y5 os hos))
      rw [eProg, eW, eA, eXe] at pg'
      refine wpAny_mono pg' (fun _ s6 ⟨σ6, H6, I6, ⟨os6, hos6, e6⟩, q6⟩ => ?_) fun e s z => noErr z
      subst e6
      have t6 := hT' _ s6 _ H6 _ I6 q6
      rw [eProg, eW, eA, eXe] at t6
      refine wpAny_mono t6 (fun b s7 ⟨H7, I7, q7⟩ => ?_) fun e s z => noErr z
      have ntn : ∀ {σ' : St} {H' : Hp} {s' : Shared}, Inv Y ([(s2.heap.objs.size, { cls := .type "list", data := .seq its.toArray k })] ++ pinsAt fp s5.heap) σ' H' s' → tn (i + 1) s'.heap ∧ ∀ b ∈ fp, H' b = none := fun {σ' H' s'} J' => by
        refine ⟨T.keep _ _ _ st5 fun b hb o e => (J'.pin (b, o) (List.mem_append_right _ (List.mem_append_right _ (mem_pinsAt hb e)))).1, fun b hb => ?_⟩
        obtain ⟨o, e, _⟩ := T.obj _ _ st5 b hb
        exact (J'.pin (b, o) (List.mem_append_right _ (List.mem_append_right _ (mem_pinsAt hb e)))).2.1
      cases b with
      | false =>
        rw [if_neg Bool.false_ne_true] at q7
        obtain ⟨m', hm, w7⟩ := hN _ _ q7
        rw [if_neg Bool.false_ne_true]
        exact ⟨m', hm, i + 1, ys, its, k, os6, H7, I7.unpinned, hos6, rv, hys, (ntn I7).1, (ntn I7).2, w7⟩
      | true =>
        rw [if_pos rfl] at q7
        rw [if_pos rfl]
        have e7 := hE' _ s7 _ H7 _ I7 q7
        rw [eProg, eW, eA, eXe] at e7
        refine wpAny_mono e7 (fun uy s8 ⟨y, H8, I8, r8, n8⟩ => ?_) fun e s z => noErr z
        obtain ⟨m', hm, w8⟩ := hN _ _ n8
        have pin8 := I8.pin (s2.heap.objs.size, { cls := .type "list", data := .seq its.toArray k }) (by simp)
        have hlen : ys.length = its.length := rv.length
        refine wpAny_list_append_plain (hsz := by rw [List.size_toArray]; omega) ⟨k, pin8.1⟩ fun h9 ⟨k9, hl9⟩ hs9 => ?_
        have hk9 : ∀ b o, b ≠ s2.heap.objs.size → s8.heap.get? b = some o → h9.get? b = some o := fun b o hb e => (hs9.2 b hb).trans e
        have I8u : Inv Y (pinsAt fp s5.heap) (os6 ++ capt.map fun j => (σ[j]?).join) H8 s8 := I8.pins_of fun p hp => I8.pin p (List.mem_append_right _ (List.mem_append_right _ hp))
        have I9 : Inv Y (pinsAt fp s5.heap) (os6 ++ capt.map fun j => (σ[j]?).join) H8 { s8 with heap := h9, toks := s8.toks } := I8u.turned (it := s2.heap.objs.size) hk9 pin8.2.1 (by rw [eL]; exact Nat.ne_of_lt (show s2.heap.objs.size < HH.objs.size by omega)) (.inl (by rw [eEx]; exact List.mem_cons_self))
          (fun y c e z => by
            rw [ecl] at e
            obtain ⟨v', hv⟩ := I2.cell y c (look y c e)
            have := hv.lt
            rw [z] at this
            exact absurd this (Nat.lt_irrefl _))
          (fun p hp z => by
            rw [ePn, List.nil_append] at hp
            exact Dnf (by rw [← z]; exact (of_pinsAt hp).1))
        have hl9' : h9.get? s2.heap.objs.size = some { cls := .type "list", data := .seq (its ++ [uy]).toArray k9 } := by
          rw [hl9]; simp
        refine ⟨m', hm, i + 1, ys ++ [y], its ++ [uy], k9, os6, H8, I9.pins_of fun p hp => ?_, hos6, rv.append (.cons r8 .nil), ?_, ?_, (ntn I8).2, w8⟩
        · have hp' : p = (s2.heap.objs.size, { cls := .type "list", data := .seq (its ++ [uy]).toArray k9 }) := by simpa using hp
          subst hp'
          exact ⟨hl9', pin8.2.1, pin8.2.2.1, pin8.2.2.2.1, fun v z => by cases z⟩
        · rw [List.length_append, List.length_singleton]; omega
        · refine T.keep _ _ _ (ntn I8).1 fun b hb o e => hk9 b o (fun z => Dnf (by rw [← z]; exact hb)) e
  rw [eEnv] at loop
  refine codeAny_compStart_list ?_ ?_
  · exact loop
  · exact T.self _ 0 _ _ _ st4 loop

theorem pe_compG {elt iter tg : Expr} {g : TG} {ifs : List Expr} {pos : Pos} {wi : TI} {tt : TT} {te : TE} (xs : List Str) (capt : List Nat)
    (hx0 : ∀ e s, ¬ X.xe e s) (hc : X.calm = true) (hi : PI X tg iter wi) (hG : ∀ C s H ex, PG (cxComp X xs capt scope C s H ex) tg g) (hgs : Shp xs.length g)
    (hT : ∀ C s H ex, PTs (cxComp X xs capt scope C s H ex) ifs tt) (hE : ∀ C s H ex, PE (cxComp X xs capt scope C s H ex) elt te)
    (hk : compOk scope X.env.scope xs (capt.map fun j => X.N.getD j "") = true) (hcap : ∀ j ∈ capt, j < X.N.length)
    (hs : ∀ y, foldedSetIterable iter X.env y = pure y := by intro _; rfl) : PE X (.ListComp elt [⟨tg, iter, ifs, 0⟩] scope pos) (tCompG xs.length g capt wi tt te) := by
  intro pins s σ H Q I h
  have ok := compOk.mk hk
  rw [eval_ListComp]
  refine wpAny_comprehension_free (use := none) (cl := clOf X.env scope.names []) rfl hs (closure_clOf fun n k hm hf => ?_) ok.kind ok.names (thn (hi pins s σ H _ I h) fun xv s1 h1 => thn h1 fun itv s2 h2 => ?_)
  · obtain ⟨c, e⟩ := I.ok.has n (.inl (ok.free n k hm (by simpa using hf)))
    rw [e]; rfl
  · obtain ⟨it, fp, tn, J, H2, e, I2, T, st2, f2, hW⟩ := h2
    subst e
    refine comp_block (RR := fun acc C => compPost (model X.prog X.w) X.A X.xe none (EP X pins σ Q) acc C) hx0 hc ok hcap hG hgs hT hE I2 T st2 f2 (fun ys H => ∀ l, H l = none → Q (.ref l) (upd H l (.lst ys))) hW ?_
    intro D C s' ys H' oc hD fin I' hC ⟨m, hns⟩ hCD hCn hL _ hsz hcl hpn _
    refine ⟨m, hns, fun h' hsb => ⟨.ref D, _, I'.turned (t' := s'.toks) (it := C) (fun b o hb e => (hsb.2 b hb).trans e) (by rw [upd_ne hCD]; exact hCn) hL (.inr hsz) hcl hpn, rfl, fin D hD⟩⟩

/-- y = [..]: the list is stored ahead of the block's end -/
theorem ps_compG {elt iter tg : Expr} {g : TG} {py : Pos} {ifs : List Expr} {pos spos : Pos} {wi : TI} {tt : TT} {te : TE} {i : Nat} {y : Str} (xs : List Str) (capt : List Nat)
    (hN : X.N.Nodup) (hiy : X.N[i]? = some y) (hy : Loc X.env.scope y)
    (hx0 : ∀ e s, ¬ X.xe e s) (hc : X.calm = true) (hi : PI X tg iter wi) (hG : ∀ C s H ex, PG (cxComp X xs capt scope C s H ex) tg g) (hgs : Shp xs.length g)
    (hT : ∀ C s H ex, PTs (cxComp X xs capt scope C s H ex) ifs tt) (hE : ∀ C s H ex, PE (cxComp X xs capt scope C s H ex) elt te)
    (hk : compOk scope X.env.scope xs (capt.map fun j => X.N.getD j "") = true) (hcap : ∀ j ∈ capt, j < X.N.length)
    (hsw : swapsWith (.ListComp elt [⟨tg, iter, ifs, 0⟩] scope pos) (some (.Name y py)) spos.line X.env = pure true)
    (hs : ∀ y, foldedSetIterable iter X.env y = pure y := by intro _; rfl) (hf : X.fn y = true ∨ X.env.scope.names.lookup y = some .local := by first | exact .inl rfl | exact .inr rfl | assumption) :
    PS X (.Assign [.Name y py] (.ListComp elt [⟨tg, iter, ifs, 0⟩] scope pos) spos) (tAsg (tCompG xs.length g capt wi tt te) (gName i)) := by
  intro pins s σ H D0 I h
  have ok := compOk.mk hk
  rw [exec_Assign_Name_used _ _ _ _ hsw]
  refine wpAny_bind (wpAny_standAt (wpAny_bind ?_))
  show wpAny _ X.A (do let _ ← comprehension (.ListComp elt [⟨tg, iter, ifs, 0⟩] scope pos) scope X.env _ (newList []) false (eval iter X.env) (some (assign (.Name y py) X.env))) _ _ s
  refine wpAny_bind (wpAny_mono (wpAny_comprehension_free (use := some (assign (.Name y py) X.env)) (cl := clOf X.env scope.names []) (Q := fun _ s' => SP X pins D0 .next s') rfl hs (closure_clOf fun n k hm hf => ?_) ok.kind ok.names (thn (hi pins s σ H _ I h) fun xv s1 h1 => thn h1 fun itv s2 h2 => ?_))
    (fun _ s' hq => wpAny_pure (wpAny_pure hq)) fun _ _ e => e)
  · obtain ⟨c, e⟩ := I.ok.has n (.inl (ok.free n k hm (by simpa using hf)))
    rw [e]; rfl
  · obtain ⟨it, fp, tn, J, H2, e, I2, T, st2, f2, hW⟩ := h2
    subst e
    refine comp_block (RR := fun acc C => compPost (model X.prog X.w) X.A X.xe (some (assign (.Name y py) X.env)) (fun _ s' => SP X pins D0 .next s') acc C) hx0 hc ok hcap hG hgs hT hE I2 T st2 f2 (fun ys H => ∀ l, H l = none → gName i (.ref l) σ (upd H l (.lst ys)) D0.nx) hW ?_
    intro D C s' ys H' oc hD fin I' hC ⟨m, hns⟩ hCD hCn hL hst hsz hcl hpn hnc
    show wpAny _ _ (assign (.Name y py) X.env (.ref D)) _ _ s'
    have hCf : C ∉ X.fs := fun z => by
      rcases I'.ok.stk with e | ⟨e, _⟩
      · exact hst (by rw [e]; exact z)
      · refine hst ?_
        rw [e]
        unfold frs
        rw [List.filterMap_cons]
        split
        · exact z
        · exact List.mem_cons_of_mem _ z
    have Ip : Inv X (pins ++ [(C, oc)]) σ (upd H' D (.lst ys)) s' := I'.pins_of fun p hp => (List.mem_append.mp hp).elim (fun z => I'.pin p (List.mem_append_right _ z)) fun z => by
      have z' : p = (C, oc) := by simpa using z
      subst z'
      exact ⟨hC, by rw [upd_ne hCD]; exact hCn, hL, hCf, hnc⟩
    have pg := pg_name (X := X) (i := i) (x := y) (pos := py) hN hiy hy hf
    refine thn (pg _ s' σ _ (.ref D) (.ref D) (fun σ' H'' => D0.nx σ' H'' ∧ H'' = upd H' D (.lst ys)) Ip rfl ⟨fin D hD, rfl⟩) fun _ s'' ⟨σ', H'', I'', q, eH⟩ => ?_
    subst eH
    have pC := I''.pin (C, oc) (by simp)
    obtain ⟨o, es, ep, ho, r⟩ := hns
    rw [hC] at ho
    cases ho
    refine ⟨m, ⟨oc, es, ep, pC.1, r⟩, fun h' hsb => ?_⟩
    have Iu : Inv X pins σ' (upd H' D (.lst ys)) s'' := I''.pins_of fun p hp => I''.pin p (List.mem_append_right _ (List.mem_append_left _ hp))
    exact ⟨σ', _, Iu.turned (t' := s''.toks) (it := C) (fun b o hb e => (hsb.2 b hb).trans e) pC.2.1 hL (.inr hsz) hcl hpn, q⟩
theorem pe_comp {elt iter : Expr} {x : Str} {px : Pos} {ifs : List Expr} {pos : Pos} {wi : TI} {tt : TT} {te : TE} (capt : List Nat)
    (hx0 : ∀ e s, ¬ X.xe e s) (hc : X.calm = true) (hi : PI X (.Name x px) iter wi)
    (hT : ∀ C s H ex, PTs (cxComp X [x] capt scope C s H ex) ifs tt) (hE : ∀ C s H ex, PE (cxComp X [x] capt scope C s H ex) elt te)
    (hk : compOk scope X.env.scope [x] (capt.map fun j => X.N.getD j "") = true) (hcap : ∀ j ∈ capt, j < X.N.length) (hnd : (x :: capt.map fun j => X.N.getD j "").Nodup)
    (hs : ∀ y, foldedSetIterable iter X.env y = pure y := by intro _; rfl) : PE X (.ListComp elt [⟨.Name x px, iter, ifs, 0⟩] scope pos) (tComp capt wi tt te) := by
  intro pins s σ H Q I h
  have ok := compOk.mk hk
  rw [eval_ListComp]
  refine wpAny_comprehension_free (use := none) (cl := clOf X.env scope.names []) rfl hs (closure_clOf fun n k hm hf => ?_) ok.kind ok.names (thn (hi pins s σ H _ I h) fun xv s1 h1 => thn h1 fun itv s2 h2 => ?_)
  · obtain ⟨c, e⟩ := I.ok.has n (.inl (ok.free n k hm (by simpa using hf)))
    rw [e]; rfl
  · obtain ⟨it, fp, tn, J, H2, e, I2, T, st2, f2, hW⟩ := h2
    subst e
    refine comp_block (RR := fun acc C => compPost (model X.prog X.w) X.A X.xe none (EP X pins σ Q) acc C) hx0 hc ok hcap (xs := [x]) (g := gName 0) (fun C s H ex => pg_name hnd rfl (.inl (lookup_relabel_local (ok.x x (by simp)))) (.inr (lookup_relabel_local (ok.x x (by simp))))) shp_name hT hE I2 T st2 f2 (fun ys H => ∀ l, H l = none → Q (.ref l) (upd H l (.lst ys))) hW.g ?_
    intro D C s' ys H' oc hD fin I' hC ⟨m, hns⟩ hCD hCn hL _ hsz hcl hpn _
    refine ⟨m, hns, fun h' hsb => ⟨.ref D, _, I'.turned (t' := s'.toks) (it := C) (fun b o hb e => (hsb.2 b hb).trans e) (by rw [upd_ne hCD]; exact hCn) hL (.inr hsz) hcl hpn, rfl, fin D hD⟩⟩

/-- y = [..]: the list is stored ahead of the block's end -/
theorem ps_comp {elt iter : Expr} {x : Str} {px : Pos} {py : Pos} {ifs : List Expr} {pos spos : Pos} {wi : TI} {tt : TT} {te : TE} {i : Nat} {y : Str} (capt : List Nat)
    (hN : X.N.Nodup) (hiy : X.N[i]? = some y) (hy : Loc X.env.scope y)
    (hx0 : ∀ e s, ¬ X.xe e s) (hc : X.calm = true) (hi : PI X (.Name x px) iter wi)
    (hT : ∀ C s H ex, PTs (cxComp X [x] capt scope C s H ex) ifs tt) (hE : ∀ C s H ex, PE (cxComp X [x] capt scope C s H ex) elt te)
    (hk : compOk scope X.env.scope [x] (capt.map fun j => X.N.getD j "") = true) (hcap : ∀ j ∈ capt, j < X.N.length) (hnd : (x :: capt.map fun j => X.N.getD j "").Nodup)
    (hsw : swapsWith (.ListComp elt [⟨.Name x px, iter, ifs, 0⟩] scope pos) (some (.Name y py)) spos.line X.env = pure true)
    (hs : ∀ y, foldedSetIterable iter X.env y = pure y := by intro _; rfl) (hf : X.fn y = true ∨ X.env.scope.names.lookup y = some .local := by first | exact .inl rfl | exact .inr rfl | assumption) :
    PS X (.Assign [.Name y py] (.ListComp elt [⟨.Name x px, iter, ifs, 0⟩] scope pos) spos) (tAsg (tComp capt wi tt te) (gName i)) := by
  intro pins s σ H D0 I h
  have ok := compOk.mk hk
  rw [exec_Assign_Name_used _ _ _ _ hsw]
  refine wpAny_bind (wpAny_standAt (wpAny_bind ?_))
  show wpAny _ X.A (do let _ ← comprehension (.ListComp elt [⟨.Name x px, iter, ifs, 0⟩] scope pos) scope X.env _ (newList []) false (eval iter X.env) (some (assign (.Name y py) X.env))) _ _ s
  refine wpAny_bind (wpAny_mono (wpAny_comprehension_free (use := some (assign (.Name y py) X.env)) (cl := clOf X.env scope.names []) (Q := fun _ s' => SP X pins D0 .next s') rfl hs (closure_clOf fun n k hm hf => ?_) ok.kind ok.names (thn (hi pins s σ H _ I h) fun xv s1 h1 => thn h1 fun itv s2 h2 => ?_))
    (fun _ s' hq => wpAny_pure (wpAny_pure hq)) fun _ _ e => e)
  · obtain ⟨c, e⟩ := I.ok.has n (.inl (ok.free n k hm (by simpa using hf)))
    rw [e]; rfl
  · obtain ⟨it, fp, tn, J, H2, e, I2, T, st2, f2, hW⟩ := h2
    subst e
    refine comp_block (RR := fun acc C => compPost (model X.prog X.w) X.A X.xe (some (assign (.Name y py) X.env)) (fun _ s' => SP X pins D0 .next s') acc C) hx0 hc ok hcap (xs := [x]) (g := gName 0) (fun C s H ex => pg_name hnd rfl (.inl (lookup_relabel_local (ok.x x (by simp)))) (.inr (lookup_relabel_local (ok.x x (by simp))))) shp_name hT hE I2 T st2 f2 (fun ys H => ∀ l, H l = none → gName i (.ref l) σ (upd H l (.lst ys)) D0.nx) hW.g ?_
    intro D C s' ys H' oc hD fin I' hC ⟨m, hns⟩ hCD hCn hL hst hsz hcl hpn hnc
    show wpAny _ _ (assign (.Name y py) X.env (.ref D)) _ _ s'
    have hCf : C ∉ X.fs := fun z => by
      rcases I'.ok.stk with e | ⟨e, _⟩
      · exact hst (by rw [e]; exact z)
      · refine hst ?_
        rw [e]
        unfold frs
        rw [List.filterMap_cons]
        split
        · exact z
        · exact List.mem_cons_of_mem _ z
    have Ip : Inv X (pins ++ [(C, oc)]) σ (upd H' D (.lst ys)) s' := I'.pins_of fun p hp => (List.mem_append.mp hp).elim (fun z => I'.pin p (List.mem_append_right _ z)) fun z => by
      have z' : p = (C, oc) := by simpa using z
      subst z'
      exact ⟨hC, by rw [upd_ne hCD]; exact hCn, hL, hCf, hnc⟩
    have pg := pg_name (X := X) (i := i) (x := y) (pos := py) hN hiy hy hf
    refine thn (pg _ s' σ _ (.ref D) (.ref D) (fun σ' H'' => D0.nx σ' H'' ∧ H'' = upd H' D (.lst ys)) Ip rfl ⟨fin D hD, rfl⟩) fun _ s'' ⟨σ', H'', I'', q, eH⟩ => ?_
    subst eH
    have pC := I''.pin (C, oc) (by simp)
    obtain ⟨o, es, ep, ho, r⟩ := hns
    rw [hC] at ho
    cases ho
    refine ⟨m, ⟨oc, es, ep, pC.1, r⟩, fun h' hsb => ?_⟩
    have Iu : Inv X pins σ' (upd H' D (.lst ys)) s'' := I''.pins_of fun p hp => I''.pin p (List.mem_append_right _ (List.mem_append_left _ hp))
    exact ⟨σ', _, Iu.turned (t' := s''.toks) (it := C) (fun b o hb e => (hsb.2 b hb).trans e) pC.2.1 hL (.inr hsz) hcl hpn, q⟩
end
end L2

set_option Elab.async false
set_option linter.all false
set_option maxRecDepth 100000
/-! More rules over the layer: texts, isinstance, all, join, is True, // by large numbers. -/
namespace L2
open PySem PySem.Spec PyProof.Rows
section
variable {X : Cx}

/-- // by any positive divisor below 2 ** 1000 -/
def bigB : Int := 1645504557321206042154969182557350504982735865633579863348609024
def CDivL (i j : Int) : Prop := 0 < j ∧ j < bigB
theorem log2_lt_of {n k : Nat} (h : n < 2 ^ k) (hk : 0 < k) : n.log2 < k := by
  by_cases h0 : n = 0
  · subst h0; simpa using hk
  · exact (Nat.log2_lt h0).mpr h
theorem op_fdivL : OpR X (binaryOp .FloorDiv) (rI CDivL fun i j => .int (i / j)) := opI fun i j _ _ _ _ _ hc q => by
  have h1 : (0 : Int) < j := hc.1
  have h2 : j < bigB := hc.2
  refine floordiv_int (by omega) (by rw [Int.fdiv_eq_ediv_of_nonneg i (by omega)]; exact q) (.inl (PyProof.noPylong_of_log2 ?_))
  have h3 : j.natAbs < 2 ^ 210 := by
    have e : (2 ^ 210 : Nat) = 1645504557321206042154969182557350504982735865633579863348609024 := by decide
    unfold bigB at h2
    rw [e]
    omega
  exact Nat.lt_of_lt_of_le (log2_lt_of h3 (by decide)) (by decide)

theorem op_le_str : OpR X (compareOp .LtE) (fun x y H Q => ∃ i j, x = .str i ∧ y = .str j ∧ Q (.bl (!decide (j.cps.toList < i.cps.toList))) H) := by
  intro pins s σ H x y v u Q I rx ry h
  obtain ⟨i, j, rfl, rfl, q⟩ := h
  obtain ⟨t, rfl⟩ := rx
  obtain ⟨t', rfl⟩ := ry
  exact PySem.P.le_str (fin_bl I q rfl)
theorem op_gt_str : OpR X (compareOp .Gt) (fun x y H Q => ∃ i j, x = .str i ∧ y = .str j ∧ Q (.bl (decide (j.cps.toList < i.cps.toList))) H) := by
  intro pins s σ H x y v u Q I rx ry h
  obtain ⟨i, j, rfl, rfl, q⟩ := h
  obtain ⟨t, rfl⟩ := rx
  obtain ⟨t', rfl⟩ := ry
  exact PySem.P.gt_str (fin_bl I q rfl)
/-- x is True, x is False: the right side a truth -/
theorem op_isB : OpR X (compareOp .Is) (fun x y H Q => ∃ k, y = .bl k ∧ (∀ a, x ≠ .ref a) ∧ (∀ n, x ≠ .ty n) ∧ Q (.bl (decide (x = .bl k))) H) := by
  intro pins s σ H x y v u Q I rx ry h
  obtain ⟨k, rfl, hr, hty, q⟩ := h
  cases ry
  cases x <;> first
    | (cases rx; refine wpAny_is_plain rfl (fin_bl I q ?_); first | rfl | (rename_i b; cases k <;> cases b <;> rfl) | (cases k <;> simp))
    | (obtain ⟨t, rfl⟩ := rx; refine wpAny_is_plain rfl (fin_bl I q ?_); first | rfl | simp)
    | exact (hr _ rfl).elim
    | exact (hty _ rfl).elim

/-- isinstance(x, T), T a built-in type -/
theorem call_isinst {T : String} : CallR X (.builtin "isinstance") (fun xs H Q => ∃ x t b, xs = [x, .ty T] ∧ TyOf X.K H x t ∧ PySem.W.kitOne X.K t (.type T) = some b ∧ Q (.bl b) H) := by
  intro pins s σ H xs us Q I r h
  obtain ⟨x, t, b, rfl, ty, e, q⟩ := h
  obtain ⟨u, w', rfl, rx, rt⟩ := vals2 r
  cases rt
  exact isinst_ok I rx ty e fun tk => ⟨.bl b, H, I.tok _, rfl, q⟩

/-- all(xs) of truths -/
theorem bools_of {bs : List Bool} : ∀ {us : List Value}, Vals (bs.map V.bl) us → us = bs.map Value.bool := by
  induction bs with
  | nil => intro us r; cases r; rfl
  | cons b bs ih =>
    intro us r
    rw [List.map_cons] at r
    cases r with
    | cons r1 r2 =>
      cases r1
      rw [ih r2, List.map_cons]
theorem call_all : CallR X (.builtin "all") (fun xs H Q => X.calm = true ∧ ∃ (p : Addr) (bs : List Bool), xs = [.ref p] ∧ SqL X.K H p (bs.map V.bl) ∧ Q (.bl (bs.all id)) H) := by
  intro pins s σ H xs us Q I r h
  obtain ⟨hc, p, bs, rfl, hp, q⟩ := h
  obtain ⟨u, rfl, ru⟩ := vals1 r
  cases ru
  obtain ⟨its, rv, pl, hz⟩ := I.list hp
  have e := bools_of rv
  subst e
  have hl := pl.isList
  have hlt : p < s.heap.objs.size := by obtain ⟨_, e, _⟩ := hl; exact Heap.lt_size e
  refine call_all_walk (wpAny_pyIter_list hl ?_)
  refine ⟨s.heap.objs.size, [s.heap.objs.size, p], [s.heap.objs.size], (bs.map Value.bool).toArray.size, _, _, fun i => (bs[i]?).getD true, rfl, Walks.list (A := X.A.in1) (I.ok.hd hc) _ p (Nat.ne_of_lt hlt) (bs.map Value.bool).toArray,
    ⟨⟨_, Heap.get?_push_size _ rfl, rfl, rfl⟩, hl.push _⟩, fun i v s' Q' E' hP hQ => ?_, fun h' tk hk => ?_⟩
  · have hP' : (bs.map Value.bool)[i]? = some v := by simpa using hP
    rw [List.getElem?_map] at hP'
    cases e : bs[i]? with
    | none => rw [e] at hP'; cases hP'
    | some b =>
      rw [e] at hP'
      have ev : Value.bool b = v := Option.some.inj hP'
      subst ev
      simp only [e, Option.getD_some] at hQ
      exact wpAny_truthy_bool hQ
  · have e : ((List.range (bs.map Value.bool).toArray.size).all fun i => (bs[i]?).getD true) = bs.all id := by
      rw [List.size_toArray, List.length_map]
      rw [Bool.eq_iff_iff, List.all_eq_true, List.all_eq_true]
      constructor
      · intro h b hb
        obtain ⟨i, hi, rfl⟩ := List.mem_iff_getElem.mp hb
        have := h i (List.mem_range.mpr hi)
        rw [List.getElem?_eq_getElem hi] at this
        exact this
      · intro h i hi
        have hi' := List.mem_range.mp hi
        rw [List.getElem?_eq_getElem hi']
        exact h _ (List.getElem_mem hi')
    rw [e]
    exact ⟨.bl _, H, I.kept (t' := tk) fun b o eb => hk b o (fun z => by rw [List.mem_singleton.mp z] at eb; exact Nat.lt_irrefl _ (Heap.lt_size eb)) (Heap.get?_push_of_some _ eb), rfl, q⟩

/-- sep.join(xs), a list of texts -/
theorem strs_of {ts : List Str} : ∀ {us : List Value}, Vals (ts.map V.str) us → StrsAre us ts := by
  induction ts with
  | nil => intro us r; cases r; exact .nil
  | cons x xs ih =>
    intro us r
    rw [List.map_cons] at r
    cases r with
    | cons r1 r2 =>
      obtain ⟨t, rfl⟩ := r1
      exact .cons x t (ih r2)
theorem mt_join : MtR X "str.join" (fun x xs H Q => ∃ (sep : Str) (p : Addr) (ts : List Str), x = .str sep ∧ xs = [.ref p] ∧ SqL X.K H p (ts.map V.str) ∧ (ts.map (·.length)).sum + ts.length * sep.length ≤ 16777216 ∧ Q (.str (Txt.join sep ts)) H) := by
  intro pins s σ H x xs v us Q I rx r h
  obtain ⟨sep, p, ts, rfl, rfl, hp, hz, q⟩ := h
  obtain ⟨t, rfl⟩ := rx
  obtain ⟨u, rfl, ru⟩ := vals1 r
  cases ru
  obtain ⟨its, rv, pl, _⟩ := I.list hp
  exact PyProof.Rows.join_list pl.isList (by simpa using strs_of rv) hz fun t' k => ⟨.str _, H, I.tok _, ⟨_, rfl⟩, q⟩
end

/-! ### a text's signs, one by one -/
def Its (x : Str) : It := ⟨fun i _ => i < x.cps.size, fun i H v H' => H' = H ∧ ∃ c, x.cps[i]? = some c ∧ v = .str ⟨#[c]⟩, fun i _ => i = x.cps.size⟩
theorem turn_str {P : Program} {w : World} {K : PySem.W.Frag} {tg : Expr} {it : Addr} {x : Str} {t : Tok} {T : String}
    (hT : ["enumerate", "zip", "dict_itemiterator", "dict_reverseitemiterator", "odict_iterator", "itertools.zip_longest", "itertools.pairwise"].contains T = false)
    (W : ∀ A' : Around, A'.handled = none → Walks P w A' it [it] [it] x.cps.size (SignAt x) (fun i h => h.IsStrIter it T x t i))
    (hself : ∀ (A : Around) (i : Nat) (s : Shared) (Q : Value → Shared → Prop) (E : Value → Shared → Prop), s.heap.IsStrIter it T x t i → Q (.ref it) s → wpAny (model P w) A (pyIter (.ref it)) Q E s) :
    Turn P w K tg (Its x) [it] it (fun i h => h.IsStrIter it T x t i) where
  mem := by simp
  obj := fun i h st b hb => by
    have e : b = it := by simpa using hb
    subst e
    obtain ⟨o, e, c, d⟩ := st
    exact ⟨o, e, fun v z => by rw [d] at z; cases z⟩
  keep := fun i h h' st k => by
    obtain ⟨o, e, c, d⟩ := st
    exact ⟨o, k it (by simp) o e, c, d⟩
  item := by
    intro X hP hw hK hc i pins s σ H E I hf st hg
    subst hP hw hK
    obtain ⟨f0, f1, f2, f3, f4, f5⟩ := hf it (by simp)
    refine (W X.A (I.ok.hd hc)).item i s _ E hg st fun v h' tk hv st' hk => ?_
    obtain ⟨c, u, hcx, rfl⟩ := hv
    have I1 : Inv X pins σ H { s with heap := h', toks := tk } := I.turned (t' := tk) (fun b o hb e => hk b o (by simpa using hb) e) f0 f1 f3 f4 f5
    obtain ⟨o, e, c', d⟩ := id st'
    exact ⟨_, rfl, go_of (s := { s with heap := h', toks := tk }) e c' d hT ⟨.str ⟨#[c]⟩, H, I1, ⟨u, rfl⟩, ⟨rfl, c, hcx, rfl⟩, st', fun b hb => (hf b hb).1⟩⟩
  done := by
    intro X hP hw hK hc i pins s σ H E I hf st hg
    subst hP hw hK
    obtain ⟨f0, f1, f2, f3, f4, f5⟩ := hf it (by simp)
    have hg' : i = x.cps.size := hg
    subst hg'
    exact (W X.A (I.ok.hd hc)).done s _ E st fun h' tk hk => ⟨rfl, I.turned (t' := tk) (fun b o hb e => hk b o (by simpa using hb) e) f0 f1 f3 f4 f5⟩
  self := fun A i s Q E st h => hself A i s Q E st h
def iStr (tl : TE) : TI := fun σ H R => tl σ H fun x H1 => ∃ z, x = .str z ∧ R (Its z) H1
theorem pi_str {X : Cx} {tg l : Expr} {tl : TE} (hl : PE X l tl) : PI X tg l (iStr tl) := by
  intro pins s σ H R I h
  refine thn (hl pins s σ H _ I h) fun v s1 ⟨x, H1, I1, r1, z, ex, q⟩ => ?_
  subst ex
  obtain ⟨t, rfl⟩ := r1
  have hn : H1 s1.heap.objs.size = none := I1.hok.fresh (Nat.le_refl _)
  have hfp : ∀ b ∈ [s1.heap.objs.size], FpOk X pins H1 b := fun b hb => by
    have e : b = s1.heap.objs.size := by simpa using hb
    subst e
    exact I1.fpOk (Nat.le_refl _) hn
  cases ha : z.cps.all (· < 128)
  · refine wpAny_pyIter_wide ha ?_
    exact ⟨s1.heap.objs.size, [s1.heap.objs.size], _, Its z, H1, rfl, I1.kept (t' := s1.toks) (fun b u e => Heap.get?_push_of_some _ e), turn_str (T := "str_iterator") (t := t) (by decide) (fun A' hA => Walks.strWide hA _ z t) (fun A i s Q E st hQ => wpAny_pyIter_striter_wide st hQ),
      ⟨_, Heap.get?_push_size _ rfl, rfl, rfl⟩, hfp, q⟩
  · refine wpAny_pyIter_ascii ha ?_
    exact ⟨s1.heap.objs.size, [s1.heap.objs.size], _, Its z, H1, rfl, I1.kept (t' := s1.toks) (fun b u e => Heap.get?_push_of_some _ e), turn_str (T := "str_ascii_iterator") (t := t) (by decide) (fun A' hA => Walks.strAscii hA _ z t) (fun A i s Q E st hQ => wpAny_pyIter_striter_ascii st hQ),
      ⟨_, Heap.get?_push_size _ rfl, rfl, rfl⟩, hfp, q⟩
/-- for c in text -/
theorem for_str {z : Str} {g : TG} {tb : TS} {D : Ends} {σ : St} {H : Hp} (Pv : Nat → St → Hp → Prop) (h0 : Pv 0 σ H)
    (hs : ∀ i c σ H, z.cps[i]? = some c → Pv i σ H → g (.str ⟨#[c]⟩) σ H fun σ2 H2 => tb { D with nx := Pv (i + 1), ct := Pv (i + 1), bk := D.nx } σ2 H2) (hd : ∀ σ H, Pv z.cps.size σ H → D.nx σ H) :
    ∃ W : Nat → Nat → St → Hp → Prop, (∃ m, W 0 m σ H) ∧ ∀ i m σ H, W i m σ H →
      ((Its z).stop i H ∧ D.nx σ H) ∨ ((Its z).go i H ∧ ∃ N : St → Hp → Prop, (∀ σ' H', N σ' H' → ∃ m', m' < m ∧ W (i + 1) m' σ' H') ∧ ∀ x H', (Its z).yld i H x H' → g x σ H' fun σ2 H2 => tb { D with nx := N, ct := N, bk := D.nx } σ2 H2) := by
  refine ⟨fun i m σ H => m = z.cps.size - i ∧ i ≤ z.cps.size ∧ Pv i σ H, ⟨z.cps.size, by simp, Nat.zero_le _, h0⟩, ?_⟩
  rintro i m σ H ⟨rfl, hi, p⟩
  by_cases hlt : i < z.cps.size
  · refine .inr ⟨hlt, Pv (i + 1), fun σ' H' p' => ⟨z.cps.size - (i + 1), by omega, rfl, hlt, p'⟩, fun x H' y => ?_⟩
    obtain ⟨e, c, hc, rfl⟩ := y
    subst e
    exact hs i c σ _ hc p
  · have e : i = z.cps.size := by omega
    subst e
    exact .inl ⟨rfl, hd σ H p⟩

/-! ### comprehensions by an invariant over the turn -/
section
variable {S : V → St} {tt : TT} {te : TE} {H : Hp} {Fin : List V → Hp → Prop}
theorem comp_range {lo : Int} {n : Nat} (Pv : Nat → List V → Hp → Prop) (h0 : Pv 0 [] H) (hz : ∀ i ys H, i < n → Pv i ys H → ys.length < sizeLine)
    (hs : ∀ i ys H, i < n → Pv i ys H → tt (S (.int (lo + i))) H fun b H2 => if b = true then te (S (.int (lo + i))) H2 fun y H3 => Pv (i + 1) (ys ++ [y]) H3 else Pv (i + 1) ys H2)
    (hd : ∀ ys H, Pv n ys H → Fin ys H) : CompW (Itr lo n) S tt te H Fin := by
  refine ⟨fun i m ys H => m = n - i ∧ i ≤ n ∧ Pv i ys H, ⟨n, by simp, Nat.zero_le _, h0⟩, ?_⟩
  rintro i m ys H ⟨rfl, hi, p⟩
  by_cases hlt : i < n
  · refine .inr ⟨hlt, hz i ys H hlt p, Pv (i + 1), fun ys' H' p' => ⟨n - (i + 1), by omega, rfl, hlt, p'⟩, fun x H' y => ?_⟩
    obtain ⟨e, y⟩ := y
    subst e y
    exact hs i ys _ hlt p
  · have e : i = n := by omega
    subst e
    exact .inl ⟨Nat.le_refl _, hd ys H p⟩
theorem comp_list {K : PySem.W.Frag} {a : Addr} {xs : List V} (Pv : Nat → List V → Hp → Prop) (h0 : Pv 0 [] H) (hl : ∀ i ys H, i ≤ xs.length → Pv i ys H → SqL K H a xs) (hz : ∀ i ys H, i < xs.length → Pv i ys H → ys.length < sizeLine)
    (hs : ∀ i x ys H, xs[i]? = some x → Pv i ys H → tt (S x) H fun b H2 => if b = true then te (S x) H2 fun y H3 => Pv (i + 1) (ys ++ [y]) H3 else Pv (i + 1) ys H2)
    (hd : ∀ ys H, Pv xs.length ys H → Fin ys H) : CompW (Itl K a) S tt te H Fin := by
  refine ⟨fun i m ys H => m = xs.length - i ∧ i ≤ xs.length ∧ Pv i ys H, ⟨xs.length, by simp, Nat.zero_le _, h0⟩, ?_⟩
  rintro i m ys H ⟨rfl, hi, p⟩
  have q := hl i ys H hi p
  by_cases hlt : i < xs.length
  · refine .inr ⟨⟨xs, xs[i], q, by simp [hlt]⟩, hz i ys H hlt p, Pv (i + 1), fun ys' H' p' => ⟨xs.length - (i + 1), by omega, rfl, hlt, p'⟩, fun x H' y => ?_⟩
    obtain ⟨e, y⟩ := y
    subst e
    exact hs i x ys _ (y xs q) p
  · have e : i = xs.length := by omega
    subst e
    exact .inl ⟨⟨xs, q, Nat.le_refl _⟩, hd ys H p⟩
theorem comp_tup {K : PySem.W.Frag} {a : Addr} {xs : List V} (Pv : Nat → List V → Hp → Prop) (h0 : Pv 0 [] H) (hl : ∀ i ys H, i ≤ xs.length → Pv i ys H → SqT K H a xs) (hz : ∀ i ys H, i < xs.length → Pv i ys H → ys.length < sizeLine)
    (hs : ∀ i x ys H, xs[i]? = some x → Pv i ys H → tt (S x) H fun b H2 => if b = true then te (S x) H2 fun y H3 => Pv (i + 1) (ys ++ [y]) H3 else Pv (i + 1) ys H2)
    (hd : ∀ ys H, Pv xs.length ys H → Fin ys H) : CompW (Itt K a) S tt te H Fin := by
  refine ⟨fun i m ys H => m = xs.length - i ∧ i ≤ xs.length ∧ Pv i ys H, ⟨xs.length, by simp, Nat.zero_le _, h0⟩, ?_⟩
  rintro i m ys H ⟨rfl, hi, p⟩
  have q := hl i ys H hi p
  by_cases hlt : i < xs.length
  · refine .inr ⟨⟨xs, xs[i], q, by simp [hlt]⟩, hz i ys H hlt p, Pv (i + 1), fun ys' H' p' => ⟨xs.length - (i + 1), by omega, rfl, hlt, p'⟩, fun x H' y => ?_⟩
    obtain ⟨e, y⟩ := y
    subst e
    exact hs i x ys _ (y xs q) p
  · have e : i = xs.length := by omega
    subst e
    exact .inl ⟨⟨xs, q, Nat.le_refl _⟩, hd ys H p⟩
theorem comp_str {z : Str} (Pv : Nat → List V → Hp → Prop) (h0 : Pv 0 [] H) (hz : ∀ i ys H, i < z.cps.size → Pv i ys H → ys.length < sizeLine)
    (hs : ∀ i c ys H, z.cps[i]? = some c → Pv i ys H → tt (S (.str ⟨#[c]⟩)) H fun b H2 => if b = true then te (S (.str ⟨#[c]⟩)) H2 fun y H3 => Pv (i + 1) (ys ++ [y]) H3 else Pv (i + 1) ys H2)
    (hd : ∀ ys H, Pv z.cps.size ys H → Fin ys H) : CompW (Its z) S tt te H Fin := by
  refine ⟨fun i m ys H => m = z.cps.size - i ∧ i ≤ z.cps.size ∧ Pv i ys H, ⟨z.cps.size, by simp, Nat.zero_le _, h0⟩, ?_⟩
  rintro i m ys H ⟨rfl, hi, p⟩
  by_cases hlt : i < z.cps.size
  · refine .inr ⟨hlt, hz i ys H hlt p, Pv (i + 1), fun ys' H' p' => ⟨z.cps.size - (i + 1), by omega, rfl, hlt, p'⟩, fun x H' y => ?_⟩
    obtain ⟨e, c, hc, rfl⟩ := y
    subst e
    exact hs i c ys _ hc p
  · have e : i = z.cps.size := by omega
    subst e
    exact .inl ⟨rfl, hd ys H p⟩
end

/-! ### a slice of a text -/
def rSlS : V → Option Int → Option Int → Hp → VK → Prop := fun x lo hi H Q => ∃ z, x = .str z ∧ z.length ≤ sizeLine ∧ Q (.str (Txt.slice z lo hi)) H
theorem sl_str {X : Cx} : SlR X rSlS := by
  intro pins s σ H x v vl vu lo hi sl Q I rx hs pl pu h
  obtain ⟨z, rfl, hz, q⟩ := h
  obtain ⟨t, rfl⟩ := rx
  refine ⟨"str", _, F.slot_str_getitem.lookup, typeIs_str _ _ _, ?_⟩
  have fin : ∀ t' k, EP X pins σ Q (.str (Txt.slice z lo hi) t') { s with toks := k } := fun t' k => ⟨.str _, H, I.tok _, ⟨t', rfl⟩, q⟩
  cases pl <;> cases pu
  · exact wpAny_getItem_str_slice (l := none) (u := none) (st := none) hs rfl (post_val_or_str ⟨Nat.le_trans (Txt.slice_le z _ _) hz, fin⟩)
  · exact wpAny_getItem_str_slice (l := none) (u := some (_, _)) (st := none) hs rfl (post_val_or_str ⟨Nat.le_trans (Txt.slice_le z _ _) hz, fin⟩)
  · exact wpAny_getItem_str_slice (l := some (_, _)) (u := none) (st := none) hs rfl (post_val_or_str ⟨Nat.le_trans (Txt.slice_le z _ _) hz, fin⟩)
  · exact wpAny_getItem_str_slice (l := some (_, _)) (u := some (_, _)) (st := none) hs rfl (post_val_or_str ⟨Nat.le_trans (Txt.slice_le z _ _) hz, fin⟩)

/-! ### a dict of the top, its keys texts -/
structure TopD (w : World) (K : PySem.W.Frag) (a : Addr) (kvs : List (Str × V)) : Prop where
  ex : ∃ es n, K.lookup a = some ⟨.type "dict", none, .dict es n, #[]⟩ ∧ PySem.W.KeysLit w.params es.toList ∧ Paired (fun (p : Str × V) (e : DictEntry) => (∃ t, e.key = .str p.1 t) ∧ RelV p.2 e.val) kvs es.toList
  lo : (a == sysModules) = false
theorem top_find {x : Str} : ∀ {kvs : List (Str × V)} {l : List DictEntry}, Paired (fun (p : Str × V) (e : DictEntry) => (∃ t, e.key = .str p.1 t) ∧ RelV p.2 e.val) kvs l →
    RelO (kvs.lookup x) ((l.find? fun e => Value.isStrOf x e.key).map (·.val))
  | _, _, .nil => trivial
  | (k, v) :: kvs, e :: l, .cons ⟨⟨t, ek⟩, rv⟩ r => by
    rw [List.lookup_cons, List.find?_cons]
    have hk : Value.isStrOf x e.key = (x == k) := by
      rw [ek]
      show (k == x) = (x == k)
      by_cases hx : x = k
      · subst hx; rfl
      · have h1 : (x == k) = false := by simpa using hx
        have h2 : (k == x) = false := by simpa using fun z => hx (Eq.symm z)
        rw [h1, h2]
    rw [hk]
    cases hx : x == k with
    | true => exact rv
    | false => exact top_find r
theorem TopD.find {w : World} {K : PySem.W.Frag} {a : Addr} {kvs : List (Str × V)} (D : TopD w K a kvs) (x : Str) : ∃ es n, K.lookup a = some ⟨.type "dict", none, .dict es n, #[]⟩ ∧ PySem.W.KeysLit w.params es.toList ∧ RelO (kvs.lookup x) (findBy Value.isStrOf es x) := by
  obtain ⟨es, n, h1, h2, h3⟩ := D.ex
  refine ⟨es, n, h1, h2, ?_⟩
  have q := top_find (x := x) h3
  unfold findBy
  rw [← Array.find?_toList]
  exact q
section
variable {X : Cx} {a : Addr} {kvs : List (Str × V)}
theorem op_in_top (D : TopD X.w X.K a kvs) : OpR X (compareOp .In) (fun x y H Q => ∃ z, x = .str z ∧ y = .ref a ∧ Q (.bl (kvs.lookup z).isSome) H) := by
  intro pins s σ H x y v u Q I rx ry h
  obtain ⟨z, rfl, rfl, q⟩ := h
  obtain ⟨t, rfl⟩ := rx
  cases ry
  obtain ⟨es, n, h1, h2, h3⟩ := D.find z
  refine wpAny_in_of (strKind_is _ _ z t) D.lo (PySem.W.mapOf_K (prog := X.prog) I.kIn h1 h2) ?_
  have e : (kvs.lookup z).isSome = (findBy Value.isStrOf es z).isSome := h3.isSome_eq
  rw [← e]
  exact ⟨.bl _, H, I.tok _, rfl, q⟩
theorem ix_top (D : TopD X.w X.K a kvs) : IxR X (fun x y H Q => ∃ z v, x = .ref a ∧ y = .str z ∧ kvs.lookup z = some v ∧ Q v H) := by
  intro value slice pins s σ H x y v u Q I rx ry h hs
  obtain ⟨z, r, rfl, rfl, hz, q⟩ := h
  cases rx
  obtain ⟨t, rfl⟩ := ry
  obtain ⟨es, n, h1, h2, h3⟩ := D.find z
  rw [hz] at h3
  obtain ⟨u, hu, ru⟩ := RelO.some_of h3
  have hm := PySem.W.mapOf_K (prog := X.prog) (w := X.w) I.kIn h1 h2
  exact tail_any hm.typeIs slot_dict_getitem.lookup (wpAny_getItem_of (strKind_is _ _ z t) hm hu ⟨r, H, I.tok _, ru, q⟩) hs
end

/-! ### a display of constants, at once -/
def constV : Expr → Option V
  | .Constant (.str x) _ _ => some (.str x)
  | .Constant (.int i) _ _ => some (.int i)
  | .Constant (.bool b) _ _ => some (.bl b)
  | .Constant .none _ _ => some .non
  | _ => none
def constsV : List Expr → Option (List V)
  | [] => some []
  | e :: r => match constV e, constsV r with
    | some v, some vs => some (v :: vs)
    | _, _ => none
def tVals (vs : List V) : TA := fun _ H Q => Q vs H
theorem pa_consts {X : Cx} : ∀ {es : List Expr} {vs : List V}, constsV es = some vs → PA X es (tVals vs)
  | [], vs, h => by
    cases h
    exact pa_nil
  | e :: r, vs, h => by
    unfold constsV at h
    cases he : constV e with
    | none => rw [he] at h; cases h
    | some v =>
      cases hr : constsV r with
      | none => rw [he, hr] at h; cases h
      | some ws =>
        rw [he, hr] at h
        have h' : v :: ws = vs := Option.some.inj h
        subst h'
        have ih := pa_consts (X := X) hr
        unfold constV at he
        split at he
        · cases he
          exact pa_cons (te := tC (.str _)) pe_str ih
        · cases he
          exact pa_cons (te := tC (.int _)) pe_int ih
        · cases he
          exact pa_cons (te := tC (.bl _)) pe_bl ih
        · cases he
          exact pa_cons (te := tC .non) pe_non ih
        · cases he

/-! ### a long display of constants: kept folded, so that no look at a goal runs it -/
@[irreducible] def bigL (es : List Expr) (pos : Pos) : Expr := .List es pos
@[irreducible] def bigT (es : List Expr) (k : Nat) (pos : Pos) : Expr := .Tuple es k pos
theorem bigL_eq (a b c d e : Expr) (es : List Expr) (pos : Pos) : Expr.List (a :: b :: c :: d :: e :: es) pos = bigL (a :: b :: c :: d :: e :: es) pos := by unfold bigL; rfl
theorem bigT_eq (a b c d e : Expr) (es : List Expr) (k : Nat) (pos : Pos) : Expr.Tuple (a :: b :: c :: d :: e :: es) k pos = bigT (a :: b :: c :: d :: e :: es) k pos := by unfold bigT; rfl
theorem pe_consts {X : Cx} {es : List Expr} {vs : List V} (h : constsV es = some vs) (pos : Pos) : PE X (.List es pos) (tLst (tVals vs)) := pe_lst (pa_consts h)
theorem pe_constsT {X : Cx} {es : List Expr} {vs : List V} (h : constsV es = some vs) (k : Nat) (pos : Pos) : PE X (.Tuple es k pos) (tTup (tVals vs)) := pe_tup (pa_consts h)
theorem pe_bigL {X : Cx} {es : List Expr} {vs : List V} {pos : Pos} (h : constsV es = some vs) : PE X (bigL es pos) (tLst (tVals vs)) := by
  unfold bigL
  exact pe_consts h pos
theorem pe_bigT {X : Cx} {es : List Expr} {vs : List V} {k : Nat} {pos : Pos} (h : constsV es = some vs) : PE X (bigT es k pos) (tTup (tVals vs)) := by
  unfold bigT
  exact pe_constsT h k pos
end L2

set_option Elab.async false
set_option linter.all false
set_option maxRecDepth 100000
/-! Equality of things built of lists and tuples, by what they read as. -/
namespace L2
open PySem PySem.Spec PyProof.Rows PySem.SeqAt

mutual
/-- a value reads as a thing -/
def RdD (K : PySem.W.Frag) (H : Hp) : PyData → V → Prop
  | .none, v => v = .non
  | .bool b, v => v = .bl b
  | .int i, v => v = .int i
  | .str x, v => v = .str x
  | .list ds, v => ∃ p xs, v = .ref p ∧ SqL K H p xs ∧ RdDs K H ds xs
  | .tuple ds, v => ∃ p xs, v = .ref p ∧ SqT K H p xs ∧ RdDs K H ds xs
  | .dict _, _ => False
def RdDs (K : PySem.W.Frag) (H : Hp) : List PyData → List V → Prop
  | [], xs => xs = []
  | d :: ds, xs => ∃ x r, xs = x :: r ∧ RdD K H d x ∧ RdDs K H ds r
end
theorem Same.seqT {K : PySem.W.Frag} {H H' : Hp} {a : Addr} {xs : List V} (e : Same H H') (h : SqT K H a xs) : SqT K H' a xs := by
  rcases h with h | h
  · refine .inl ?_
    rcases h with h | h
    · exact .inl (e _ _ h)
    · obtain ⟨o, h1⟩ := h
      exact .inr ⟨o, e _ _ h1⟩
  · exact .inr h
section
variable {K : PySem.W.Frag} {H H' : Hp}
mutual
theorem RdD.same (e : Same H H') : ∀ {d : PyData} {v : V}, RdD K H d v → RdD K H' d v
  | .none, _, h => by unfold RdD at *; exact h
  | .bool _, _, h => by unfold RdD at *; exact h
  | .int _, _, h => by unfold RdD at *; exact h
  | .str _, _, h => by unfold RdD at *; exact h
  | .list ds, _, h => by
    unfold RdD at *
    obtain ⟨p, xs, h1, h2, h3⟩ := h
    exact ⟨p, xs, h1, e.seq h2, RdDs.same e h3⟩
  | .tuple ds, _, h => by
    unfold RdD at *
    obtain ⟨p, xs, h1, h2, h3⟩ := h
    exact ⟨p, xs, h1, e.seqT h2, RdDs.same e h3⟩
  | .dict _, _, h => by unfold RdD at h; exact h.elim
theorem RdDs.same (e : Same H H') : ∀ {ds : List PyData} {xs : List V}, RdDs K H ds xs → RdDs K H' ds xs
  | [], _, h => by unfold RdDs at *; exact h
  | d :: ds, _, h => by
    unfold RdDs at *
    obtain ⟨x, r, h1, h2, h3⟩ := h
    exact ⟨x, r, h1, RdD.same e h2, RdDs.same e h3⟩
end
theorem RdDs.ints (ns : List Int) : RdDs K H (ns.map PyData.int) (ns.map V.int) := by
  induction ns with
  | nil => unfold RdDs; rfl
  | cons n r ih =>
    show RdDs K H (PyData.int n :: r.map PyData.int) (V.int n :: r.map V.int)
    unfold RdDs
    exact ⟨_, _, rfl, by unfold RdD; rfl, ih⟩
theorem RdDs.cons {d : PyData} {ds : List PyData} {x : V} {xs : List V} (h : RdD K H d x) (r : RdDs K H ds xs) : RdDs K H (d :: ds) (x :: xs) := by
  unfold RdDs
  exact ⟨x, xs, rfl, h, r⟩
theorem RdDs.nil : RdDs K H [] [] := by unfold RdDs; rfl
theorem RdD.int (i : Int) : RdD K H (.int i) (.int i) := by unfold RdD; rfl
theorem RdD.bl (i : Bool) : RdD K H (.bool i) (.bl i) := by unfold RdD; rfl
theorem RdD.str (i : Str) : RdD K H (.str i) (.str i) := by unfold RdD; rfl
theorem RdD.non : RdD K H .none .non := by unfold RdD; rfl
theorem RdD.lst {ds : List PyData} {p : Addr} {xs : List V} (h : SqL K H p xs) (r : RdDs K H ds xs) : RdD K H (.list ds) (.ref p) := by
  unfold RdD
  exact ⟨p, xs, rfl, h, r⟩
theorem RdD.tup {ds : List PyData} {p : Addr} {xs : List V} (h : SqT K H p xs) (r : RdDs K H ds xs) : RdD K H (.tuple ds) (.ref p) := by
  unfold RdD
  exact ⟨p, xs, rfl, h, r⟩
theorem RdDs.append {ds es : List PyData} {xs ys : List V} (a : RdDs K H ds xs) (b : RdDs K H es ys) : RdDs K H (ds ++ es) (xs ++ ys) := by
  induction ds generalizing xs with
  | nil => unfold RdDs at a; subst a; exact b
  | cons d r ih =>
    unfold RdDs at a
    obtain ⟨x, q, rfl, h1, h2⟩ := a
    exact RdDs.cons h1 (ih h2)
theorem RdDs.length {ds : List PyData} {xs : List V} (a : RdDs K H ds xs) : ds.length = xs.length := by
  induction ds generalizing xs with
  | nil => unfold RdDs at a; subst a; rfl
  | cons d r ih =>
    unfold RdDs at a
    obtain ⟨x, q, rfl, h1, h2⟩ := a
    simp [ih h2]
end

/-- a thing that can be compared -/
def Cmp (n : Nat) (d : PyData) : Prop := d.canLay0 = true ∧ d.depth ≤ n
theorem Cmp.int {n : Nat} (i : Int) : Cmp n (.int i) := ⟨by simp [PyData.canLay0], by simp [PyData.depth]⟩
theorem Cmp.bool {n : Nat} (i : Bool) : Cmp n (.bool i) := ⟨by simp [PyData.canLay0], by simp [PyData.depth]⟩
theorem Cmp.none {n : Nat} : Cmp n .none := ⟨by simp [PyData.canLay0], by simp [PyData.depth]⟩
theorem cmpAll {n : Nat} : ∀ {ds : List PyData}, (∀ d ∈ ds, Cmp n d) → PyData.canLayAll0 ds = true ∧ PyData.depthAll ds ≤ n
  | [], _ => ⟨by simp [PyData.canLayAll0], by simp [PyData.depthAll]⟩
  | d :: ds, h => by
    obtain ⟨h1, h2⟩ := h d List.mem_cons_self
    obtain ⟨h3, h4⟩ := cmpAll (ds := ds) fun e he => h e (List.mem_cons_of_mem _ he)
    refine ⟨by simp [PyData.canLayAll0, h1, h3], ?_⟩
    simp only [PyData.depthAll]
    omega
theorem Cmp.list {n : Nat} {ds : List PyData} (h : ∀ d ∈ ds, Cmp n d) : Cmp (n + 1) (.list ds) := by
  obtain ⟨h1, h2⟩ := cmpAll h
  exact ⟨by simp [PyData.canLay0, h1], by simp only [PyData.depth]; omega⟩
theorem Cmp.tuple {n : Nat} {ds : List PyData} (h : ∀ d ∈ ds, Cmp n d) : Cmp (n + 1) (.tuple ds) := by
  obtain ⟨h1, h2⟩ := cmpAll h
  exact ⟨by simp [PyData.canLay0, h1], by simp only [PyData.depth]; omega⟩
theorem Cmp.mono {n m : Nat} {d : PyData} (h : Cmp n d) (l : n ≤ m) : Cmp m d := ⟨h.1, Nat.le_trans h.2 l⟩
theorem Cmp.ints {n : Nat} (ns : List Int) : ∀ d ∈ ns.map PyData.int, Cmp n d := fun d hd => by
  obtain ⟨i, _, rfl⟩ := List.mem_map.mp hd
  exact .int i
mutual
theorem eqv_self : ∀ {d : PyData}, d.canLay0 = true → PyData.eqv d d = true
  | .none, _ => by simp [PyData.eqv]
  | .bool _, _ => by simp [PyData.eqv]
  | .int _, _ => by simp [PyData.eqv]
  | .str _, _ => by simp [PyData.eqv]
  | .list ds, h => by
    rw [PyData.eqv]
    exact eqvAll_self (by simpa [PyData.canLay0] using h)
  | .tuple ds, h => by
    rw [PyData.eqv]
    exact eqvAll_self (by simpa [PyData.canLay0] using h)
  | .dict _, h => by simp [PyData.canLay0] at h
theorem eqvAll_self : ∀ {ds : List PyData}, PyData.canLayAll0 ds = true → PyData.eqvAll ds ds = true
  | [], _ => by simp [PyData.eqvAll]
  | d :: ds, h => by
    have h' : (PyData.canLay0 d && PyData.canLayAll0 ds) = true := by simpa [PyData.canLayAll0] using h
    obtain ⟨h1, h2⟩ := Bool.and_eq_true_iff.mp h'
    rw [PyData.eqvAll, eqv_self h1, eqvAll_self h2]
    rfl
end
theorem eqvAll_ints : ∀ (a b : List Int), PyData.eqvAll (a.map PyData.int) (b.map PyData.int) = decide (a = b)
  | [], [] => by simp [PyData.eqvAll]
  | [], _ :: _ => by simp [PyData.eqvAll]
  | _ :: _, [] => by simp [PyData.eqvAll]
  | x :: a, y :: b => by
    show PyData.eqvAll (PyData.int x :: a.map PyData.int) (PyData.int y :: b.map PyData.int) = _
    rw [PyData.eqvAll, eqvAll_ints a b, PyData.eqv]
    by_cases h : x = y <;> simp [h]

section
variable {X : Cx} {pins : List (Addr × Obj)} {σ : St} {H : Hp} {s : Shared}
mutual
theorem Inv.reads (I : Inv X pins σ H s) : ∀ {d : PyData} {x : V} {v : Value}, RdD X.K H d x → RelV x v → ∃ as, Reads s.heap v d as
  | .none, _, _, h, r => by unfold RdD at h; subst h; cases r; exact ⟨_, .none⟩
  | .bool b, _, _, h, r => by unfold RdD at h; subst h; cases r; exact ⟨_, .bool b⟩
  | .int i, _, _, h, r => by unfold RdD at h; subst h; obtain ⟨t, rfl⟩ := r; exact ⟨_, .int i t⟩
  | .str i, _, _, h, r => by unfold RdD at h; subst h; obtain ⟨t, rfl⟩ := r; exact ⟨_, .str i t⟩
  | .list ds, _, _, h, r => by
    unfold RdD at h
    obtain ⟨p, xs, rfl, h2, h3⟩ := h
    cases r
    obtain ⟨its, rv, ⟨o, n, e1, e2, e3, e4⟩, _⟩ := I.list h2
    obtain ⟨as, ra⟩ := Inv.readsAll I h3 rv
    exact ⟨_, .list e1 e2 e4 (by simpa using ra)⟩
  | .tuple ds, _, _, h, r => by
    unfold RdD at h
    obtain ⟨p, xs, rfl, h2, h3⟩ := h
    cases r
    obtain ⟨its, rv, ⟨o, e1, e2, n, e4⟩, _⟩ := I.tuple h2
    obtain ⟨as, ra⟩ := Inv.readsAll I h3 rv
    exact ⟨_, .tuple e1 e2 e4 (by simpa using ra)⟩
  | .dict _, _, _, h, _ => by unfold RdD at h; exact h.elim
theorem Inv.readsAll (I : Inv X pins σ H s) : ∀ {ds : List PyData} {xs : List V} {vs : List Value}, RdDs X.K H ds xs → Vals xs vs → ∃ as, ReadsAll s.heap vs ds as
  | [], _, _, h, r => by unfold RdDs at h; subst h; cases r; exact ⟨_, .nil⟩
  | d :: ds, _, _, h, r => by
    unfold RdDs at h
    obtain ⟨x, q, rfl, h2, h3⟩ := h
    cases r with
    | cons r1 r2 =>
      obtain ⟨as, ra⟩ := Inv.reads I h2 r1
      obtain ⟨bs, rb⟩ := Inv.readsAll I h3 r2
      exact ⟨_, .cons ra rb⟩
end
def rEqD (K : PySem.W.Frag) (no : Bool) : R2 := fun x y H Q => ∃ dx dy, RdD K H dx x ∧ RdD K H dy y ∧ Cmp 64 dx ∧ Cmp 64 dy ∧ Q (.bl (no ^^ PyData.eqv dx dy)) H
theorem Cmp.shaped {d : PyData} (h : Cmp 64 d) : shaped d = true := by
  unfold SeqAt.shaped
  rw [h.1, decide_eq_true h.2]
  rfl
theorem op_eqD (hu : X.A.units + 64 < cLine) : OpR X (compareOp .Eq) (rEqD X.K false) := by
  intro pins s σ H x y v u Q I rx ry h
  obtain ⟨dx, dy, hx, hy, cx, cy, q⟩ := h
  obtain ⟨as, ra⟩ := I.reads hx rx
  obtain ⟨bs, rb⟩ := I.reads hy ry
  rw [Bool.false_xor] at q
  exact compareEq_shaped ra rb cx.shaped cy.shaped hu ⟨.bl _, H, I, rfl, q⟩
theorem op_neD (hu : X.A.units + 64 < cLine) : OpR X (compareOp .NotEq) (rEqD X.K true) := by
  intro pins s σ H x y v u Q I rx ry h
  obtain ⟨dx, dy, hx, hy, cx, cy, q⟩ := h
  obtain ⟨as, ra⟩ := I.reads hx rx
  obtain ⟨bs, rb⟩ := I.reads hy ry
  rw [Bool.true_xor] at q
  exact compareNe_shaped ra rb cx.shaped cy.shaped hu ⟨.bl _, H, I, rfl, q⟩
end
/-- the same data on both sides -/
theorem rEqD.eq {K : PySem.W.Frag} {x y : V} {H : Hp} {Q : VK} {no : Bool} (d : PyData) (hx : RdD K H d x) (hy : RdD K H d y) (c : Cmp 64 d) (q : Q (.bl (!no)) H) : rEqD K no x y H Q :=
  ⟨d, d, hx, hy, c, c, by rw [eqv_self c.1, Bool.xor_true]; exact q⟩
end L2

set_option Elab.async false
set_option linter.all false
set_option maxRecDepth 100000
/-! The rules that speak of the module's objects, for a context within another: these are the same there. -/
namespace L2
open PySem PySem.Spec PyProof.Rows
section
variable {X : Cx} {K : PySem.W.Frag} (h : X.K = K)
include h
theorem ix_listK : IxR X (rIxL K) := by subst h; exact ix_list
theorem ix_tupK : IxR X (rIxT K) := by subst h; exact ix_tup
theorem ix_seqK : IxR X (rIx K) := by subst h; exact ix_seq
theorem sl_listK : SlR X (rSlL K) := by subst h; exact sl_list
theorem sl_tupK : SlR X (rSlT K) := by subst h; exact sl_tup
theorem pi_listK {tg l : Expr} {tl : TE} (hl : PE X l tl) : PI X tg l (iList K tl) := by subst h; exact pi_list hl
theorem pi_tupK {tg l : Expr} {tl : TE} (hl : PE X l tl) : PI X tg l (iTup K tl) := by subst h; exact pi_tup hl
theorem call_lenK : CallR X (.builtin "len") (fun xs H Q => ∃ x n, xs = [x] ∧ LenV K x H n ∧ Q (.int n) H) := by subst h; exact call_len
theorem call_list_ofK : CallR X (.type "list") (fun xs H Q => ∃ p ys, xs = [.ref p] ∧ (SqL K H p ys ∨ SqT K H p ys) ∧ ∀ l, H l = none → Q (.ref l) (upd H l (.lst ys))) := by subst h; exact call_list_of
theorem call_tuple_ofK : CallR X (.type "tuple") (fun xs H Q => ∃ p ys, xs = [.ref p] ∧ ((SqL K H p ys ∧ ∀ l, H l = none → Q (.ref l) (upd H l (.tup ys))) ∨ (SqT K H p ys ∧ Q (.ref p) H))) := by subst h; exact call_tuple_of
theorem call_isinstK {T : String} : CallR X (.builtin "isinstance") (fun xs H Q => ∃ x t b, xs = [x, .ty T] ∧ TyOf K H x t ∧ PySem.W.kitOne K t (.type T) = some b ∧ Q (.bl b) H) := by subst h; exact call_isinst
theorem call_allK : CallR X (.builtin "all") (fun xs H Q => X.calm = true ∧ ∃ (p : Addr) (bs : List Bool), xs = [.ref p] ∧ SqL K H p (bs.map V.bl) ∧ Q (.bl (bs.all id)) H) := by subst h; exact call_all
theorem op_in_seqK : OpR X (compareOp .In) (rIn K false) := by subst h; exact op_in_seq
theorem op_notIn_seqK : OpR X (compareOp .NotIn) (rIn K true) := by subst h; exact op_notIn_seq
theorem op_catTK : OpR X (binaryOp .Add) (rCatT K) := by subst h; exact op_catT
theorem op_eqDK (hu : X.A.units + 64 < cLine) : OpR X (compareOp .Eq) (rEqD K false) := by subst h; exact op_eqD hu
theorem op_neDK (hu : X.A.units + 64 < cLine) : OpR X (compareOp .NotEq) (rEqD K true) := by subst h; exact op_neD hu
end
end L2

set_option Elab.async false
set_option linter.all false
set_option maxRecDepth 100000
/-! Works as the laws build them, lists of tuples of two numbers, rows of drawn numbers. -/
namespace L2
open PySem PySem.Spec
theorem same_new {H : Hp} {p : Addr} (h : H p = none) (o : HO) : Same H (upd H p o) := fun b u q => by rw [upd_ne (ne_of_none q h)]; exact q
/-- what came since is changed -/
theorem sameUpd {H H' : Hp} {p : Addr} (s : Same H H') (n : H p = none) (o : HO) : Same H (upd H' p o) := fun b u q => by rw [upd_ne (ne_of_none q n)]; exact s b u q
theorem small {n : Nat} (h : n ≤ 100000) : n ≤ sizeLine := Nat.le_trans h (by decide)
theorem smallL {n : Nat} (h : n ≤ 100000) : n < sizeLine := Nat.lt_of_le_of_lt h (by decide)
theorem at_ints {ns : List Int} {i : Int} (h0 : 0 ≤ i) (h : i < ns.length) : ∃ v : Int, atI (ns.map V.int) i = some (.int v) ∧ v ∈ ns ∧ v = ns.getD i.toNat 0 := by
  obtain ⟨k, rfl⟩ := Int.eq_ofNat_of_zero_le h0
  have hk : k < ns.length := by omega
  refine ⟨ns[k], atI_nat (by rw [List.getElem?_map, List.getElem?_eq_getElem hk] <;> rfl), List.getElem_mem hk, ?_⟩
  rw [Int.toNat_natCast, List.getD_eq_getElem?_getD, List.getElem?_eq_getElem hk]
  rfl
/-- rows of drawn numbers -/
def Drawn (rs : List Int) : Prop := ∀ r ∈ rs, 0 ≤ r ∧ r < 1000000
theorem Drawn.at {rs : List Int} (d : Drawn rs) {i : Int} (h0 : 0 ≤ i) (h : i < rs.length) : ∃ v : Int, atI (rs.map V.int) i = some (.int v) ∧ 0 ≤ v ∧ v < 1000000 := by
  obtain ⟨v, h1, h2, _⟩ := at_ints h0 h
  exact ⟨v, h1, d v h2⟩
theorem Drawn.snoc {rs : List Int} (d : Drawn rs) {v : Int} (h0 : 0 ≤ v) (h : v < 1000000) : Drawn (rs ++ [v]) := fun r hr => by
  rcases List.mem_append.mp hr with q | q
  · exact d r q
  · rw [List.mem_singleton.mp q]
    exact ⟨h0, h⟩
def sp_L_row (K : PySem.W.Frag) : Sp := fun vs H Q _ => ∃ (a : Addr) (ns : List Int) (i n : Int), vs = [.ref a, .int i, .int n] ∧ SqL K H a (ns.map V.int) ∧ ns.length ≤ 63 ∧ 0 ≤ i ∧ 0 ≤ n ∧ n ≤ 1000 ∧
  ∀ p (rs : List Int) H', H p = none → Same H H' → H' p = some (.lst (rs.map V.int)) → (rs.length : Int) = n → Drawn rs → Q (.ref p) H'
def lsz (n m : Int) : Int := n % m + 4 * (if decide (V.int (n / m % 8) = V.int 5) = true then 1 else 0)
theorem lsz_bound {n m : Int} (h : 0 < m) : 0 ≤ lsz n m ∧ lsz n m < m + 4 := by
  have e1 := Int.emod_nonneg n (show m ≠ 0 by omega)
  have e2 := Int.emod_lt_of_pos n h
  unfold lsz
  split <;> omega
def sp_L_size : Sp := fun vs H Q _ => ∃ n m : Int, vs = [.int n, .int m] ∧ 0 ≤ n ∧ 0 < m ∧ m < 1000 ∧ Q (.int (lsz n m)) H
/-- a work, as the law builds one -/
structure Wk where
  ins : Nat
  boxes : List (Int × Int)
  gates : List (Int × Int)
  outs : List Int
def Wk.first (W : Wk) : Nat := 1 + W.ins + W.boxes.length
def Wk.knots (W : Wk) : Nat := W.first + W.gates.length
def GateOk (n : Nat) (gs : List (Int × Int)) : Prop := ∀ (k : Nat) (g : Int × Int), gs[k]? = some g → (0 ≤ g.1 ∧ g.1 < 2 * ((n : Int) + k)) ∧ 0 ≤ g.2 ∧ g.2 < 2 * ((n : Int) + k)
theorem GateOk.snoc {n : Nat} {gs : List (Int × Int)} (h : GateOk n gs) {x y : Int} (x0 : 0 ≤ x) (x1 : x < 2 * ((n : Int) + gs.length)) (y0 : 0 ≤ y) (y1 : y < 2 * ((n : Int) + gs.length)) : GateOk n (gs ++ [(x, y)]) := fun k g hk => by
  by_cases hlt : k < gs.length
  · rw [List.getElem?_append_left hlt] at hk
    exact h k g hk
  · rw [List.getElem?_append_right (by omega)] at hk
    have hk0 : k - gs.length = 0 := by
      cases e : k - gs.length with
      | zero => rfl
      | succ m => rw [e] at hk; simp at hk
    rw [hk0] at hk
    have hq := Option.some.inj hk
    subst hq
    have hkj : k = gs.length := by omega
    subst hkj
    exact ⟨⟨x0, x1⟩, y0, y1⟩
structure Wk.Ok (W : Wk) : Prop where
  ins : W.ins ≤ 7
  boxes : W.boxes.length ≤ 8
  gates : W.gates.length ≤ 2000
  outs : W.outs.length ≤ 20
  gate : GateOk W.first W.gates
  box : ∀ b ∈ W.boxes, (b.1 = 0 ∨ b.1 = 1) ∧ 0 ≤ b.2 ∧ b.2 < 2 * (W.knots : Int)
  out : ∀ o ∈ W.outs, 0 ≤ o ∧ o < 2 * (W.knots : Int)
/-- a list of tuples of two numbers -/
def PrsR (H : Hp) (b : Addr) (rs : List Addr) (ps : List (Int × Int)) : Prop := H b = some (.lst (rs.map V.ref)) ∧ Paired (fun r (p : Int × Int) => H r = some (.tup [.int p.1, .int p.2])) rs ps
theorem pairedMono {α β : Type} {R S : α → β → Prop} (h : ∀ a b, R a b → S a b) : ∀ {xs : List α} {ys : List β}, Paired R xs ys → Paired S xs ys
  | _, _, .nil => .nil
  | _, _, .cons a b => .cons (h _ _ a) (pairedMono h b)
theorem pairedSnoc {α β : Type} {R : α → β → Prop} {x : α} {y : β} (h : R x y) : ∀ {xs : List α} {ys : List β}, Paired R xs ys → Paired R (xs ++ [x]) (ys ++ [y])
  | _, _, .nil => .cons h .nil
  | _, _, .cons a b => .cons a (pairedSnoc h b)
theorem pairedApp {α β : Type} {R : α → β → Prop} {us : List α} {vs : List β} (h : Paired R us vs) : ∀ {xs : List α} {ys : List β}, Paired R xs ys → Paired R (xs ++ us) (ys ++ vs)
  | _, _, .nil => h
  | _, _, .cons a b => .cons a (pairedApp h b)
theorem pairsNew {H : Hp} {t : Addr} {bs : List Addr} {qs : List (Int × Int)} (x y : Int) (hB : Paired (fun r (p : Int × Int) => H r = some (.tup [.int p.1, .int p.2])) bs qs) (ht : H t = none) :
    Paired (fun r (p : Int × Int) => upd H t (.tup [.int x, .int y]) r = some (.tup [.int p.1, .int p.2])) (bs ++ [t]) (qs ++ [(x, y)]) :=
  pairedSnoc (R := fun r (p : Int × Int) => upd H t (.tup [.int x, .int y]) r = some (.tup [.int p.1, .int p.2])) upd_same (pairedMono (fun r p q => by rw [upd_ne (ne_of_none q ht)]; exact q) hB)
theorem PrsR.same {H H' : Hp} {b : Addr} {rs : List Addr} {ps : List (Int × Int)} (s : Same H H') (h : PrsR H b rs ps) : PrsR H' b rs ps := ⟨s _ _ h.1, pairedMono (fun r p q => s _ _ q) h.2⟩
theorem PrsR.length {H : Hp} {b : Addr} {rs : List Addr} {ps : List (Int × Int)} (h : PrsR H b rs ps) : rs.length = ps.length := Paired.length h.2
theorem PrsR.get {H : Hp} {b : Addr} {rs : List Addr} {ps : List (Int × Int)} (h : PrsR H b rs ps) {i : Nat} (hi : i < ps.length) : ∃ r, (rs.map V.ref)[i]? = some (.ref r) ∧ H r = some (.tup [.int ps[i].1, .int ps[i].2]) := by
  obtain ⟨hb, h⟩ := h
  clear hb
  induction h generalizing i with
  | nil => exact absurd hi (Nat.not_lt_zero _)
  | cons a r ih =>
    cases i with
    | zero => exact ⟨_, rfl, a⟩
    | succ k =>
      obtain ⟨q, h1, h2⟩ := ih (i := k) (by simpa using hi)
      exact ⟨q, by simpa using h1, by simpa using h2⟩
theorem PrsR.push {H : Hp} {b t : Addr} {rs : List Addr} {ps : List (Int × Int)} (h : PrsR H b rs ps) (ht : H t = none) (x y : Int) :
    PrsR (upd (upd H t (.tup [.int x, .int y])) b (.lst (rs.map V.ref ++ [.ref t]))) b (rs ++ [t]) (ps ++ [(x, y)]) := by
  obtain ⟨hb, hp⟩ := h
  have htb : t ≠ b := fun e => by rw [e, hb] at ht; cases ht
  refine ⟨by rw [upd_same, List.map_append]; rfl, pairedSnoc ?_ (pairedMono (fun r p q => ?_) hp)⟩
  · rw [upd_ne htb, upd_same]
  · rw [upd_ne (fun e => by rw [e, hb] at q; cases q), upd_ne (ne_of_none q ht)]
    exact q
theorem PrsR.data {K : PySem.W.Frag} {H : Hp} {rs : List Addr} {ps : List (Int × Int)} (h : Paired (fun r (p : Int × Int) => H r = some (.tup [.int p.1, .int p.2])) rs ps) : RdDs K H (ps.map fun p => PyData.tuple [.int p.1, .int p.2]) (rs.map V.ref) := by
  induction h with
  | nil => exact RdDs.nil
  | cons a r ih => exact RdDs.cons (RdD.tup (SqT.of a) (RdDs.cons (.int _) (RdDs.cons (.int _) .nil))) ih
/-- the data of a list of tuples of two numbers -/
def dPs (ps : List (Int × Int)) : PyData := .list (ps.map fun p => PyData.tuple [.int p.1, .int p.2])
theorem dPs_cmp (ps : List (Int × Int)) : Cmp 2 (dPs ps) := Cmp.list fun d hd => by
  obtain ⟨p, _, rfl⟩ := List.mem_map.mp hd
  refine Cmp.tuple fun e he => ?_
  simp only [List.mem_cons, List.not_mem_nil, or_false] at he
  rcases he with rfl | rfl <;> exact .int _
theorem PrsR.rd {K : PySem.W.Frag} {H : Hp} {b : Addr} {rs : List Addr} {ps : List (Int × Int)} (h : PrsR H b rs ps) : RdD K H (dPs ps) (.ref b) := RdD.lst (SqL.of h.1) (PrsR.data h.2)
def Prs (H : Hp) (b : Addr) (ps : List (Int × Int)) : Prop := ∃ rs, PrsR H b rs ps
theorem Prs.same {H H' : Hp} {b : Addr} {ps : List (Int × Int)} (s : Same H H') (h : Prs H b ps) : Prs H' b ps := let ⟨rs, q⟩ := h; ⟨rs, q.same s⟩
structure IsWkA (H : Hp) (w b g o : Addr) (W : Wk) : Prop where
  w : H w = some (.tup [.int W.ins, .ref b, .ref g, .ref o])
  b : Prs H b W.boxes
  g : Prs H g W.gates
  o : H o = some (.lst (W.outs.map V.int))
theorem IsWkA.same {H H' : Hp} {w b g o : Addr} {W : Wk} (s : Same H H') (h : IsWkA H w b g o W) : IsWkA H' w b g o W := ⟨s _ _ h.w, h.b.same s, h.g.same s, s _ _ h.o⟩
def sp_L_work (K : PySem.W.Frag) : Sp := fun vs H Q _ => ∃ (a z : Addr) (rs zs : List Int), vs = [.ref a, .ref z] ∧ SqL K H a (rs.map V.int) ∧ SqL K H z (zs.map V.int) ∧ rs.length = 60 ∧ Drawn rs ∧ 4 ≤ zs.length ∧ (∀ r ∈ zs, 0 ≤ r) ∧
  ∀ w b g o W H', H w = none → H b = none → H g = none → H o = none → Same H H' → IsWkA H' w b g o W → W.Ok → W.gates.length ≤ 12 → W.outs.length ≤ 8 → (W.ins : Int) = lsz (zs.getD 0 0) 4 → Q (.ref w) H'
theorem PrsR.ext {H : Hp} {a b : Addr} {rs us : List Addr} {ps qs : List (Int × Int)} (ha : PrsR H a rs ps) (hb : PrsR H b us qs) : PrsR (upd H a (.lst (rs.map V.ref ++ us.map V.ref))) a (rs ++ us) (ps ++ qs) := by
  have keep : ∀ {r : Addr} {x : Int × Int}, H r = some (.tup [.int x.1, .int x.2]) → (upd H a (.lst (rs.map V.ref ++ us.map V.ref))) r = some (.tup [.int x.1, .int x.2]) := fun {r x} h => by
    rw [upd_ne (fun e => by rw [e, ha.1] at h; cases h)]
    exact h
  exact ⟨by rw [upd_same, List.map_append], pairedApp (pairedMono (fun r x h => keep h) hb.2) (pairedMono (fun r x h => keep h) ha.2)⟩
/-- another list is written -/
theorem PrsR.other {H : Hp} {a b : Addr} {rs : List Addr} {ps : List (Int × Int)} {xs ys : List V} (h : PrsR H a rs ps) (hb : H b = some (.lst xs)) (n : a ≠ b) : PrsR (upd H b (.lst ys)) a rs ps := by
  refine ⟨by rw [upd_ne n]; exact h.1, pairedMono (fun r x q => ?_) h.2⟩
  rw [upd_ne (fun e => by rw [e, hb] at q; cases q)]
  exact q
theorem PrsR.mk {H : Hp} {a : Addr} {rs : List Addr} {ps : List (Int × Int)} (h : Paired (fun r (p : Int × Int) => H r = some (.tup [.int p.1, .int p.2])) rs ps) (n : H a = none) : PrsR (upd H a (.lst (rs.map V.ref))) a rs ps :=
  ⟨upd_same, pairedMono (fun r x q => (same_new n _) _ _ q) h⟩
theorem cut_from {xs : List V} {n : Nat} (h : n ≤ xs.length) : cutV xs (some (n : Int)) none = xs.drop n := by
  unfold cutV
  rw [HT.sIx_nat, HT.sIx_none, Nat.min_eq_left h, List.take_of_length_le (by rw [List.length_drop]; omega)]
theorem cut_to {xs : List V} {n : Nat} (h : n ≤ xs.length) : cutV xs none (some (n : Int)) = xs.take n := by
  unfold cutV
  rw [HT.sIx_nat, HT.sIx_none, Nat.min_eq_left h, List.drop_zero, Nat.sub_zero]
theorem getD_take {fs : List Int} {j n : Nat} (h : j < n) : (fs.take n).getD j 0 = fs.getD j 0 := by
  rw [List.getD_eq_getElem?_getD, List.getD_eq_getElem?_getD, List.getElem?_take_of_lt h]
theorem take_set_succ {fs : List Int} {n : Nat} (v : Int) (h : n < fs.length) : (fs.set n v).take (n + 1) = fs.take n ++ [v] := by
  rw [List.take_succ_eq_append_getElem (by rw [List.length_set]; exact h), List.getElem_set_self, List.take_set_of_le (Nat.le_refl _)]
theorem take_succ_getD {fs : List Int} {n : Nat} (h : n < fs.length) : fs.take (n + 1) = fs.take n ++ [fs.getD n 0] := by
  rw [List.take_succ_eq_append_getElem h, List.getD_eq_getElem?_getD, List.getElem?_eq_getElem h]
  rfl
theorem set_ints (fs : List Int) (n : Nat) (v : Int) : (fs.map V.int).set n (.int v) = (fs.set n v).map V.int := by rw [List.map_set]
theorem ixN_nat {n k : Nat} (h : k < n) : ixN n (k : Int) = some k := by
  unfold ixN
  rw [if_pos (by omega), if_pos (by omega), Int.toNat_natCast]
/-- depths -/
def mx (i j : Int) : Int := if j > i then j else i
def dstep (D : List Int) (g : Int × Int) : List Int := D ++ [1 + mx (D.getD (g.1 / 2).toNat 0) (D.getD (g.2 / 2).toNat 0)]
def dL (n : Nat) (gs : List (Int × Int)) : List Int := gs.foldl dstep (List.replicate n 0)
theorem dfold (gs : List (Int × Int)) : ∀ D, ∃ t, gs.foldl dstep D = D ++ t ∧ t.length = gs.length := by
  induction gs with
  | nil => exact fun D => ⟨[], by simp, rfl⟩
  | cons g r ih =>
    intro D
    obtain ⟨t, h1, h2⟩ := ih (dstep D g)
    refine ⟨(1 + mx (D.getD (g.1 / 2).toNat 0) (D.getD (g.2 / 2).toNat 0)) :: t, ?_, by simp [h2]⟩
    rw [List.foldl_cons, h1]
    unfold dstep
    rw [List.append_assoc]
    rfl
theorem dL_length (n : Nat) (gs : List (Int × Int)) : (dL n gs).length = n + gs.length := by
  obtain ⟨t, h1, h2⟩ := dfold gs (List.replicate n 0)
  unfold dL
  rw [h1, List.length_append, List.length_replicate, h2]
theorem dL_snoc (n : Nat) (gs : List (Int × Int)) (g : Int × Int) : dL n (gs ++ [g]) = dstep (dL n gs) g := by
  unfold dL
  rw [List.foldl_append]
  rfl
theorem dL_take (n : Nat) (gs : List (Int × Int)) (k : Nat) : (dL n gs).take (n + (gs.take k).length) = dL n (gs.take k) := by
  obtain ⟨t, h1, _⟩ := dfold (gs.drop k) (dL n (gs.take k))
  have e : dL n gs = dL n (gs.take k) ++ t := by
    rw [← h1]
    conv => lhs; rw [← List.take_append_drop k gs]
    unfold dL
    rw [List.foldl_append]
  rw [e, ← dL_length, List.take_left]
def sp_L_long (K : PySem.W.Frag) : Sp := fun vs H Q _ => ∃ (w b g o r : Addr) (W : Wk) (rs : List Int), vs = [.ref w, .ref r] ∧ IsWkA H w b g o W ∧ W.Ok ∧ W.gates.length ≤ 12 ∧ H r = some (.lst (rs.map V.int)) ∧ rs.length = 40 ∧ Drawn rs ∧
  ∀ w' g' W' H', Same H H' → IsWkA H' w' b g' o W' → W'.Ok → W'.ins = W.ins → W'.boxes = W.boxes → Q (.ref w') H'
def sp_L_tall : Sp := fun vs H Q _ => ∃ (w b g o : Addr) (W : Wk), vs = [.ref w] ∧ IsWkA H w b g o W ∧ W.Ok ∧ W.gates.length ≤ 12 ∧ W.outs.length ≤ 8 ∧
  ∀ w' g' o' W' H', Same H H' → IsWkA H' w' b g' o' W' → W'.Ok → W'.ins = W.ins → W'.boxes = W.boxes → Q (.ref w') H'
theorem ite_f {c : Bool} {A B : Prop} (h : c = false) (q : B) : if c = true then A else B := by rw [h]; exact q
theorem ite_t {c : Bool} {A B : Prop} (h : c = true) (q : A) : if c = true then A else B := by rw [h]; exact q
/-- the data of a work -/
def dWk (W : Wk) : PyData := .tuple [.int W.ins, dPs W.boxes, dPs W.gates, .list (W.outs.map PyData.int)]
theorem dWk_cmp (W : Wk) : Cmp 64 (dWk W) := (Cmp.tuple (n := 2) fun d hd => by
  simp only [List.mem_cons, List.not_mem_nil, or_false] at hd
  rcases hd with rfl | rfl | rfl | rfl
  · exact .int _
  · exact dPs_cmp _
  · exact dPs_cmp _
  · exact (Cmp.list (n := 0) (Cmp.ints _)).mono (by decide)).mono (by decide)
theorem dWk_rd {K : PySem.W.Frag} {H : Hp} {w b g o : Addr} {W : Wk} {rs ts : List Addr} (hw : H w = some (.tup [.int W.ins, .ref b, .ref g, .ref o])) (hb : PrsR H b rs W.boxes) (hg : PrsR H g ts W.gates) (ho : H o = some (.lst (W.outs.map V.int))) : RdD K H (dWk W) (.ref w) :=
  RdD.tup (SqT.of hw) (.cons (.int _) (.cons hb.rd (.cons hg.rd (.cons (RdD.lst (SqL.of ho) (.ints _)) .nil))))
theorem IsWkA.rd {K : PySem.W.Frag} {H : Hp} {w b g o : Addr} {W : Wk} (h : IsWkA H w b g o W) : RdD K H (dWk W) (.ref w) :=
  let ⟨_, hb⟩ := h.b; let ⟨_, hg⟩ := h.g; dWk_rd h.w hb hg h.o
theorem cut_last (xs : List V) (y : V) : cutV (xs ++ [y]) none (some (-1)) = xs := by
  unfold cutV
  rw [HT.sIx_none, List.length_append, List.length_singleton]
  have e : HT.sIx (xs.length + 1) (xs.length + 1) (some (-1)) = xs.length := by
    unfold HT.sIx
    dsimp only
    rw [if_pos (by decide)]
    omega
  rw [e, List.drop_zero, Nat.sub_zero, List.take_left]
theorem rdInts {K : PySem.W.Frag} {H : Hp} {p : Addr} {ns : List Int} (h : H p = some (.lst (ns.map V.int))) : RdD K H (.list (ns.map PyData.int)) (.ref p) := RdD.lst (SqL.of h) (RdDs.ints _)
theorem cmpInts (ns : List Int) : Cmp 64 (.list (ns.map PyData.int)) := (Cmp.list (n := 0) (Cmp.ints _)).mono (by decide)
def RowInv (a p : Addr) (i n : Int) (H : Hp) (j : Nat) (σ : St) (H' : Hp) : Prop :=
  ∃ (cell : Int) (great : Bool) (rest : Int) (rs : List Int) (x y : Option V), σ = [some (.ref a), some (.int i), some (.int n), some (.int cell), some (.int rest), some (.bl great), some (.ref p), x, y] ∧ 0 ≤ rest ∧ rs.length = j ∧ Drawn rs ∧ Same H H' ∧ H' p = some (.lst (rs.map V.int))
end L2

set_option Elab.async false
set_option linter.all false
set_option maxRecDepth 100000
/-! Comprehensions that tell a value for each thing, and the bits of a work's knots and ends. -/
namespace L2
open PySem PySem.Spec
section
variable {K : PySem.W.Frag} {a : Addr} {S : V → St} {te : TE} {H : Hp} {Fin : List V → Hp → Prop}
theorem comp_list_map {xs : List V} (f : V → V) (hS : SqL K H a xs) (hz : xs.length ≤ 100000) (hs : ∀ x ∈ xs, ∀ N : V → Hp → Prop, N (f x) H → te (S x) H N) (hd : Fin (xs.map f) H) : CompW (Itl K a) S tYes te H Fin := by
  refine comp_list (xs := xs) (fun i ys H' => ys = (xs.take i).map f ∧ H = H') ⟨rfl, rfl⟩ ?_ ?_ ?_ ?_
  · rintro i ys H' _ ⟨_, rfl⟩
    exact hS
  · rintro i ys H' hi ⟨rfl, _⟩
    rw [List.length_map, List.length_take]
    exact smallL (by omega)
  · rintro i x ys H' hx ⟨rfl, rfl⟩
    obtain ⟨hi, he⟩ := List.getElem?_eq_some_iff.mp hx
    unfold tYes
    dsimp only
    rw [if_pos rfl]
    refine hs x (he ▸ List.getElem_mem hi) _ ⟨?_, rfl⟩
    rw [List.take_succ_eq_append_getElem hi, List.map_append, he]
    rfl
  · rintro ys H' ⟨rfl, rfl⟩
    rw [List.take_length]
    exact hd
theorem comp_range_map {lo : Int} {n : Nat} (f : Nat → V) (hz : n ≤ 100000) (hs : ∀ i, i < n → ∀ N : V → Hp → Prop, N (f i) H → te (S (.int (lo + i))) H N) (hd : Fin ((List.range n).map f) H) : CompW (Itr lo n) S tYes te H Fin := by
  refine comp_range (fun i ys H' => ys = (List.range i).map f ∧ H = H') ⟨rfl, rfl⟩ ?_ ?_ ?_
  · rintro i ys H' hi ⟨rfl, _⟩
    rw [List.length_map, List.length_range]
    exact smallL (by omega)
  · rintro i ys H' hi ⟨rfl, rfl⟩
    unfold tYes
    dsimp only
    rw [if_pos rfl]
    refine hs i hi _ ⟨?_, rfl⟩
    rw [List.range_succ, List.map_append]
    rfl
  · rintro ys H' ⟨rfl, rfl⟩
    exact hd
theorem comp_prs_map {rs : List Addr} {ps : List (Int × Int)} (f : Int × Int → V) (hP : PrsR H a rs ps) (hz : ps.length ≤ 100000)
    (hs : ∀ p ∈ ps, ∀ r, H r = some (.tup [.int p.1, .int p.2]) → ∀ N : V → Hp → Prop, N (f p) H → te (S (.ref r)) H N) (hd : Fin (ps.map f) H) : CompW (Itl K a) S tYes te H Fin := by
  have hl : (rs.map V.ref).length = ps.length := by rw [List.length_map, hP.length]
  refine comp_list (xs := rs.map V.ref) (fun i ys H' => ys = (ps.take i).map f ∧ H = H') ⟨rfl, rfl⟩ ?_ ?_ ?_ ?_
  · rintro i ys H' _ ⟨_, rfl⟩
    exact SqL.of hP.1
  · rintro i ys H' hi ⟨rfl, _⟩
    rw [List.length_map, List.length_take]
    exact smallL (by omega)
  · rintro i x ys H' hx ⟨rfl, rfl⟩
    obtain ⟨hi, _⟩ := List.getElem?_eq_some_iff.mp hx
    rw [hl] at hi
    obtain ⟨r, h1, h2⟩ := hP.get hi
    rw [h1] at hx
    cases hx
    unfold tYes
    dsimp only
    rw [if_pos rfl]
    refine hs _ (List.getElem_mem hi) r h2 _ ⟨?_, rfl⟩
    rw [List.take_succ_eq_append_getElem hi, List.map_append]
    rfl
  · rintro ys H' ⟨rfl, rfl⟩
    rw [hl, List.take_length]
    exact hd
/-- the target two names -/
theorem comp_pairs {c : St} {tt : TT} {rs : List Addr} {ps : List (Int × Int)} (Pv : Nat → List V → Hp → Prop) (h0 : Pv 0 [] H) (hl : ∀ i ys H', i ≤ ps.length → Pv i ys H' → PrsR H' a rs ps) (hz : ∀ i ys H', i < ps.length → Pv i ys H' → ys.length < sizeLine)
    (hs : ∀ i ys H' (hi : i < ps.length), Pv i ys H' → tt (some (.int ps[i].1) :: some (.int ps[i].2) :: c) H' fun b H2 => if b = true then te (some (.int ps[i].1) :: some (.int ps[i].2) :: c) H2 fun y H3 => Pv (i + 1) (ys ++ [y]) H3 else Pv (i + 1) ys H2)
    (hd : ∀ ys H', Pv ps.length ys H' → Fin ys H') : CompG (Itl K a) 2 c (gTup K 2 (gCons (gName 0) (gCons (gName 1) gNil))) tt te H Fin := by
  refine ⟨fun i m ys H => m = ps.length - i ∧ i ≤ ps.length ∧ Pv i ys H, ⟨ps.length, by simp, Nat.zero_le _, h0⟩, ?_⟩
  rintro i m ys H' ⟨rfl, hi, p⟩
  have q := hl i ys H' hi p
  have hlen : (rs.map V.ref).length = ps.length := by rw [List.length_map, q.length]
  by_cases hlt : i < ps.length
  · refine .inr ⟨⟨_, (rs.map V.ref)[i]'(by omega), SqL.of q.1, List.getElem?_eq_getElem _⟩, hz i ys H' hlt p, Pv (i + 1), fun ys' H' p' => ⟨ps.length - (i + 1), by omega, rfl, hlt, p'⟩, fun x H2 y os hos => ?_⟩
    obtain ⟨e, y⟩ := y
    subst e
    obtain ⟨r, h1, h2⟩ := q.get hlt
    have hx := y _ (SqL.of q.1)
    rw [h1] at hx
    cases hx
    match os, hos with
    | [u, v], _ => exact ⟨r, _, rfl, SqT.of h2, rfl, _, _, rfl, _, _, rfl, rfl, hs i ys _ hlt p⟩
  · have e : i = ps.length := by omega
    subst e
    exact .inl ⟨⟨_, SqL.of q.1, Nat.le_of_eq hlen⟩, hd ys H' p⟩
theorem comp_pairs_map {c : St} {rs : List Addr} {ps : List (Int × Int)} (f : Int × Int → V) (hP : PrsR H a rs ps) (hz : ps.length ≤ 100000)
    (hs : ∀ p ∈ ps, ∀ N : V → Hp → Prop, N (f p) H → te (some (.int p.1) :: some (.int p.2) :: c) H N) (hd : Fin (ps.map f) H) : CompG (Itl K a) 2 c (gTup K 2 (gCons (gName 0) (gCons (gName 1) gNil))) tYes te H Fin := by
  refine comp_pairs (rs := rs) (ps := ps) (fun i ys H' => ys = (ps.take i).map f ∧ H = H') ⟨rfl, rfl⟩ ?_ ?_ ?_ ?_
  · rintro i ys H' _ ⟨_, rfl⟩
    exact hP
  · rintro i ys H' hi ⟨rfl, _⟩
    rw [List.length_map, List.length_take]
    exact smallL (by omega)
  · rintro i ys H' hi ⟨rfl, rfl⟩
    unfold tYes
    dsimp only
    rw [if_pos rfl]
    refine hs _ (List.getElem_mem hi) _ ⟨?_, rfl⟩
    rw [List.take_succ_eq_append_getElem hi, List.map_append]
    rfl
  · rintro ys H' ⟨rfl, rfl⟩
    rw [List.take_length]
    exact hd
end
/-- for x, y in a list of pairs -/
theorem for_pairs {K : PySem.W.Frag} {a : Addr} {rs : List Addr} {ps : List (Int × Int)} {tb : TS} {D : Ends} {σ : St} {H : Hp} {i1 i2 : Nat} (Pv : Nat → St → Hp → Prop) (h0 : Pv 0 σ H) (hl : ∀ i σ H, i ≤ ps.length → Pv i σ H → PrsR H a rs ps)
    (hs : ∀ i σ H (hi : i < ps.length), Pv i σ H → tb { D with nx := Pv (i + 1), ct := Pv (i + 1), bk := D.nx } ((σ.set i1 (some (.int ps[i].1))).set i2 (some (.int ps[i].2))) H) (hd : ∀ σ H, Pv ps.length σ H → D.nx σ H) :
    ∃ W : Nat → Nat → St → Hp → Prop, (∃ m, W 0 m σ H) ∧ ∀ i m σ H, W i m σ H →
      ((Itl K a).stop i H ∧ D.nx σ H) ∨ ((Itl K a).go i H ∧ ∃ N : St → Hp → Prop, (∀ σ' H', N σ' H' → ∃ m', m' < m ∧ W (i + 1) m' σ' H') ∧ ∀ x H', (Itl K a).yld i H x H' → (gTup K 2 (gCons (gName i1) (gCons (gName i2) gNil))) x σ H' fun σ2 H2 => tb { D with nx := N, ct := N, bk := D.nx } σ2 H2) := by
  have hlen : ∀ i σ H, i ≤ ps.length → Pv i σ H → (rs.map V.ref).length = ps.length := fun i σ H hi p => by rw [List.length_map, (hl i σ H hi p).length]
  have hlen0 := hlen 0 σ H (Nat.zero_le _) h0
  refine for_list (xs := rs.map V.ref) Pv h0 (fun i σ H hi p => SqL.of (hl i σ H (by omega) p).1) (fun i x σ H hx p => ?_) (fun σ H p => hd σ H (by rw [hlen0] at p; exact p))
  obtain ⟨hi, _⟩ := List.getElem?_eq_some_iff.mp hx
  rw [hlen0] at hi
  obtain ⟨r, h1, h2⟩ := (hl i σ H (by omega) p).get hi
  rw [h1] at hx
  cases hx
  exact ⟨r, _, rfl, SqT.of h2, rfl, _, _, rfl, _, _, rfl, rfl, hs i σ H hi p⟩

/-! ### bits -/
theorem getD_left {E t : List Int} {e : Nat} (h : e < E.length) : (E ++ t).getD e 0 = E.getD e 0 := by
  rw [List.getD_eq_getElem?_getD, List.getD_eq_getElem?_getD, List.getElem?_append_left h]
theorem getD_right {E t : List Int} (k : Nat) : (E ++ t).getD (E.length + k) 0 = t.getD k 0 := by
  rw [List.getD_eq_getElem?_getD, List.getD_eq_getElem?_getD, List.getElem?_append_right (by omega), Nat.add_sub_cancel_left]
def fl (h : Int) (xs : List Int) : List Int := xs.flatMap fun n => [n, Builtin.bitXor h n]
def estep (h : Int) (E : List Int) (g : Int × Int) : List Int := E ++ [Builtin.bitAnd (E.getD g.1.toNat 0) (E.getD g.2.toNat 0), Builtin.bitXor h (Builtin.bitAnd (E.getD g.1.toNat 0) (E.getD g.2.toNat 0))]
/-- what the ends have, by the numbers of ins and boxes -/
def eL (h : Int) (xs : List Int) (gs : List (Int × Int)) : List Int := gs.foldl (estep h) ([0, h] ++ fl h xs)
def bstep (b : List Int) (g : Int × Int) : List Int := b ++ [((b.getD (g.1 / 2).toNat 0 + g.1) % 2) * ((b.getD (g.2 / 2).toNat 0 + g.2) % 2)]
/-- what the knots have -/
def bL (xs : List Int) (gs : List (Int × Int)) : List Int := gs.foldl bstep ([0] ++ xs)
theorem fl_length (h : Int) (xs : List Int) : (fl h xs).length = 2 * xs.length := by
  induction xs with
  | nil => rfl
  | cons x r ih =>
    show ([x, _] ++ fl h r).length = _
    rw [List.length_append, ih]
    simp
    omega
theorem fl_snoc (h : Int) (xs : List Int) (x : Int) : fl h (xs ++ [x]) = fl h xs ++ [x, Builtin.bitXor h x] := by
  unfold fl
  rw [List.flatMap_append]
  rfl
theorem eL_length (h : Int) (xs : List Int) (gs : List (Int × Int)) : (eL h xs gs).length = 2 * (1 + xs.length + gs.length) := by
  have go : ∀ (gs : List (Int × Int)) (E : List Int), (gs.foldl (estep h) E).length = E.length + 2 * gs.length := by
    intro gs
    induction gs with
    | nil => intro E; rfl
    | cons g r ih =>
      intro E
      rw [List.foldl_cons, ih]
      unfold estep
      rw [List.length_append]
      simp
      omega
  unfold eL
  rw [go, List.length_append, fl_length]
  simp
  omega
theorem bL_length (xs : List Int) (gs : List (Int × Int)) : (bL xs gs).length = 1 + xs.length + gs.length := by
  have go : ∀ (gs : List (Int × Int)) (E : List Int), (gs.foldl bstep E).length = E.length + gs.length := by
    intro gs
    induction gs with
    | nil => intro E; rfl
    | cons g r ih =>
      intro E
      rw [List.foldl_cons, ih]
      unfold bstep
      rw [List.length_append]
      simp
      omega
  unfold bL
  rw [go, List.length_append, List.length_singleton]
theorem eL_snoc (h : Int) (xs : List Int) (gs : List (Int × Int)) (g : Int × Int) : eL h xs (gs ++ [g]) = estep h (eL h xs gs) g := by
  unfold eL
  rw [List.foldl_append]
  rfl
theorem bL_snoc (xs : List Int) (gs : List (Int × Int)) (g : Int × Int) : bL xs (gs ++ [g]) = bstep (bL xs gs) g := by
  unfold bL
  rw [List.foldl_append]
  rfl
/-- ends and knots go together -/
structure Rel (E b : List Int) : Prop where
  len : E.length = 2 * b.length
  bit : ∀ k, b.getD k 0 = 0 ∨ b.getD k 0 = 1
  at' : ∀ e : Nat, e < E.length → E.getD e 0 = (b.getD (e / 2) 0 + e) % 2
theorem Rel.snoc {E b : List Int} (r : Rel E b) {x : Int} (hx : x = 0 ∨ x = 1) : Rel (E ++ [x, Builtin.bitXor 1 x]) (b ++ [x]) := by
  refine ⟨by rw [List.length_append, List.length_append, r.len]; simp; omega, fun k => ?_, fun e he => ?_⟩
  · by_cases hk : k < b.length
    · rw [getD_left hk]; exact r.bit k
    · obtain ⟨j, rfl⟩ : ∃ j, k = b.length + j := ⟨k - b.length, by omega⟩
      rw [getD_right]
      cases j with
      | zero => exact hx
      | succ j => exact .inl rfl
  · by_cases hk : e < E.length
    · rw [getD_left hk, r.at' e hk, getD_left (by have := r.len; omega)]
    · obtain ⟨j, rfl⟩ : ∃ j, e = E.length + j := ⟨e - E.length, by omega⟩
      rw [List.length_append] at he
      have hj : j = 0 ∨ j = 1 := by simp at he; omega
      have hl := r.len
      rw [getD_right]
      rcases hj with rfl | rfl
      · rw [show (E.length + 0) / 2 = b.length + 0 by omega, getD_right]
        show x = (x + _) % 2
        rcases hx with rfl | rfl <;> omega
      · rw [show (E.length + 1) / 2 = b.length + 0 by omega, getD_right]
        show Builtin.bitXor 1 x = (x + _) % 2
        rcases hx with rfl | rfl
        · rw [show Builtin.bitXor 1 0 = 1 by decide]; omega
        · rw [show Builtin.bitXor 1 1 = 0 by decide]; omega
theorem Rel.row {xs : List Int} (hx : ∀ x ∈ xs, x = 0 ∨ x = 1) : ∀ {E b : List Int}, Rel E b → Rel (E ++ fl 1 xs) (b ++ xs) := by
  induction xs with
  | nil => intro E b r; rw [show fl 1 [] = [] from rfl, List.append_nil, List.append_nil]; exact r
  | cons x t ih =>
    intro E b r
    have := ih (fun y hy => hx y (List.mem_cons_of_mem _ hy)) (r.snoc (hx x List.mem_cons_self))
    rw [List.append_assoc, List.append_assoc] at this
    exact this
theorem bit_mul {x y : Int} (hx : x = 0 ∨ x = 1) (hy : y = 0 ∨ y = 1) : Builtin.bitAnd x y = x * y ∧ (x * y = 0 ∨ x * y = 1) := by
  rcases hx with rfl | rfl <;> rcases hy with rfl | rfl <;> exact ⟨by decide, by decide⟩
theorem Rel.gate {E b : List Int} (r : Rel E b) {g : Int × Int} (h1 : 0 ≤ g.1 ∧ g.1 < 2 * b.length) (h2 : 0 ≤ g.2 ∧ g.2 < 2 * b.length) : Rel (estep 1 E g) (bstep b g) := by
  have hl := r.len
  have e : ∀ x : Int, 0 ≤ x → x < 2 * b.length → E.getD x.toNat 0 = (b.getD (x / 2).toNat 0 + x) % 2 := fun x h0 h1 => by
    rw [r.at' x.toNat (by omega), show x.toNat / 2 = (x / 2).toNat by omega]
    congr 2
    omega
  have bt : ∀ x : Int, ((b.getD (x / 2).toNat 0 + x) % 2 = 0 ∨ (b.getD (x / 2).toNat 0 + x) % 2 = 1) := fun x => by omega
  unfold estep bstep
  rw [e _ h1.1 h1.2, e _ h2.1 h2.2]
  obtain ⟨q1, q2⟩ := bit_mul (bt g.1) (bt g.2)
  rw [q1]
  exact r.snoc q2
theorem Rel.gates : ∀ {gs : List (Int × Int)} {E b : List Int}, Rel E b → GateOk b.length gs → Rel (gs.foldl (estep 1) E) (gs.foldl bstep b)
  | [], _, _, r, _ => r
  | g :: gs, E, b, r, h => by
    rw [List.foldl_cons, List.foldl_cons]
    have h0 := h 0 g rfl
    refine Rel.gates (r.gate (by have := h0.1; omega) (by have := h0.2; omega)) fun k g' hk => ?_
    have := h (k + 1) g' (by simpa using hk)
    unfold bstep
    rw [List.length_append, List.length_singleton]
    push_cast at this ⊢
    constructor
    · omega
    · omega
/-- the bits of ends, by those of knots -/
theorem ends_bits {xs : List Int} {gs : List (Int × Int)} (hx : ∀ x ∈ xs, x = 0 ∨ x = 1) (hg : GateOk (1 + xs.length) gs) : Rel (eL 1 xs gs) (bL xs gs) := by
  have r0 : Rel [0, 1] [0] := ⟨rfl, fun k => .inl (by cases k <;> rfl), fun e he => by
    have he : e < 2 := he
    have : e = 0 ∨ e = 1 := by omega
    rcases this with rfl | rfl <;> rfl⟩
  refine Rel.gates (Rel.row hx r0) ?_
  rw [List.length_append, List.length_singleton]
  exact hg
end L2
namespace L2
open PySem PySem.Spec
/-- what ends tell -/
def told (E : List Int) (es : List Int) : List Int := es.map fun e => E.getD e.toNat 0
def toldB (b : List Int) (es : List Int) : List Int := es.map fun e => (b.getD (e / 2).toNat 0 + e) % 2
def Bits (xs : List Int) : Prop := ∀ x ∈ xs, x = 0 ∨ x = 1
theorem told_eq {E b : List Int} (r : Rel E b) {es : List Int} (h : ∀ e ∈ es, 0 ≤ e ∧ e < E.length) : told E es = toldB b es := by
  refine List.map_congr_left fun e he => ?_
  obtain ⟨h0, h1⟩ := h e he
  rw [r.at' e.toNat (by omega), show e.toNat / 2 = (e / 2).toNat by omega]
  congr 2
  omega
theorem toldB_bits (b es : List Int) : Bits (toldB b es) := fun x hx => by
  obtain ⟨e, _, rfl⟩ := List.mem_map.mp hx
  show (_ + e) % 2 = 0 ∨ (_ + e) % 2 = 1
  omega
theorem at_getD {ns : List Int} {i : Int} (h0 : 0 ≤ i) (h : i < ns.length) : atI (ns.map V.int) i = some (.int (ns.getD i.toNat 0)) := by
  obtain ⟨v, h1, _, h2⟩ := at_ints h0 h
  rw [h1, h2]
/-- a work with its row and stand -/
structure Fits (W : Wk) (row st : List Int) : Prop where
  row : row.length = W.ins
  st : st.length = W.boxes.length
theorem Fits.gate {W : Wk} {row st : List Int} (f : Fits W row st) (ok : W.Ok) : GateOk (1 + (row ++ st).length) W.gates := by
  rw [List.length_append, f.row, f.st, ← Nat.add_assoc]
  exact ok.gate
theorem Fits.knots {W : Wk} {row st : List Int} (f : Fits W row st) (h : Int) : (eL h (row ++ st) W.gates).length = 2 * W.knots := by
  rw [eL_length, List.length_append, f.row, f.st]
  show _ = 2 * (1 + W.ins + W.boxes.length + W.gates.length)
  omega
def sp_first_stand : Sp := fun vs H Q _ => ∃ (w b g o : Addr) (W : Wk), vs = [.ref w] ∧ IsWkA H w b g o W ∧ W.Ok ∧ ∀ p H', H p = none → Same H H' → H' p = some (.lst ((W.boxes.map (·.1)).map V.int)) → Q (.ref p) H'
def sp_ends (K : PySem.W.Frag) : Sp := fun vs H Q _ => ∃ (w b g o s r : Addr) (W : Wk) (row st : List Int) (h : Int), vs = [.ref w, .ref s, .ref r, .int h] ∧ IsWkA H w b g o W ∧ W.Ok ∧ SqL K H s (st.map V.int) ∧ SqL K H r (row.map V.int) ∧ Fits W row st ∧
  ∀ p H', H p = none → Same H H' → H' p = some (.lst ((eL h (row ++ st) W.gates).map V.int)) → Q (.ref p) H'
def sp_beat_by (K : PySem.W.Frag) : Sp := fun vs H Q _ => ∃ (w b g o s r : Addr) (W : Wk) (row st : List Int) (h : Int), vs = [.ref w, .ref s, .ref r, .int h] ∧ IsWkA H w b g o W ∧ W.Ok ∧ SqL K H s (st.map V.int) ∧ SqL K H r (row.map V.int) ∧ Fits W row st ∧
  ∀ p l1 l2 H', H p = none → H l1 = none → H l2 = none → l1 ≠ l2 → p ≠ l1 → p ≠ l2 → Same H H' → H' p = some (.tup [.ref l1, .ref l2]) → H' l1 = some (.lst ((told (eL h (row ++ st) W.gates) W.outs).map V.int)) → H' l2 = some (.lst ((told (eL h (row ++ st) W.gates) (W.boxes.map (·.2))).map V.int)) → Q (.ref p) H'
def sp_beat (K : PySem.W.Frag) : Sp := fun vs H Q _ => ∃ (w b g o s r : Addr) (W : Wk) (row st : List Int), vs = [.ref w, .ref s, .ref r] ∧ IsWkA H w b g o W ∧ W.Ok ∧ SqL K H s (st.map V.int) ∧ SqL K H r (row.map V.int) ∧ Fits W row st ∧
  ∀ p l1 l2 H', H p = none → H l1 = none → H l2 = none → l1 ≠ l2 → p ≠ l1 → p ≠ l2 → Same H H' → H' p = some (.tup [.ref l1, .ref l2]) → H' l1 = some (.lst ((told (eL 1 (row ++ st) W.gates) W.outs).map V.int)) → H' l2 = some (.lst ((told (eL 1 (row ++ st) W.gates) (W.boxes.map (·.2))).map V.int)) → Q (.ref p) H'
/-- the law's own bits; the work may be a net -/
def sp_L_bits : Sp := fun vs H Q _ => ∃ (w g s r : Addr) (gs : List Addr) (ps : List (Int × Int)) (v0 v1 v3 : V) (row st : List Int), vs = [.ref w, .ref s, .ref r] ∧ H w = some (.tup [v0, v1, .ref g, v3]) ∧ PrsR H g gs ps ∧ H s = some (.lst (st.map V.int)) ∧ H r = some (.lst (row.map V.int)) ∧ row.length + st.length ≤ 100 ∧ ps.length ≤ 2000 ∧ GateOk (1 + (row ++ st).length) ps ∧
  ∀ p H', H p = none → Same H H' → H' p = some (.lst ((bL (row ++ st) ps).map V.int)) → Q (.ref p) H'
def sp_L_bit_row : Sp := fun vs H Q _ => ∃ (p : Addr) (xs : List Int) (n : Int), vs = [.ref p, .int n] ∧ H p = some (.lst (xs.map V.int)) ∧ (xs.length : Int) = n ∧ Bits xs ∧ Q (.bl true) H
end L2

set_option Elab.async false
set_option linter.all false
set_option maxRecDepth 100000
/-! Nets: what ends become, and that they keep their bits. -/
namespace L2
open PySem PySem.Spec
def val (b : List Int) (e : Int) : Int := (b.getD (e / 2).toNat 0 + e) % 2
theorem val_left {b t : List Int} {e : Int} (h0 : 0 ≤ e) (h : e < 2 * b.length) : val (b ++ t) e = val b e := by
  unfold val
  rw [getD_left (by omega)]
structure Sim (ρ : Int → Int) (b c : List Int) : Prop where
  h : ∀ e : Int, 0 ≤ e → e < 2 * (b.length : Int) → 0 ≤ ρ e ∧ ρ e < 2 * c.length ∧ val b e = val c (ρ e)
theorem Sim.step {ρ : Int → Int} {b c : List Int} (s : Sim ρ b c) {g : Int × Int} (h1 : 0 ≤ g.1 ∧ g.1 < 2 * b.length) (h2 : 0 ≤ g.2 ∧ g.2 < 2 * b.length) (r0 : ρ (2 * b.length) = 2 * c.length) (r1 : ρ (2 * b.length + 1) = 2 * c.length + 1) :
    Sim ρ (bstep b g) (bstep c (ρ g.1, ρ g.2)) := by
  have e1 := (s.h g.1 h1.1 h1.2).2.2
  have e2 := (s.h g.2 h2.1 h2.2).2.2
  have hv : val b g.1 * val b g.2 = val c (ρ g.1) * val c (ρ g.2) := by rw [e1, e2]
  refine ⟨fun e h0 h => ?_⟩
  have hlb : (bstep b g).length = b.length + 1 := by unfold bstep; rw [List.length_append]; rfl
  have hlc : (bstep c (ρ g.1, ρ g.2)).length = c.length + 1 := by unfold bstep; rw [List.length_append]; rfl
  rw [hlb] at h
  rw [hlc]
  by_cases hlt : e < 2 * b.length
  · obtain ⟨q1, q2, q3⟩ := s.h e h0 hlt
    refine ⟨q1, by push_cast; omega, ?_⟩
    unfold bstep
    rw [val_left h0 hlt, val_left q1 q2]
    exact q3
  · have hd : ∀ (b : List Int) (x e : Int), (e = 2 * b.length ∨ e = 2 * b.length + 1) → val (b ++ [x]) e = (x + e) % 2 := fun b x e he => by
      unfold val
      rw [show (e / 2).toNat = b.length + 0 by omega, getD_right]
      rfl
    have he : e = 2 * b.length ∨ e = 2 * b.length + 1 := by push_cast at h; omega
    have hb := hd b (val b g.1 * val b g.2) e he
    have hρ : ρ e = 2 * c.length ∨ ρ e = 2 * c.length + 1 := by
      rcases he with rfl | rfl
      · exact .inl r0
      · exact .inr r1
    have hc := hd c (val c (ρ g.1) * val c (ρ g.2)) (ρ e) hρ
    refine ⟨by omega, by push_cast; omega, ?_⟩
    show val (b ++ [val b g.1 * val b g.2]) e = val (c ++ [val c (ρ g.1) * val c (ρ g.2)]) (ρ e)
    rw [hb, hc, hv]
    rcases he with rfl | rfl
    · rw [r0]; omega
    · rw [r1]; omega
theorem Sim.gates {ρ : Int → Int} : ∀ {gs : List (Int × Int)} {b c : List Int}, Sim ρ b c → GateOk b.length gs → (∀ k : Nat, k < gs.length → ρ (2 * ((b.length : Int) + k)) = 2 * ((c.length : Int) + k) ∧ ρ (2 * ((b.length : Int) + k) + 1) = 2 * ((c.length : Int) + k) + 1) →
    Sim ρ (gs.foldl bstep b) ((gs.map fun g => (ρ g.1, ρ g.2)).foldl bstep c)
  | [], _, _, s, _, _ => s
  | g :: gs, b, c, s, h, hr => by
    rw [List.foldl_cons, List.map_cons, List.foldl_cons]
    have h0 := h 0 g rfl
    have r0 := hr 0 (by simp)
    have hlb : (bstep b g).length = b.length + 1 := by unfold bstep; rw [List.length_append]; rfl
    have hlc : (bstep c (ρ g.1, ρ g.2)).length = c.length + 1 := by unfold bstep; rw [List.length_append]; rfl
    refine Sim.gates (s.step (by have := h0.1; omega) (by have := h0.2; omega) (by simpa using r0.1) (by simpa using r0.2)) (fun k g' hk => ?_) fun k hk => ?_
    · have := h (k + 1) g' (by simpa using hk)
      rw [hlb]
      push_cast at this ⊢
      constructor <;> omega
    · have := hr (k + 1) (by simpa using hk)
      rw [hlb, hlc]
      push_cast at this ⊢
      rw [show 2 * ((b.length : Int) + 1 + k) = 2 * ((b.length : Int) + (k + 1)) by omega, show 2 * ((c.length : Int) + 1 + k) = 2 * ((c.length : Int) + (k + 1)) by omega]
      exact this
/-- [(f a, f b) for a, b in pairs] -/
theorem comp_pairs_tup {K : PySem.W.Frag} {a : Addr} {c : St} {te : TE} {H : Hp} {Fin : List V → Hp → Prop} {rs : List Addr} {ps : List (Int × Int)} (f : Int × Int → Int × Int) (hP : PrsR H a rs ps) (hz : ps.length ≤ 100000)
    (hs : ∀ p ∈ ps, ∀ H1, Same H H1 → ∀ N : V → Hp → Prop, (∀ t, H1 t = none → N (.ref t) (upd H1 t (.tup [.int (f p).1, .int (f p).2]))) → te (some (.int p.1) :: some (.int p.2) :: c) H1 N)
    (hd : ∀ (bs : List Addr) H', Same H H' → Paired (fun r (p : Int × Int) => H' r = some (.tup [.int p.1, .int p.2])) bs (ps.map f) → Fin (bs.map V.ref) H') : CompG (Itl K a) 2 c (gTup K 2 (gCons (gName 0) (gCons (gName 1) gNil))) tYes te H Fin := by
  refine comp_pairs (rs := rs) (ps := ps) (fun i ys H' => ∃ bs : List Addr, ys = bs.map V.ref ∧ Same H H' ∧ Paired (fun r (p : Int × Int) => H' r = some (.tup [.int p.1, .int p.2])) bs ((ps.take i).map f)) ⟨[], rfl, Same.refl _, .nil⟩ ?_ ?_ ?_ ?_
  · rintro i ys H' _ ⟨bs, _, s, _⟩
    exact hP.same s
  · rintro i ys H' hi ⟨bs, rfl, _, hb⟩
    rw [List.length_map, Paired.length hb, List.length_map, List.length_take]
    exact smallL (by omega)
  · rintro i ys H' hi ⟨bs, rfl, s, hb⟩
    unfold tYes
    dsimp only
    rw [if_pos rfl]
    refine hs _ (List.getElem_mem hi) H' s _ fun t ht => ⟨bs ++ [t], by rw [List.map_append]; rfl, s.trans (same_new ht _), ?_⟩
    rw [List.take_succ_eq_append_getElem hi, List.map_append]
    exact pairsNew _ _ hb ht
  · rintro ys H' ⟨bs, rfl, s, hb⟩
    rw [List.take_length] at hb
    exact hd bs H' s hb
/-! ### the start net -/
def seF (W : Wk) (e : Int) : Int := if e / 2 - W.ins - 1 < 0 then e else if e / 2 - W.ins - 1 < (W.boxes.length : Int) then ((W.boxes.getD (e / 2 - W.ins - 1).toNat (0, 0)).1 + e) % 2 else e - 2 * W.boxes.length
theorem xor_bit {f e : Int} (h : f = 0 ∨ f = 1) : Builtin.bitXor f (e % 2) = (f + e) % 2 := by
  have : e % 2 = 0 ∨ e % 2 = 1 := by omega
  rcases h with rfl | rfl <;> rcases this with q | q <;> rw [q]
  · rw [show Builtin.bitXor 0 0 = 0 by decide]; omega
  · rw [show Builtin.bitXor 0 1 = 1 by decide]; omega
  · rw [show Builtin.bitXor 1 0 = 1 by decide]; omega
  · rw [show Builtin.bitXor 1 1 = 0 by decide]; omega
theorem seF_bound {W : Wk} {e : Int} {k : Nat} (h0 : 0 ≤ e) (h : e < 2 * ((W.first : Int) + k)) : 0 ≤ seF W e ∧ seF W e < 2 * (((1 + W.ins : Nat) : Int) + k) := by
  have hf : W.first = 1 + W.ins + W.boxes.length := rfl
  unfold seF
  split
  · omega
  · split
    · omega
    · omega
def startGates (W : Wk) : List (Int × Int) := W.gates.map fun g => (seF W g.1, seF W g.2)
theorem startOk {W : Wk} (ok : W.Ok) : GateOk (1 + W.ins) (startGates W) := fun k g hk => by
  unfold startGates at hk
  rw [List.getElem?_map] at hk
  obtain ⟨x, hx, rfl⟩ := Option.map_eq_some_iff.mp hk
  obtain ⟨⟨a0, a1⟩, b0, b1⟩ := ok.gate k x hx
  exact ⟨seF_bound a0 a1, seF_bound b0 b1⟩
theorem bits0 (row : List Int) : val ([0] ++ row) 0 = 0 ∧ val ([0] ++ row) 1 = 1 := ⟨rfl, rfl⟩
theorem start_sim {W : Wk} (ok : W.Ok) {row : List Int} (hr : row.length = W.ins) : Sim (seF W) (bL (row ++ W.boxes.map (·.1)) W.gates) (bL row (startGates W)) := by
  have hf : W.first = 1 + W.ins + W.boxes.length := rfl
  have hb : (([0] : List Int) ++ (row ++ W.boxes.map (·.1))).length = W.first := by
    rw [List.length_append, List.length_append, List.length_map, hr]
    show 1 + (W.ins + W.boxes.length) = _
    omega
  have hc : (([0] : List Int) ++ row).length = 1 + W.ins := by rw [List.length_append, hr]; rfl
  unfold bL startGates
  refine Sim.gates ⟨fun e h0 h => ?_⟩ (by rw [hb]; exact ok.gate) fun k hk => ?_
  · rw [hb] at h
    obtain ⟨q1, q2⟩ := seF_bound (W := W) (k := 0) h0 (by simpa using h)
    refine ⟨q1, by rw [hc]; simpa using q2, ?_⟩
    unfold seF
    split
    · rename_i h1
      rw [← List.append_assoc, val_left h0 (by rw [hc]; push_cast; omega)]
    · split
      · rename_i h1 h2
        have e1 : val ([0] ++ (row ++ W.boxes.map (·.1))) e = ((W.boxes.getD (e / 2 - W.ins - 1).toNat (0, 0)).1 + e) % 2 := by
          unfold val
          rw [← List.append_assoc, show (e / 2).toNat = ([0] ++ row).length + (e / 2 - W.ins - 1).toNat by rw [hc]; omega, getD_right]
          congr 2
          rw [List.getD_eq_getElem?_getD, List.getD_eq_getElem?_getD, List.getElem?_map]
          cases W.boxes[(e / 2 - ↑W.ins - 1).toNat]? <;> rfl
        rw [e1]
        generalize ((W.boxes.getD (e / 2 - W.ins - 1).toNat (0, 0)).1 + e) = x
        have hx : x % 2 = 0 ∨ x % 2 = 1 := by omega
        rcases hx with q | q <;> rw [q]
        · exact (bits0 row).1.symm
        · exact (bits0 row).2.symm
      · omega
  · rw [hb, hc]
    have h1 : ∀ d : Int, (d = 0 ∨ d = 1) → seF W (2 * ((W.first : Int) + k) + d) = 2 * (((1 + W.ins : Nat) : Int) + k) + d := fun d hd => by
      unfold seF
      rw [if_neg (by omega), if_neg (by omega)]
      omega
    exact ⟨by simpa using h1 0 (.inl rfl), h1 1 (.inr rfl)⟩
/-! ### the next net -/
def xr (x e : Int) : Int := if e % 2 = 0 then x else x + 1 - 2 * (x % 2)
theorem xor_xr (x e : Int) : Builtin.bitXor x (e % 2) = xr x e := by
  unfold xr
  have : e % 2 = 0 ∨ e % 2 = 1 := by omega
  rcases this with q | q <;> rw [q]
  · rw [PyProof.Rows.bitXor_zero, if_pos rfl]
  · rw [PyProof.Rows.bitXor_and, PyProof.Rows.bitAnd_m1, if_neg (by decide)]
def neF (W : Wk) (e : Int) : Int := if e / 2 ≤ (W.ins : Int) + W.boxes.length then e else e + 2 * W.ins
def teF (W : Wk) (e : Int) : Int := if e < 2 then e else if e / 2 - W.ins - 1 < 0 then e + 2 * ((W.ins : Int) + W.boxes.length) else if e / 2 - W.ins - 1 < (W.boxes.length : Int) then xr (neF W (W.boxes.getD (e / 2 - W.ins - 1).toNat (0, 0)).2) e else e + 2 * ((W.ins : Int) + W.gates.length)
def nowGates (W : Wk) : List (Int × Int) := W.gates.map fun g => (neF W g.1, neF W g.2)
def thenGates (W : Wk) : List (Int × Int) := W.gates.map fun g => (teF W g.1, teF W g.2)
theorem val_xr (b : List Int) (x e : Int) (h : 0 ≤ x) : val b (xr x e) = (val b x + e) % 2 := by
  unfold val xr
  split
  · omega
  · rw [show ((x + 1 - 2 * (x % 2)) / 2).toNat = (x / 2).toNat by omega]
    omega
theorem neF_bound {W : Wk} {e : Int} {k : Nat} (h0 : 0 ≤ e) (h : e < 2 * ((W.first : Int) + k)) : 0 ≤ neF W e ∧ neF W e < 2 * (((1 + 2 * W.ins + W.boxes.length : Nat) : Int) + k) := by
  have hf : W.first = 1 + W.ins + W.boxes.length := rfl
  unfold neF
  split <;> omega
theorem box_get {W : Wk} (ok : W.Ok) {k : Nat} (h : k < W.boxes.length) : 0 ≤ (W.boxes.getD k (0, 0)).2 ∧ (W.boxes.getD k (0, 0)).2 < 2 * (W.knots : Int) := by
  rw [List.getD_eq_getElem?_getD, List.getElem?_eq_getElem h]
  exact (ok.box _ (List.getElem_mem h)).2
theorem teF_bound {W : Wk} (ok : W.Ok) {e : Int} {k : Nat} (h0 : 0 ≤ e) (h : e < 2 * ((W.first : Int) + k)) : 0 ≤ teF W e ∧ teF W e < 2 * (((1 + 2 * W.ins + W.boxes.length + W.gates.length : Nat) : Int) + k) := by
  have hf : W.first = 1 + W.ins + W.boxes.length := rfl
  have hk : W.knots = 1 + W.ins + W.boxes.length + W.gates.length := rfl
  unfold teF
  split
  · omega
  · split
    · omega
    · split
      · rename_i h1 h2 h3
        obtain ⟨b0, b1⟩ := box_get ok (k := (e / 2 - W.ins - 1).toNat) (by omega)
        obtain ⟨n0, n1⟩ := neF_bound (W := W) (k := W.gates.length) b0 (by rw [hk] at b1; omega)
        unfold xr
        split <;> omega
      · omega
theorem nextOk {W : Wk} (ok : W.Ok) : GateOk (1 + (2 * W.ins + W.boxes.length)) (nowGates W ++ thenGates W) := fun k g hk => by
  have hl : (nowGates W).length = W.gates.length := by unfold nowGates; rw [List.length_map]
  by_cases hlt : k < W.gates.length
  · rw [List.getElem?_append_left (by omega)] at hk
    unfold nowGates at hk
    rw [List.getElem?_map] at hk
    obtain ⟨x, hx, rfl⟩ := Option.map_eq_some_iff.mp hk
    obtain ⟨⟨a0, a1⟩, b0, b1⟩ := ok.gate k x hx
    have q1 := neF_bound a0 a1
    have q2 := neF_bound b0 b1
    push_cast at q1 q2 ⊢
    exact ⟨⟨q1.1, by omega⟩, q2.1, by omega⟩
  · rw [List.getElem?_append_right (by omega), hl] at hk
    unfold thenGates at hk
    rw [List.getElem?_map] at hk
    obtain ⟨x, hx, rfl⟩ := Option.map_eq_some_iff.mp hk
    obtain ⟨⟨a0, a1⟩, b0, b1⟩ := ok.gate (k - W.gates.length) x hx
    have q1 := teF_bound ok a0 a1
    have q2 := teF_bound ok b0 b1
    have hs : ((k - W.gates.length : Nat) : Int) = (k : Int) - W.gates.length := by omega
    push_cast at q1 q2 ⊢
    rw [hs] at q1 q2
    exact ⟨⟨q1.1, by omega⟩, q2.1, by omega⟩
section
variable {W : Wk} (ok : W.Ok) {mine yours stand : List Int} (hm : mine.length = W.ins) (hy : yours.length = W.ins) (hs : stand.length = W.boxes.length)
include ok hm hy hs
theorem now_sim : Sim (neF W) (bL (mine ++ stand) W.gates) (bL (mine ++ stand ++ yours) (nowGates W)) := by
  have hf : W.first = 1 + W.ins + W.boxes.length := rfl
  have hb : (([0] : List Int) ++ (mine ++ stand)).length = W.first := by
    rw [List.length_append, List.length_append, hm, hs]
    show 1 + (W.ins + W.boxes.length) = _
    omega
  have hc : (([0] : List Int) ++ (mine ++ stand ++ yours)).length = 1 + 2 * W.ins + W.boxes.length := by
    rw [List.length_append, List.length_append, List.length_append, hm, hs, hy]
    show 1 + (W.ins + W.boxes.length + W.ins) = _
    omega
  unfold bL nowGates
  refine Sim.gates ⟨fun e h0 h => ?_⟩ (by rw [hb]; exact ok.gate) fun k hk => ?_
  · rw [hb] at h
    have e1 : neF W e = e := by
      unfold neF
      rw [if_pos (by omega)]
    rw [e1]
    refine ⟨h0, by rw [hc]; push_cast; omega, ?_⟩
    rw [show ([0] : List Int) ++ (mine ++ stand ++ yours) = ([0] ++ (mine ++ stand)) ++ yours by simp]
    exact (val_left h0 (by rw [hb]; exact h)).symm
  · rw [hb, hc]
    have h1 : ∀ d : Int, (d = 0 ∨ d = 1) → neF W (2 * ((W.first : Int) + k) + d) = 2 * (((1 + 2 * W.ins + W.boxes.length : Nat) : Int) + k) + d := fun d hd => by
      unfold neF
      rw [if_neg (by omega)]
      omega
    exact ⟨by simpa using h1 0 (.inl rfl), h1 1 (.inr rfl)⟩
theorem then_sim : Sim (teF W) (bL (yours ++ W.boxes.map fun x => val (bL (mine ++ stand) W.gates) x.2) W.gates) (bL (mine ++ stand ++ yours) (nowGates W ++ thenGates W)) := by
  have hf : W.first = 1 + W.ins + W.boxes.length := rfl
  have hk : W.knots = 1 + W.ins + W.boxes.length + W.gates.length := rfl
  have S := now_sim ok hm hy hs
  have hbk : (bL (mine ++ stand) W.gates).length = W.knots := by rw [bL_length, List.length_append, hm, hs, hk]; omega
  have hb : (([0] : List Int) ++ (yours ++ W.boxes.map fun x => val (bL (mine ++ stand) W.gates) x.2)).length = W.first := by
    rw [List.length_append, List.length_append, hy, List.length_map]
    show 1 + (W.ins + W.boxes.length) = _
    omega
  have hc : (bL (mine ++ stand ++ yours) (nowGates W)).length = 1 + 2 * W.ins + W.boxes.length + W.gates.length := by
    rw [bL_length, List.length_append, List.length_append, hm, hs, hy]
    unfold nowGates
    rw [List.length_map]
    omega
  obtain ⟨tl, htl⟩ : ∃ tl, bL (mine ++ stand ++ yours) (nowGates W) = ([0] ++ (mine ++ stand ++ yours)) ++ tl := by
    have go : ∀ (gs : List (Int × Int)) (b : List Int), ∃ tl, gs.foldl bstep b = b ++ tl := by
      intro gs
      induction gs with
      | nil => exact fun b => ⟨[], by simp⟩
      | cons g r ih =>
        intro b
        obtain ⟨t, h⟩ := ih (bstep b g)
        exact ⟨[_] ++ t, by rw [List.foldl_cons, h]; unfold bstep; rw [List.append_assoc]⟩
    exact go _ _
  have hsplit : bL (mine ++ stand ++ yours) (nowGates W ++ thenGates W) = (thenGates W).foldl bstep (bL (mine ++ stand ++ yours) (nowGates W)) := by
    unfold bL
    rw [List.foldl_append]
  rw [hsplit]
  unfold thenGates
  rw [show bL (yours ++ W.boxes.map fun x => val (bL (mine ++ stand) W.gates) x.2) W.gates = W.gates.foldl bstep ([0] ++ (yours ++ W.boxes.map fun x => val (bL (mine ++ stand) W.gates) x.2)) from rfl]
  refine Sim.gates ⟨fun e h0 h => ?_⟩ (by rw [hb]; exact ok.gate) fun k hk => ?_
  · rw [hb] at h
    obtain ⟨q1, q2⟩ := teF_bound ok (k := 0) h0 (by simpa using h)
    refine ⟨q1, by rw [hc]; simpa using q2, ?_⟩
    unfold teF
    split
    · rename_i h1
      rw [htl, List.append_assoc]
      have : e = 0 ∨ e = 1 := by omega
      rcases this with rfl | rfl
      · exact ((bits0 _).1).trans ((bits0 _).1).symm
      · exact ((bits0 _).2).trans ((bits0 _).2).symm
    · split
      · rename_i h1 h2
        have hA : ∀ t : List Int, (([0] : List Int) ++ (yours ++ t)).getD (e / 2).toNat 0 = yours.getD ((e / 2).toNat - 1) 0 := fun t => by
          obtain ⟨k, hk'⟩ : ∃ k, (e / 2).toNat = 1 + k := ⟨(e / 2).toNat - 1, by omega⟩
          rw [hk']
          show (([0] : List Int) ++ (yours ++ t)).getD (([0] : List Int).length + k) 0 = yours.getD (1 + k - 1) 0
          rw [getD_right, getD_left (by rw [hy]; omega), Nat.add_sub_cancel_left]
        have hB : (([0] : List Int) ++ (mine ++ stand ++ yours) ++ tl).getD ((e + 2 * ((W.ins : Int) + W.boxes.length)) / 2).toNat 0 = yours.getD ((e / 2).toNat - 1) 0 := by
          have hl : (([0] : List Int) ++ (mine ++ stand)).length = 1 + (W.ins + W.boxes.length) := by
            rw [List.length_append, List.length_append, hm, hs]
            rfl
          rw [show ([0] : List Int) ++ (mine ++ stand ++ yours) ++ tl = ([0] ++ (mine ++ stand)) ++ (yours ++ tl) by simp, show ((e + 2 * ((W.ins : Int) + W.boxes.length)) / 2).toNat = (([0] : List Int) ++ (mine ++ stand)).length + ((e / 2).toNat - 1) by rw [hl]; omega, getD_right, getD_left (by rw [hy]; omega)]
        rw [htl]
        show (_ + e) % 2 = (_ + (e + 2 * ((W.ins : Int) + W.boxes.length))) % 2
        rw [hA, hB]
        omega
      · split
        · rename_i h1 h2 h3
          have hlt : (e / 2 - W.ins - 1).toNat < W.boxes.length := by omega
          obtain ⟨b0, b1⟩ := box_get ok hlt
          obtain ⟨n0, n1, n2⟩ := S.h _ b0 (by rw [hbk]; exact b1)
          rw [val_xr _ _ _ n0, ← n2]
          have e1 : val ([0] ++ (yours ++ W.boxes.map fun x => val (bL (mine ++ stand) W.gates) x.2)) e = (val (bL (mine ++ stand) W.gates) (W.boxes.getD (e / 2 - W.ins - 1).toNat (0, 0)).2 + e) % 2 := by
            conv => lhs; unfold val
            rw [← List.append_assoc, show (e / 2).toNat = ([0] ++ yours).length + (e / 2 - W.ins - 1).toNat by rw [List.length_append, hy]; show _ = 1 + W.ins + _; omega, getD_right]
            congr 2
            rw [List.getD_eq_getElem?_getD, List.getElem?_map, List.getElem?_eq_getElem hlt, List.getD_eq_getElem?_getD, List.getElem?_eq_getElem hlt]
            rfl
          rw [e1]
        · omega
  · rw [hb, hc]
    have h1 : ∀ d : Int, (d = 0 ∨ d = 1) → teF W (2 * ((W.first : Int) + k) + d) = 2 * (((1 + 2 * W.ins + W.boxes.length + W.gates.length : Nat) : Int) + k) + d := fun d hd => by
      unfold teF
      rw [if_neg (by omega), if_neg (by omega), if_neg (by omega)]
      omega
    exact ⟨by simpa using h1 0 (.inl rfl), h1 1 (.inr rfl)⟩
theorem now_all {e : Int} (h0 : 0 ≤ e) (h : e < 2 * (W.knots : Int)) : val (bL (mine ++ stand) W.gates) e = val (bL (mine ++ stand ++ yours) (nowGates W ++ thenGates W)) (neF W e) := by
  have hk : W.knots = 1 + W.ins + W.boxes.length + W.gates.length := rfl
  have hbk : (bL (mine ++ stand) W.gates).length = W.knots := by rw [bL_length, List.length_append, hm, hs, hk]; omega
  obtain ⟨q1, q2, q3⟩ := (now_sim ok hm hy hs).h e h0 (by rw [hbk]; exact h)
  rw [q3]
  have go : ∀ (gs : List (Int × Int)) (b : List Int), ∃ tl, gs.foldl bstep b = b ++ tl := by
    intro gs
    induction gs with
    | nil => exact fun b => ⟨[], by simp⟩
    | cons g r ih =>
      intro b
      obtain ⟨t, h⟩ := ih (bstep b g)
      exact ⟨[_] ++ t, by rw [List.foldl_cons, h]; unfold bstep; rw [List.append_assoc]⟩
  obtain ⟨tl, htl⟩ := go (thenGates W) (bL (mine ++ stand ++ yours) (nowGates W))
  have hsplit : bL (mine ++ stand ++ yours) (nowGates W ++ thenGates W) = bL (mine ++ stand ++ yours) (nowGates W) ++ tl := by
    rw [← htl]
    unfold bL
    rw [List.foldl_append]
  rw [hsplit, val_left q1 q2]
end
/-! ### contracts -/
structure IsNet (H : Hp) (p g : Addr) (rs : List Addr) (n : Int) (ps : List (Int × Int)) : Prop where
  p : H p = some (.tup [.int n, .ref g])
  g : PrsR H g rs ps
theorem IsNet.same {H H' : Hp} {p g : Addr} {rs : List Addr} {n : Int} {ps : List (Int × Int)} (s : Same H H') (h : IsNet H p g rs n ps) : IsNet H' p g rs n ps := ⟨s _ _ h.p, h.g.same s⟩
def sp_now_net : Sp := fun vs H Q _ => ∃ (w b g o : Addr) (W : Wk), vs = [.ref w] ∧ IsWkA H w b g o W ∧ W.Ok ∧ ∀ p g' rs H', H p = none → H g' = none → p ≠ g' → Same H H' → IsNet H' p g' rs ((W.ins + W.boxes.length : Nat) : Int) W.gates → Q (.ref p) H'
def sp_start_net : Sp := fun vs H Q _ => ∃ (w b g o : Addr) (W : Wk), vs = [.ref w] ∧ IsWkA H w b g o W ∧ W.Ok ∧ ∀ p g' rs H', H p = none → H g' = none → p ≠ g' → Same H H' → IsNet H' p g' rs W.ins (startGates W) → Q (.ref p) H'
def sp_start_end : Sp := fun vs H Q _ => ∃ (w b g o : Addr) (W : Wk) (e : Int), vs = [.ref w, .int e] ∧ IsWkA H w b g o W ∧ W.Ok ∧ 0 ≤ e ∧ Q (.int (seF W e)) H
def sp_next_net : Sp := fun vs H Q _ => ∃ (w b g o : Addr) (W : Wk), vs = [.ref w] ∧ IsWkA H w b g o W ∧ W.Ok ∧ ∀ p g' rs H', H p = none → H g' = none → p ≠ g' → Same H H' → IsNet H' p g' rs ((2 * W.ins + W.boxes.length : Nat) : Int) (nowGates W ++ thenGates W) → Q (.ref p) H'
def sp_now_end : Sp := fun vs H Q _ => ∃ (w b g o : Addr) (W : Wk) (e : Int), vs = [.ref w, .int e] ∧ IsWkA H w b g o W ∧ W.Ok ∧ 0 ≤ e ∧ Q (.int (neF W e)) H
def sp_then_end : Sp := fun vs H Q _ => ∃ (w b g o : Addr) (W : Wk) (e : Int), vs = [.ref w, .int e] ∧ IsWkA H w b g o W ∧ W.Ok ∧ 0 ≤ e ∧ Q (.int (teF W e)) H
def sp_L_whole : Sp := fun vs H Q _ => ∃ i : Int, vs = [.int i] ∧ Q (.bl true) H
def sp_L_is_net : Sp := fun vs H Q _ => ∃ (p g : Addr) (rs : List Addr) (n m : Int) (ps : List (Int × Int)), vs = [.ref p, .int n, .int m] ∧ IsNet H p g rs n ps ∧ (ps.length : Int) = m ∧ m ≤ 5000 ∧ 0 ≤ n ∧ GateOk (1 + n.toNat) ps ∧ Q (.bl true) H
end L2

set_option Elab.async false
set_option linter.all false
set_option maxRecDepth 100000
/-! range with a step -/
namespace L2
open PySem PySem.Spec PyProof.Rows
def Itrs (lo c : Int) (n : Nat) : It := ⟨fun i _ => i < n, fun i H x H' => H' = H ∧ x = .int (lo + i * c), fun i _ => n ≤ i⟩
theorem turn_ranges {P : Program} {w : World} {K : PySem.W.Frag} {tg : Expr} (it : Addr) (lo c : Int) (n : Nat) : Turn P w K tg (Itrs lo c n) [it] it (fun i h => IsRangeIter h it (lo + (i : Nat) * c) ((n : Int) - (i : Nat)) c) where
  mem := by simp
  obj := fun i h st b hb => by
    have e : b = it := by simpa using hb
    subst e
    exact ⟨_, st, fun v z => by
      have z' : Data.fields _ = Data.cell v := z
      cases z'⟩
  keep := fun i h h' st k => k it (by simp) _ st
  item := by
    intro X hP hw hK hc i pins s σ H E I hf st hg
    subst hP hw hK
    obtain ⟨f0, f1, f2, f3, f4, f5⟩ := hf it (by simp)
    have W := Walks.range (prog := X.prog) (w := X.w) (I.ok.hd hc) it lo c n
    refine W.item i s _ _ hg st fun v h' tk hv st' kk => ?_
    obtain ⟨t, rfl⟩ := hv
    have I1 : Inv X pins σ H { s with heap := h', toks := tk } := I.turned (fun b o hb e => kk b o (by simpa using hb) e) f0 f1 f3 f4 f5
    exact ⟨_, rfl, go_of (s := { s with heap := h', toks := tk }) (n := "range_iterator") st' rfl rfl (by decide) ⟨.int (lo + i * c), H, I1, ⟨t, rfl⟩, ⟨rfl, rfl⟩, st', fun b hb => (hf b hb).1⟩⟩
  done := by
    intro X hP hw hK hc i pins s σ H E I hf st hg
    subst hP hw hK
    obtain ⟨f0, f1, f2, f3, f4, f5⟩ := hf it (by simp)
    exact wpAny_pyNext_range_end (I.ok.hd hc) st (by have : n ≤ i := hg; omega) fun h' eb => ⟨rfl, I.turned (t' := s.toks) (fun b o hb e => eb b o hb e) f0 f1 f3 f4 f5⟩
  self := fun _ _ _ _ _ st h => wpAny_pyIter_rangeiter st h
section
variable {X : Cx} {tg : Expr}
theorem range_its {pins : List (Addr × Obj)} {σ : St} {H : Hp} {s : Shared} {R : It → Hp → Prop} {E : Value → Shared → Prop} {lo hi c : Int} {t u v : Tok} {tk : Nat} (I : Inv X pins σ H s) (hsm : Builtin.Range.small lo hi c = true)
    (q : R (Itrs lo c (Builtin.Range.rangeSize lo hi c).toNat) H) : wpAny (model X.prog X.w) X.A (pyIter (.ref s.heap.objs.size)) (PIE X pins σ tg R) E { s with heap := s.heap.push { cls := .type "range", data := .fields #[.int lo t, .int hi u, .int c v] }, toks := tk } := by
  refine wpAny_pyIter_range (IsRange.new ..) hsm ?_
  have I1 : Inv X pins σ H { s with heap := s.heap.push { cls := .type "range", data := .fields #[.int lo t, .int hi u, .int c v] }, toks := tk } := I.kept fun b o e => Heap.get?_push_of_some _ e
  refine ⟨(s.heap.push { cls := .type "range", data := .fields #[.int lo t, .int hi u, .int c v] }).objs.size, [(s.heap.push { cls := .type "range", data := .fields #[.int lo t, .int hi u, .int c v] }).objs.size], _, _, H, rfl,
    I1.kept (t' := tk) fun b o e => Heap.get?_push_of_some _ e, turn_ranges _ lo c _, ?_, fun b hb => ?_, q⟩
  · have e1 : lo + ((0 : Nat) : Int) * c = lo := by simp
    have e2 : (((Builtin.Range.rangeSize lo hi c).toNat : Nat) : Int) - ((0 : Nat) : Int) = Builtin.Range.rangeSize lo hi c := by have := rangeSize_toNat lo hi c; omega
    show IsRangeIter _ _ (lo + ((0 : Nat) : Int) * c) ((((Builtin.Range.rangeSize lo hi c).toNat : Nat) : Int) - ((0 : Nat) : Int)) c
    rw [e1, e2]
    exact Heap.get?_push_size _ rfl
  · have e : b = (s.heap.push { cls := .type "range", data := .fields #[.int lo t, .int hi u, .int c v] }).objs.size := by simpa using hb
    subst e
    exact I1.fpOk (Nat.le_refl _) (I1.hok.fresh (Nat.le_refl _))
def iRng3 (ta : TA) : TI := fun σ H R => ta σ H fun vs H1 => ∃ i j c : Int, vs = [.int i, .int j, .int c] ∧ (c ≠ 0 ∧ c.natAbs < 1073741824 ∧ Builtin.Range.small i j c = true) ∧ R (Itrs i c (Builtin.Range.rangeSize i j c).toNat) H1
theorem pi_range3 {a b c : Expr} {ta : TA} {p pos : Pos} (hg : Gl X "range") (hm : X.mg "range" = none) (ha : PA X [a, b, c] ta) (hs : starEach [a, b, c] X.env = [(false, eval a X.env), (false, eval b X.env), (false, eval c X.env)] := by rfl) (hs2 : starEach [b, c] X.env = [(false, eval b X.env), (false, eval c X.env)] := by rfl) :
    PI X tg (.Call (.Name "range" p) [a, b, c] [] pos) (iRng3 ta) := by
  intro pins s σ H R I h
  refine Call_ (ld_blt I hg hm boot_range (PyProof.Rows.callWith_type1 (thn (ha pos pins s σ H _ I h) fun us s1 ⟨vs, H1, I1, r1, q1⟩ => ?_) (by rw [hs, hs2]) (by rw [hs2]; rfl)))
  obtain ⟨i, j, k, e, ⟨q1, q2, q3⟩, q⟩ := q1
  subst e
  cases r1 with
  | cons r rr =>
    cases rr with
    | cons r' rr =>
      cases rr with
      | cons r'' rr =>
        cases rr
        obtain ⟨t, rfl⟩ := r
        obtain ⟨t', rfl⟩ := r'
        obtain ⟨t'', rfl⟩ := r''
        exact call_range_3 q1 (range_its I1 q3 q) (.inl (PyProof.noPylong_small q2))
end
theorem for_ranges {lo c : Int} {n : Nat} {g : TG} {tb : TS} {D : Ends} {σ : St} {H : Hp} (Pv : Nat → St → Hp → Prop) (h0 : Pv 0 σ H)
    (hs : ∀ i σ H, i < n → Pv i σ H → g (.int (lo + i * c)) σ H fun σ2 H2 => tb { D with nx := Pv (i + 1), ct := Pv (i + 1), bk := D.nx } σ2 H2) (hd : ∀ σ H, Pv n σ H → D.nx σ H) :
    ∃ W : Nat → Nat → St → Hp → Prop, (∃ m, W 0 m σ H) ∧ ∀ i m σ H, W i m σ H →
      ((Itrs lo c n).stop i H ∧ D.nx σ H) ∨ ((Itrs lo c n).go i H ∧ ∃ N : St → Hp → Prop, (∀ σ' H', N σ' H' → ∃ m', m' < m ∧ W (i + 1) m' σ' H') ∧ ∀ x H', (Itrs lo c n).yld i H x H' → g x σ H' fun σ2 H2 => tb { D with nx := N, ct := N, bk := D.nx } σ2 H2) := by
  refine ⟨fun i m σ H => m = n - i ∧ i ≤ n ∧ Pv i σ H, ⟨n, by simp, Nat.zero_le _, h0⟩, ?_⟩
  rintro i m σ H ⟨rfl, hi, p⟩
  by_cases hlt : i < n
  · refine .inr ⟨hlt, Pv (i + 1), fun σ' H' p' => ⟨n - (i + 1), by omega, rfl, hlt, p'⟩, fun x H' y => ?_⟩
    obtain ⟨e, y⟩ := y
    subst e y
    exact hs i σ _ hlt p
  · have e : i = n := by omega
    subst e
    exact .inl ⟨Nat.le_refl _, hd σ H p⟩
end L2

set_option Elab.async false
set_option linter.all false
set_option maxRecDepth 100000
/-! Any thing, by what it reads as. -/
namespace L2
open PySem PySem.Spec PyProof.Rows
section
variable {X : Cx}
theorem op_isnotB : OpR X (compareOp .IsNot) (fun x y H Q => ∃ k b, y = .bl k ∧ x = .bl b ∧ Q (.bl (!decide (b = k))) H) := by
  intro pins s σ H x y v u Q I rx ry h
  obtain ⟨k, b, rfl, rfl, q⟩ := h
  cases ry
  cases rx
  refine wpAny_isNot_plain rfl ?_
  refine ⟨.bl _, H, I, rfl, ?_⟩
  cases k <;> cases b <;> exact q
end
mutual
/-- a value reads as a thing, all of it in the heap -/
def Dat (H : Hp) : PyData → V → Prop
  | .none, v => v = .non
  | .bool b, v => v = .bl b
  | .int i, v => v = .int i
  | .str x, v => v = .str x
  | .list ds, v => ∃ p xs, v = .ref p ∧ H p = some (.lst xs) ∧ Dats H ds xs
  | .tuple ds, v => ∃ p xs, v = .ref p ∧ H p = some (.tup xs) ∧ Dats H ds xs
  | .dict _, _ => False
def Dats (H : Hp) : List PyData → List V → Prop
  | [], xs => xs = []
  | d :: ds, xs => ∃ x r, xs = x :: r ∧ Dat H d x ∧ Dats H ds r
end
section
variable {H H' : Hp}
mutual
theorem Dat.same (e : Same H H') : ∀ {d : PyData} {v : V}, Dat H d v → Dat H' d v
  | .none, _, h => by unfold Dat at *; exact h
  | .bool _, _, h => by unfold Dat at *; exact h
  | .int _, _, h => by unfold Dat at *; exact h
  | .str _, _, h => by unfold Dat at *; exact h
  | .list ds, _, h => by
    unfold Dat at *
    obtain ⟨p, xs, h1, h2, h3⟩ := h
    exact ⟨p, xs, h1, e _ _ h2, Dats.same e h3⟩
  | .tuple ds, _, h => by
    unfold Dat at *
    obtain ⟨p, xs, h1, h2, h3⟩ := h
    exact ⟨p, xs, h1, e _ _ h2, Dats.same e h3⟩
  | .dict _, _, h => by unfold Dat at h; exact h.elim
theorem Dats.same (e : Same H H') : ∀ {ds : List PyData} {xs : List V}, Dats H ds xs → Dats H' ds xs
  | [], _, h => by unfold Dats at *; exact h
  | d :: ds, _, h => by
    unfold Dats at *
    obtain ⟨x, r, h1, h2, h3⟩ := h
    exact ⟨x, r, h1, Dat.same e h2, Dats.same e h3⟩
end
mutual
theorem Dat.rd {K : PySem.W.Frag} : ∀ {d : PyData} {v : V}, Dat H d v → RdD K H d v
  | .none, _, h => by unfold Dat at h; subst h; exact .non
  | .bool _, _, h => by unfold Dat at h; subst h; exact .bl _
  | .int _, _, h => by unfold Dat at h; subst h; exact .int _
  | .str _, _, h => by unfold Dat at h; subst h; exact .str _
  | .list ds, _, h => by
    unfold Dat at h
    obtain ⟨p, xs, rfl, h2, h3⟩ := h
    exact RdD.lst (SqL.of h2) (Dats.rd h3)
  | .tuple ds, _, h => by
    unfold Dat at h
    obtain ⟨p, xs, rfl, h2, h3⟩ := h
    exact RdD.tup (SqT.of h2) (Dats.rd h3)
  | .dict _, _, h => by unfold Dat at h; exact h.elim
theorem Dats.rd {K : PySem.W.Frag} : ∀ {ds : List PyData} {xs : List V}, Dats H ds xs → RdDs K H ds xs
  | [], _, h => by unfold Dats at h; subst h; exact .nil
  | d :: ds, _, h => by
    unfold Dats at h
    obtain ⟨x, r, rfl, h2, h3⟩ := h
    exact .cons (Dat.rd h2) (Dats.rd h3)
end
theorem Dat.int (i : Int) : Dat H (.int i) (.int i) := by unfold Dat; rfl
theorem Dat.bl (b : Bool) : Dat H (.bool b) (.bl b) := by unfold Dat; rfl
theorem Dat.non : Dat H .none .non := by unfold Dat; rfl
theorem Dat.str (x : Str) : Dat H (.str x) (.str x) := by unfold Dat; rfl
theorem Dat.lst {ds : List PyData} {p : Addr} {xs : List V} (h : H p = some (.lst xs)) (r : Dats H ds xs) : Dat H (.list ds) (.ref p) := by unfold Dat; exact ⟨p, xs, rfl, h, r⟩
theorem Dat.tup {ds : List PyData} {p : Addr} {xs : List V} (h : H p = some (.tup xs)) (r : Dats H ds xs) : Dat H (.tuple ds) (.ref p) := by unfold Dat; exact ⟨p, xs, rfl, h, r⟩
theorem Dats.nil : Dats H [] [] := by unfold Dats; rfl
theorem Dats.cons {d : PyData} {ds : List PyData} {x : V} {xs : List V} (h : Dat H d x) (r : Dats H ds xs) : Dats H (d :: ds) (x :: xs) := by unfold Dats; exact ⟨x, xs, rfl, h, r⟩
theorem Dats.ints (ns : List Int) : Dats H (ns.map PyData.int) (ns.map V.int) := by
  induction ns with
  | nil => exact .nil
  | cons n r ih => exact .cons (.int n) ih
theorem Dats.length {ds : List PyData} {xs : List V} (a : Dats H ds xs) : ds.length = xs.length := by
  induction ds generalizing xs with
  | nil => unfold Dats at a; subst a; rfl
  | cons d r ih =>
    unfold Dats at a
    obtain ⟨x, q, rfl, h1, h2⟩ := a
    simp [ih h2]
theorem Dats.get {ds : List PyData} {xs : List V} (a : Dats H ds xs) {i : Nat} {x : V} (h : xs[i]? = some x) : ∃ d, ds[i]? = some d ∧ Dat H d x := by
  induction ds generalizing xs i with
  | nil => unfold Dats at a; subst a; simp at h
  | cons d r ih =>
    unfold Dats at a
    obtain ⟨y, q, rfl, h1, h2⟩ := a
    cases i with
    | zero => simp at h; subst h; exact ⟨d, rfl, h1⟩
    | succ k => exact ih h2 (by simpa using h)
theorem Dats.append {ds es : List PyData} {xs ys : List V} (a : Dats H ds xs) (b : Dats H es ys) : Dats H (ds ++ es) (xs ++ ys) := by
  induction ds generalizing xs with
  | nil => unfold Dats at a; subst a; exact b
  | cons d r ih =>
    unfold Dats at a
    obtain ⟨x, q, rfl, h1, h2⟩ := a
    exact .cons h1 (ih h2)
theorem Dats.take {ds : List PyData} {xs : List V} (a : Dats H ds xs) (n : Nat) : Dats H (ds.take n) (xs.take n) := by
  induction ds generalizing xs n with
  | nil => unfold Dats at a; subst a; simp; exact .nil
  | cons d r ih =>
    unfold Dats at a
    obtain ⟨x, q, rfl, h1, h2⟩ := a
    cases n with
    | zero => exact .nil
    | succ n => exact .cons h1 (ih h2 n)
theorem Dats.drop {ds : List PyData} {xs : List V} (a : Dats H ds xs) (n : Nat) : Dats H (ds.drop n) (xs.drop n) := by
  induction ds generalizing xs n with
  | nil => unfold Dats at a; subst a; simp; exact .nil
  | cons d r ih =>
    cases n with
    | zero => exact a
    | succ n =>
      unfold Dats at a
      obtain ⟨x, q, rfl, h1, h2⟩ := a
      exact ih h2 n
theorem PrsR.dats {rs : List Addr} {ps : List (Int × Int)} (h : Paired (fun r (p : Int × Int) => H r = some (.tup [.int p.1, .int p.2])) rs ps) : Dats H (ps.map fun p => PyData.tuple [.int p.1, .int p.2]) (rs.map V.ref) := by
  induction h with
  | nil => exact .nil
  | cons a r ih => exact .cons (.tup a (.cons (.int _) (.cons (.int _) .nil))) ih
end
/-! ### kinds -/
def dInt : PyData → Bool
  | .int _ => true | .bool _ => true | _ => false
def dBool : PyData → Bool
  | .bool _ => true | _ => false
def dStr : PyData → Bool
  | .str _ => true | _ => false
def dTup : PyData → Bool
  | .tuple _ => true | _ => false
def dLst : PyData → Bool
  | .list _ => true | _ => false
theorem Dat.ty {K : PySem.W.Frag} {H : Hp} {d : PyData} {v : V} (h : Dat H d v) : ∃ t, TyOf K H v t ∧ PySem.W.kitOne K t (.type "int") = some (dInt d) ∧ PySem.W.kitOne K t (.type "bool") = some (dBool d) ∧ PySem.W.kitOne K t (.type "str") = some (dStr d) ∧ PySem.W.kitOne K t (.type "tuple") = some (dTup d) ∧ PySem.W.kitOne K t (.type "list") = some (dLst d) := by
  cases d with
  | none => unfold Dat at h; subst h; exact ⟨_, .non, rfl, rfl, rfl, rfl, rfl⟩
  | bool b => unfold Dat at h; subst h; exact ⟨_, .bl b, rfl, rfl, rfl, rfl, rfl⟩
  | int b => unfold Dat at h; subst h; exact ⟨_, .int b, rfl, rfl, rfl, rfl, rfl⟩
  | str b => unfold Dat at h; subst h; exact ⟨_, .str b, rfl, rfl, rfl, rfl, rfl⟩
  | list ds =>
    unfold Dat at h
    obtain ⟨p, xs, rfl, h2, _⟩ := h
    exact ⟨_, .lst h2, rfl, rfl, rfl, rfl, rfl⟩
  | tuple ds =>
    unfold Dat at h
    obtain ⟨p, xs, rfl, h2, _⟩ := h
    exact ⟨_, .tup h2, rfl, rfl, rfl, rfl, rfl⟩
  | dict _ => unfold Dat at h; exact h.elim
def wholeD : PyData → Bool
  | .int _ => true | _ => false
theorem wholeD_eq (d : PyData) : (dInt d && !dBool d) = wholeD d := by cases d <;> rfl
def betD (d : PyData) (lo hi : Int) : Bool := match d with
  | .int i => decide (lo ≤ i) && decide (i ≤ hi)
  | _ => false
def sp_whole : Sp := fun vs H Q _ => ∃ d v, vs = [v] ∧ Dat H d v ∧ Q (.bl (wholeD d)) H
def sp_between : Sp := fun vs H Q _ => ∃ d v lo hi, vs = [v, .int lo, .int hi] ∧ Dat H d v ∧ Q (.bl (betD d lo hi)) H
section
variable {K : PySem.W.Frag} {a : Addr} {S : V → St} {te : TE} {H : Hp} {Fin : List V → Hp → Prop}
/-- a truth for each thing of a list -/
theorem comp_dat {ds : List PyData} {xs : List V} (f : PyData → V) (hp : H a = some (.lst xs)) (hD : Dats H ds xs) (hz : ds.length ≤ 100000) (hs : ∀ d x, d ∈ ds → Dat H d x → ∀ N : V → Hp → Prop, N (f d) H → te (S x) H N) (hd : Fin (ds.map f) H) : CompW (Itl K a) S tYes te H Fin := by
  have hl := hD.length
  refine comp_list (xs := xs) (fun i ys H' => ys = (ds.take i).map f ∧ H = H') ⟨rfl, rfl⟩ ?_ ?_ ?_ ?_
  · rintro i ys H' _ ⟨_, rfl⟩
    exact SqL.of hp
  · rintro i ys H' hi ⟨rfl, _⟩
    rw [List.length_map, List.length_take]
    exact smallL (by omega)
  · rintro i x ys H' hx ⟨rfl, rfl⟩
    obtain ⟨d, hd1, hd2⟩ := hD.get hx
    obtain ⟨hi, he⟩ := List.getElem?_eq_some_iff.mp hd1
    unfold tYes
    dsimp only
    rw [if_pos rfl]
    refine hs d x (he ▸ List.getElem_mem hi) hd2 _ ⟨?_, rfl⟩
    rw [List.take_succ_eq_append_getElem hi, List.map_append, he]
    rfl
  · rintro ys H' ⟨rfl, rfl⟩
    rw [← hl, List.take_length]
    exact hd
theorem comp_datT {ds : List PyData} {xs : List V} (f : PyData → V) (hp : H a = some (.tup xs)) (hD : Dats H ds xs) (hz : ds.length ≤ 100000) (hs : ∀ d x, d ∈ ds → Dat H d x → ∀ N : V → Hp → Prop, N (f d) H → te (S x) H N) (hd : Fin (ds.map f) H) : CompW (Itt K a) S tYes te H Fin := by
  have hl := hD.length
  refine comp_tup (xs := xs) (fun i ys H' => ys = (ds.take i).map f ∧ H = H') ⟨rfl, rfl⟩ ?_ ?_ ?_ ?_
  · rintro i ys H' _ ⟨_, rfl⟩
    exact SqT.of hp
  · rintro i ys H' hi ⟨rfl, _⟩
    rw [List.length_map, List.length_take]
    exact smallL (by omega)
  · rintro i x ys H' hx ⟨rfl, rfl⟩
    obtain ⟨d, hd1, hd2⟩ := hD.get hx
    obtain ⟨hi, he⟩ := List.getElem?_eq_some_iff.mp hd1
    unfold tYes
    dsimp only
    rw [if_pos rfl]
    refine hs d x (he ▸ List.getElem_mem hi) hd2 _ ⟨?_, rfl⟩
    rw [List.take_succ_eq_append_getElem hi, List.map_append, he]
    rfl
  · rintro ys H' ⟨rfl, rfl⟩
    rw [← hl, List.take_length]
    exact hd
end
/-! ### works -/
def endD (d : PyData) (k : Int) : Bool := betD d 0 (2 * k - 1)
def pairD (d : PyData) (k : Int) : Bool := match d with
  | .tuple [x, y] => endD x k && endD y k
  | _ => false
def boxD (d : PyData) (k : Int) : Bool := match d with
  | .tuple [x, y] => betD x 0 1 && endD y k
  | _ => false
def gatesD : List PyData → Int → Bool
  | [], _ => true
  | d :: ds, k => pairD d k && gatesD ds (k + 1)
def workD (d : PyData) : Bool := match d with
  | .tuple [.int n, .list bs, .list gs, .list os] => decide (0 ≤ n) && gatesD gs (1 + n + bs.length) && bs.all (boxD · (1 + n + bs.length + gs.length)) && os.all (endD · (1 + n + bs.length + gs.length))
  | _ => false
/-- lists within are not long -/
def Sz (d : PyData) : Prop := match d with
  | .tuple ds => ds.length ≤ 1000 ∧ ∀ e ∈ ds, ∀ es, e = .list es → es.length ≤ 4000
  | _ => True
theorem Dat.tupI {H : Hp} {ds : List PyData} {v : V} (h : Dat H (.tuple ds) v) : ∃ p xs, v = .ref p ∧ H p = some (.tup xs) ∧ Dats H ds xs := by unfold Dat at h; exact h
theorem Dat.lstI {H : Hp} {ds : List PyData} {v : V} (h : Dat H (.list ds) v) : ∃ p xs, v = .ref p ∧ H p = some (.lst xs) ∧ Dats H ds xs := by unfold Dat at h; exact h
theorem Dat.intI {H : Hp} {i : Int} {v : V} (h : Dat H (.int i) v) : v = .int i := by unfold Dat at h; exact h
theorem Dats.consI {H : Hp} {d : PyData} {ds : List PyData} {xs : List V} (h : Dats H (d :: ds) xs) : ∃ x r, xs = x :: r ∧ Dat H d x ∧ Dats H ds r := by unfold Dats at h; exact h
theorem Dats.nilI {H : Hp} {xs : List V} (h : Dats H [] xs) : xs = [] := by unfold Dats at h; exact h
def sp_is_pair : Sp := fun vs H Q _ => ∃ d v k, vs = [v, .int k] ∧ Dat H d v ∧ Q (.bl (pairD d k)) H
def sp_is_box : Sp := fun vs H Q _ => ∃ d v k, vs = [v, .int k] ∧ Dat H d v ∧ Q (.bl (boxD d k)) H
def sp_is_end : Sp := fun vs H Q _ => ∃ d v k, vs = [v, .int k] ∧ Dat H d v ∧ Q (.bl (endD d k)) H
def sp_is_work : Sp := fun vs H Q _ => ∃ d v, vs = [v] ∧ Dat H d v ∧ Sz d ∧ ∀ H', Same H H' → Q (.bl (workD d)) H'
def twoD (d : PyData) : Bool := match d with
  | .tuple [_, _] => true
  | _ => false
def sp_knots_in : Sp := fun vs H Q _ => ∃ (p b g : Addr) (n : Int) (v : V) (xb xg : List V), vs = [.ref p] ∧ H p = some (.tup [.int n, .ref b, .ref g, v]) ∧ H b = some (.lst xb) ∧ H g = some (.lst xg) ∧ Q (.int (1 + n + xb.length + xg.length)) H
def sp_two : Sp := fun vs H Q _ => ∃ d v, vs = [v] ∧ Dat H d v ∧ Q (.bl (twoD d)) H
theorem workD_len {ds : List PyData} (h : ds.length ≠ 4) : workD (.tuple ds) = false := by
  unfold workD
  split
  · rename_i e
    injection e with e
    rw [e] at h
    exact absurd rfl h
  · rfl
theorem workD_ints {a b c e : PyData} (h : wholeD a = false) : workD (.tuple [a, b, c, e]) = false := by
  cases a <;> first | rfl | (simp [wholeD] at h)
theorem workD_lists {a b c e : PyData} (h : (dLst b && dLst c && dLst e) = false) : workD (.tuple [a, b, c, e]) = false := by
  cases b <;> cases c <;> cases e <;> cases a <;> first | rfl | (simp [dLst] at h)
theorem pairD_len {ds : List PyData} {k : Int} (h : ds.length ≠ 2) : pairD (.tuple ds) k = false := by
  unfold pairD
  split
  · rename_i e
    injection e with e
    rw [e] at h
    exact absurd rfl h
  · rfl
theorem boxD_len {ds : List PyData} {k : Int} (h : ds.length ≠ 2) : boxD (.tuple ds) k = false := by
  unfold boxD
  split
  · rename_i e
    injection e with e
    rw [e] at h
    exact absurd rfl h
  · rfl
theorem twoD_len {ds : List PyData} : twoD (.tuple ds) = decide (ds.length = 2) := by
  match ds with
  | [] => rfl
  | [_] => rfl
  | [_, _] => rfl
  | _ :: _ :: _ :: _ => simp [twoD]
theorem boxD_two {d : PyData} {k : Int} (h : twoD d = false) : boxD d k = false := by
  cases d with
  | tuple ds => rw [twoD_len] at h; exact boxD_len (of_decide_eq_false h)
  | _ => rfl
theorem pairD_two {d : PyData} {k : Int} (h : twoD d = false) : pairD d k = false := by
  cases d with
  | tuple ds => rw [twoD_len] at h; exact pairD_len (of_decide_eq_false h)
  | _ => rfl
theorem all_drop {α : Type} {f : α → Bool} {l : List α} {i : Nat} (h : i < l.length) : (l.drop i).all f = (f l[i] && (l.drop (i + 1)).all f) := by
  rw [List.drop_eq_getElem_cons h, List.all_cons]
theorem gates_drop {l : List PyData} {i : Nat} {k : Int} (h : i < l.length) : gatesD (l.drop i) k = (pairD l[i] k && gatesD (l.drop (i + 1)) (k + 1)) := by
  rw [List.drop_eq_getElem_cons h, gatesD]
theorem endD_eq (i k : Int) : endD (.int i) k = (decide (0 ≤ i) && decide (i / 2 < k)) := by
  unfold endD betD
  rw [Bool.eq_iff_iff]
  simp only [Bool.and_eq_true, decide_eq_true_eq]
  omega
theorem all_bls {ds : List PyData} (f : PyData → Bool) : (ds.map f).all id = ds.all f := by rw [List.all_map]; rfl
theorem IsWkA.dat {H : Hp} {w b g o : Addr} {W : Wk} (h : IsWkA H w b g o W) : Dat H (dWk W) (.ref w) := by
  obtain ⟨_, hb⟩ := h.b
  obtain ⟨_, hg⟩ := h.g
  exact .tup h.w (.cons (.int _) (.cons (.lst hb.1 (PrsR.dats hb.2)) (.cons (.lst hg.1 (PrsR.dats hg.2)) (.cons (.lst h.o (.ints _)) .nil))))
end L2

set_option Elab.async false
set_option linter.all false
set_option maxRecDepth 100000
/-! A bag of digits, and sayings. -/
namespace L2
open PySem PySem.Spec
def Bag (H : Hp) (l : Addr) : Prop := ∃ b0 b1 : Int, H l = some (.lst [.int b0, .int b1]) ∧ 0 ≤ b0
/-- all but the bag stays, the bag is one again -/
def Bg (l : Addr) (H H' : Hp) : Prop := (∀ b o, b ≠ l → H b = some o → H' b = some o) ∧ Bag H' l
theorem Bg.trans {l : Addr} {H H1 H2 : Hp} (a : Bg l H H1) (b : Bg l H1 H2) : Bg l H H2 := ⟨fun c o n e => b.1 c o n (a.1 c o n e), b.2⟩
theorem Bg.refl {l : Addr} {H : Hp} (b : Bag H l) : Bg l H H := ⟨fun _ _ _ e => e, b⟩
theorem Bag.ne {H : Hp} {l p : Addr} (b : Bag H l) (n : H p = none) : p ≠ l := fun e => by
  obtain ⟨_, _, h, _⟩ := b
  rw [e, h] at n; cases n
theorem Bag.neT {H : Hp} {l p : Addr} {xs : List V} (b : Bag H l) (n : H p = some (.tup xs)) : p ≠ l := fun e => by
  obtain ⟨_, _, h, _⟩ := b
  rw [e, h] at n; cases n
theorem Bg.new {l p : Addr} {H : Hp} (b : Bag H l) (n : H p = none) (o : HO) : Bg l H (upd H p o) := by
  refine ⟨fun c u _ e => by rw [upd_ne (ne_of_none e n)]; exact e, ?_⟩
  obtain ⟨b0, b1, h, h0⟩ := b
  exact ⟨b0, b1, by rw [upd_ne (ne_of_none h n)]; exact h, h0⟩
theorem Bg.put {l : Addr} {H : Hp} (b0 b1 : Int) (h0 : 0 ≤ b0) : Bg l H (upd H l (.lst [.int b0, .int b1])) :=
  ⟨fun c u n e => by rw [upd_ne n]; exact e, b0, b1, upd_same, h0⟩
theorem Bag.set {l p : Addr} {H : Hp} (b : Bag H l) (hp : p ≠ l) (o : HO) : Bag (upd H p o) l := by
  obtain ⟨b0, b1, h, h0⟩ := b
  exact ⟨b0, b1, by rw [upd_ne (Ne.symm hp)]; exact h, h0⟩
theorem Bg.set {l p : Addr} {H H' : Hp} (b : Bg l H H') (n : H p = none) (hp : p ≠ l) (o : HO) : Bg l H (upd H' p o) :=
  ⟨fun c u nc e => by rw [upd_ne (ne_of_none e n)]; exact b.1 c u nc e, b.2.set hp o⟩
theorem Bg.same {l : Addr} {H H1 H2 : Hp} (n : H l = none) (a : Same H H1) (b : Bg l H1 H2) : Same H H2 := fun c o e => b.1 c o (ne_of_none e n) (a c o e)
theorem Bag.same {H H' : Hp} {l : Addr} (b : Bag H l) (s : Same H H') : Bg l H H' := by
  obtain ⟨b0, b1, h, h0⟩ := b
  exact ⟨fun c o _ e => s c o e, b0, b1, s _ _ h, h0⟩
theorem at_any {α : Type} {xs : List α} {i : Int} (h0 : 0 ≤ i) (h : i < xs.length) : ∃ v, atI xs i = some v ∧ xs[i.toNat]? = some v := by
  obtain ⟨k, rfl⟩ := Int.eq_ofNat_of_zero_le h0
  have hk : k < xs.length := by omega
  exact ⟨xs[k], atI_nat (List.getElem?_eq_getElem hk), by rw [Int.toNat_natCast]; exact List.getElem?_eq_getElem hk⟩
theorem at_map {ns : List Int} {i : Nat} (h : i < ns.length) : ∃ v : Int, atI (ns.map V.int) (i : Int) = some (.int v) :=
  ⟨ns[i], atI_nat (by rw [List.getElem?_map, List.getElem?_eq_getElem h] <;> rfl)⟩
theorem at_mapI {ns : List Int} {i : Int} (h0 : 0 ≤ i) (h : i < ns.length) : ∃ v : Int, atI (ns.map V.int) i = some (.int v) := by
  obtain ⟨k, rfl⟩ := Int.eq_ofNat_of_zero_le h0
  exact at_map (by omega)
def sp_L_bag (K : PySem.W.Frag) : Sp := fun vs H Q _ => ∃ (a : Addr) (ns : List Int) (i : Int), vs = [.ref a, .int i] ∧ SqL K H a (ns.map V.int) ∧ ns.length ≤ 63 ∧ 0 ≤ i ∧ ∀ l b0 b1, H l = none → (0 : Int) ≤ b0 → Q (.ref l) (upd H l (.lst [.int b0, .int b1]))
def sp_L_take : Sp := fun vs H Q _ => ∃ (l : Addr) (many : Int), vs = [.ref l, .int many] ∧ Bag H l ∧ 0 < many ∧ many < bigB ∧ ∀ d H', 0 ≤ d → d < many → Bg l H H' → Q (.int d) H'
def words : List Str := ["wire", "number", "not", "and", "or", "odd", "sum", "less", "under", "same", "choice", "up", "down", "join", "cut", "table"]
/-! ### sayings -/
inductive Say where
  | wire (x : Str)
  | num (i w : Int)
  | node (z : Str) (hd : List PyData) (subs : List Say)
mutual
def Say.dat : Say → PyData
  | .wire x => .tuple [.str "wire", .str x]
  | .num i w => .tuple [.str "number", .int i, .int w]
  | .node z hd subs => .tuple (.str z :: (hd ++ Say.dats subs))
def Say.dats : List Say → List PyData
  | [] => []
  | s :: r => s.dat :: Say.dats r
end
mutual
def Say.wires : Say → List Str
  | .wire x => [x]
  | .num _ _ => []
  | .node _ _ subs => Say.wiresL subs
def Say.wiresL : List Say → List Str
  | [] => []
  | s :: r => s.wires ++ Say.wiresL r
end
mutual
def Say.sz : Say → Nat
  | .wire _ => 1
  | .num _ _ => 1
  | .node _ _ subs => 1 + Say.szL subs
def Say.szL : List Say → Nat
  | [] => 0
  | s :: r => s.sz + Say.szL r
end
def HdOk (d : PyData) : Prop := (∃ i, d = .int i) ∨ ∃ (i : Int) (ns : List Int), d = .tuple (.int i :: ns.map PyData.int)
def formK (z : Str) : Nat := if z = "wire" then 2 else if z = "number" then 3 else if z = "up" then 2 else if z = "down" then 2 else if z = "cut" then 3 else if z = "table" then 3 else 1
def formN (z : Str) : Nat := if z = "wire" then 2 else if z = "not" then 2 else if z = "choice" then 4 else if z = "cut" then 4 else if z = "table" then 4 else 3
def OkSay : Nat → Say → Prop
  | 0, _ => False
  | _ + 1, .wire x => x.length ≤ 8
  | _ + 1, .num _ _ => True
  | n + 1, .node z hd subs => z ∈ words ∧ z ≠ "wire" ∧ z ≠ "number" ∧ formK z = hd.length + 1 ∧ subs.length ≤ 3 ∧ (∀ d ∈ hd, HdOk d) ∧ ∀ s ∈ subs, OkSay n s
def subsOf : Say → List Say
  | .node _ _ subs => subs
  | _ => []
theorem szL_le {n : Nat} : ∀ {subs : List Say}, (∀ s ∈ subs, s.sz ≤ n) → Say.szL subs ≤ subs.length * n
  | [], _ => by simp [Say.szL]
  | s :: r, h => by
    have h1 := h s List.mem_cons_self
    have h2 := szL_le (subs := r) fun t ht => h t (List.mem_cons_of_mem _ ht)
    simp only [Say.szL, List.length_cons, Nat.succ_mul]
    omega
theorem OkSay.sz {n : Nat} {s : Say} (h : OkSay n s) : s.sz ≤ 4 ^ n := by
  induction n generalizing s with
  | zero => exact h.elim
  | succ n ih =>
    have hp : 1 ≤ 4 ^ n := Nat.pow_pos (by decide)
    cases s with
    | wire x => simp only [Say.sz, Nat.pow_succ]; omega
    | num i w => simp only [Say.sz, Nat.pow_succ]; omega
    | node z hd subs =>
      obtain ⟨_, _, _, _, h3, _, hs⟩ := h
      have := szL_le (n := 4 ^ n) fun t ht => ih (hs t ht)
      have h4 : subs.length * 4 ^ n ≤ 3 * 4 ^ n := Nat.mul_le_mul_right _ h3
      simp only [Say.sz, Nat.pow_succ]
      omega
mutual
theorem wires_le : ∀ s : Say, s.wires.length ≤ s.sz
  | .wire _ => by simp [Say.wires, Say.sz]
  | .num _ _ => by simp [Say.wires, Say.sz]
  | .node _ _ subs => by
    have := wiresL_le subs
    simp only [Say.wires, Say.sz]
    omega
theorem wiresL_le : ∀ ss : List Say, (Say.wiresL ss).length ≤ Say.szL ss
  | [] => by simp [Say.wiresL, Say.szL]
  | s :: r => by
    have h1 := wires_le s
    have h2 := wiresL_le r
    simp only [Say.wiresL, Say.szL, List.length_append]
    omega
end
theorem sz_pos : ∀ s : Say, 1 ≤ s.sz
  | .wire _ => by simp [Say.sz]
  | .num _ _ => by simp [Say.sz]
  | .node _ _ _ => by simp only [Say.sz]; omega
theorem dats_eq (ss : List Say) : Say.dats ss = ss.map Say.dat := by
  induction ss with
  | nil => simp [Say.dats]
  | cons s r ih => simp [Say.dats, ih]
theorem wiresL_app (a b : List Say) : Say.wiresL (a ++ b) = Say.wiresL a ++ Say.wiresL b := by
  induction a with
  | nil => simp [Say.wiresL]
  | cons s r ih => simp [Say.wiresL, ih]
theorem szL_app (a b : List Say) : Say.szL (a ++ b) = Say.szL a + Say.szL b := by
  induction a with
  | nil => simp [Say.szL]
  | cons s r ih => simp [Say.szL, ih]; omega
theorem szL_len : ∀ ss : List Say, ss.length ≤ Say.szL ss
  | [] => by simp
  | s :: r => by
    have h1 := sz_pos s
    have h2 := szL_len r
    simp only [Say.szL, List.length_cons]
    omega
/-! ### things of tuples alone stay where tuples do -/
mutual
def noL : PyData → Bool
  | .list _ => false
  | .tuple ds => noLs ds
  | _ => true
def noLs : List PyData → Bool
  | [] => true
  | d :: ds => noL d && noLs ds
end
def KeepT (H H' : Hp) : Prop := ∀ p xs, H p = some (.tup xs) → H' p = some (.tup xs)
mutual
theorem Dat.keepT {H H' : Hp} (k : KeepT H H') : ∀ {d : PyData} {v : V}, noL d = true → Dat H d v → Dat H' d v
  | .none, _, _, h => by unfold Dat at *; exact h
  | .bool _, _, _, h => by unfold Dat at *; exact h
  | .int _, _, _, h => by unfold Dat at *; exact h
  | .str _, _, _, h => by unfold Dat at *; exact h
  | .list ds, _, n, h => by simp [noL] at n
  | .tuple ds, _, n, h => by
    unfold Dat at *
    obtain ⟨p, xs, h1, h2, h3⟩ := h
    exact ⟨p, xs, h1, k _ _ h2, Dats.keepT k (by simpa [noL] using n) h3⟩
  | .dict _, _, _, h => by unfold Dat at h; exact h.elim
theorem Dats.keepT {H H' : Hp} (k : KeepT H H') : ∀ {ds : List PyData} {xs : List V}, noLs ds = true → Dats H ds xs → Dats H' ds xs
  | [], _, _, h => by unfold Dats at *; exact h
  | d :: ds, _, n, h => by
    have n' : noL d = true ∧ noLs ds = true := by simpa [noLs] using n
    unfold Dats at *
    obtain ⟨x, r, h1, h2, h3⟩ := h
    exact ⟨x, r, h1, Dat.keepT k n'.1 h2, Dats.keepT k n'.2 h3⟩
end
theorem KeepT.same {H H' : Hp} (s : Same H H') : KeepT H H' := fun p xs h => s _ _ h
theorem KeepT.trans {H H1 H2 : Hp} (a : KeepT H H1) (b : KeepT H1 H2) : KeepT H H2 := fun p xs h => b _ _ (a _ _ h)
theorem KeepT.lst {H : Hp} {p : Addr} {xs : List V} (h : H p = some (.lst xs)) (o : HO) : KeepT H (upd H p o) := fun q ys e => by
  rw [upd_ne (fun z => by rw [z, h] at e; cases e)]
  exact e
theorem Bg.keepT {l : Addr} {H H' : Hp} (b : Bag H l) (g : Bg l H H') : KeepT H H' := fun p xs h => g.1 p _ (b.neT h) h
theorem noLs_app : ∀ (a b : List PyData), noLs (a ++ b) = (noLs a && noLs b)
  | [], b => by simp [noLs]
  | d :: a, b => by simp [noLs, noLs_app a b, Bool.and_assoc]
theorem noLs_all {ds : List PyData} (h : ∀ d ∈ ds, noL d = true) : noLs ds = true := by
  induction ds with
  | nil => simp [noLs]
  | cons d r ih => simp [noLs, h d List.mem_cons_self, ih fun e he => h e (List.mem_cons_of_mem _ he)]
theorem noLs_ints (ns : List Int) : noLs (ns.map PyData.int) = true := noLs_all fun d hd => by
  obtain ⟨i, _, rfl⟩ := List.mem_map.mp hd
  simp [noL]
theorem HdOk.noL {d : PyData} (h : HdOk d) : noL d = true := by
  rcases h with ⟨i, rfl⟩ | ⟨i, ns, rfl⟩
  · simp [L2.noL]
  · simp [L2.noL, noLs, noLs_ints]
theorem OkSay.noL {n : Nat} {s : Say} (h : OkSay n s) : noL s.dat = true := by
  induction n generalizing s with
  | zero => exact h.elim
  | succ n ih =>
    cases s with
    | wire x => simp [Say.dat, L2.noL, noLs]
    | num i w => simp [Say.dat, L2.noL, noLs]
    | node z hd subs =>
      obtain ⟨_, _, _, _, _, hh, hs⟩ := h
      simp only [Say.dat, L2.noL, noLs, noLs_app, dats_eq, Bool.and_eq_true]
      refine ⟨trivial, noLs_all fun d hd' => (hh d hd').noL, noLs_all fun d hd' => ?_⟩
      obtain ⟨s, hs', rfl⟩ := List.mem_map.mp hd'
      exact ih (hs s hs')
theorem OkSay.mono {n m : Nat} {s : Say} (h : OkSay n s) (l : n ≤ m) : OkSay m s := by
  induction n generalizing s m with
  | zero => exact h.elim
  | succ n ih =>
    cases m with
    | zero => omega
    | succ m =>
      cases s with
      | wire x => exact h
      | num i w => exact h
      | node z hd subs =>
        obtain ⟨h1, h2, h3, h4, h5, h6, h7⟩ := h
        exact ⟨h1, h2, h3, h4, h5, h6, fun s hs => ih (h7 s hs) (by omega)⟩
theorem noLs_says {n : Nat} {ss : List Say} (h : ∀ s ∈ ss, OkSay n s) : noLs (Say.dats ss) = true := by
  rw [dats_eq]
  exact noLs_all fun d hd => by
    obtain ⟨s, hs, rfl⟩ := List.mem_map.mp hd
    exact (h s hs).noL
theorem OkSay.subs {n : Nat} {s : Say} (h : OkSay (n + 1) s) : (subsOf s).length ≤ 3 ∧ ∀ t ∈ subsOf s, OkSay n t := by
  cases s with
  | wire x => exact ⟨by simp [subsOf], fun t ht => by simp [subsOf] at ht⟩
  | num i w => exact ⟨by simp [subsOf], fun t ht => by simp [subsOf] at ht⟩
  | node z hd subs => exact ⟨h.2.2.2.2.1, h.2.2.2.2.2.2⟩
/-- the word of a saying -/
def wordOf : Say → Str
  | .wire _ => "wire"
  | .num _ _ => "number"
  | .node z _ _ => z
theorem OkSay.word {n : Nat} {s : Say} (h : OkSay n s) : wordOf s ∈ words := by
  cases n with
  | zero => exact h.elim
  | succ n =>
    cases s with
    | wire x => simp [wordOf, words]
    | num i w => simp [wordOf, words]
    | node z hd subs => exact h.1
/-- a saying is a tuple: its word, what follows, its sayings -/
theorem OkSay.parts {n : Nat} {s : Say} (h : OkSay n s) : ∃ hd, s.dat = .tuple (.str (wordOf s) :: (hd ++ Say.dats (subsOf s))) ∧ formK (wordOf s) = hd.length + 1 ∧ hd.length ≤ 2 := by
  cases n with
  | zero => exact h.elim
  | succ n =>
    cases s with
    | wire x => exact ⟨[.str x], by simp [Say.dat, wordOf, subsOf, Say.dats], by simp [wordOf, formK], by simp⟩
    | num i w => exact ⟨[.int i, .int w], by simp [Say.dat, wordOf, subsOf, Say.dats], (by show formK "number" = 3; decide), by simp⟩
    | node z hd subs =>
      refine ⟨hd, by simp [Say.dat, wordOf, subsOf], h.2.2.2.1, ?_⟩
      have := h.2.2.2.1
      have h3 : formK z ≤ 3 := by unfold formK; repeat (first | omega | split)
      omega
theorem pe_comp1 {X : Cx} {scope : Scope} {elt iter : Expr} {x : Str} {px : Pos} {c : Expr} {pos : Pos} {wi : TI} {tt : TT} {te : TE} (capt : List Nat)
    (hx0 : ∀ e s, ¬ X.xe e s) (hc : X.calm = true) (hi : PI X (.Name x px) iter wi)
    (hT : ∀ C s H ex, PT (cxComp X [x] capt scope C s H ex) c tt) (hE : ∀ C s H ex, PE (cxComp X [x] capt scope C s H ex) elt te)
    (hk : compOk scope X.env.scope [x] (capt.map fun j => X.N.getD j "") = true) (hcap : ∀ j ∈ capt, j < X.N.length) (hnd : (x :: capt.map fun j => X.N.getD j "").Nodup)
    (hs : ∀ y, foldedSetIterable iter X.env y = pure y := by intro _; rfl) : PE X (.ListComp elt [⟨.Name x px, iter, [c], 0⟩] scope pos) (tComp capt wi tt te) :=
  pe_comp capt hx0 hc hi (fun C s H ex => pts_one (hT C s H ex)) hE hk hcap hnd hs
theorem pt_truthK {X : Cx} {K : PySem.W.Frag} {a : Expr} {ta : TE} (h : X.K = K) (ha : PE X a ta) (he : ∀ whole, isTrue a X.env whole = (do let v ← whole; standAt a.pos; holding [v] (truthy v))) :
    PT X a (fun σ H Q => ta σ H fun x H' => ∃ k, TruV K x H' k ∧ Q k H') := by subst h; exact pt_truth ha he
end L2

set_option Elab.async false
set_option linter.all false
set_option maxRecDepth 100000
/-! Comprehensions whose own names stand in cells (another comprehension reads them). -/
namespace L2
open PySem PySem.Spec PyProof.Rows
def compOkC (sc out : Scope) (cs : List Str) : Bool :=
  (sc.kind == .function) && (out.kind == .function) && sc.names.all (fun p => p.2 != NameKind.local || sc.names.lookup p.1 == some .local) && sc.names.all (fun p => p.2 != NameKind.cell || sc.names.lookup p.1 == some .cell)
    && sc.names.all (fun p => p.2 != NameKind.free || (sc.names.lookup p.1 == some .free && out.names.lookup p.1 == some .cell)) && cs.all (fun c => sc.names.lookup c == some .free)
structure CompOkC (sc out : Scope) (cs : List Str) : Prop where
  kind : sc.kind = .function
  okind : out.kind = .function
  names : ∀ y ∈ sc.names, y.2 = .local → sc.names.lookup y.1 = some .local
  own : ∀ n k, (n, k) ∈ sc.names → k = .cell → sc.names.lookup n = some .cell
  fr : ∀ n k, (n, k) ∈ sc.names → k = .free → sc.names.lookup n = some .free
  free : ∀ n k, (n, k) ∈ sc.names → k = .free → out.names.lookup n = some .cell
  cs : ∀ c ∈ cs, sc.names.lookup c = some .free
theorem compOkC.mk {sc out : Scope} {cs : List Str} (h : compOkC sc out cs = true) : CompOkC sc out cs := by
  unfold compOkC at h
  simp only [Bool.and_eq_true, List.all_eq_true, beq_iff_eq, bne_iff_ne, ne_eq, Bool.or_eq_true] at h
  obtain ⟨⟨⟨⟨⟨h1, h2⟩, h3⟩, h4⟩, h5⟩, h6⟩ := h
  exact ⟨h1, h2, fun y hy hl => (h3 y hy).resolve_left fun z => z hl, fun n k hm hk => (h4 (n, k) hm).resolve_left fun z => z hk, fun n k hm hk => ((h5 (n, k) hm).resolve_left fun z => z hk).1, fun n k hm hk => ((h5 (n, k) hm).resolve_left fun z => z hk).2, h6⟩
theorem cellsFrom_app : ∀ (l : List (Str × NameKind)) (n : Nat) (acc : List (Str × Addr)), cellsFrom n l acc = cellsFrom n l [] ++ acc
  | [], n, acc => by simp [cellsFrom]
  | (y, k) :: r, n, acc => by
    unfold cellsFrom
    split
    · rw [cellsFrom_app r (n + 1) ((y, n) :: acc), cellsFrom_app r (n + 1) [(y, n)], List.append_assoc]
      rfl
    · exact cellsFrom_app r n acc
theorem own_mem : ∀ (l : List (Str × NameKind)) (n : Nat) {y : Str} {c : Addr}, (y, c) ∈ cellsFrom n l [] → (y, NameKind.cell) ∈ l ∧ n ≤ c
  | [], n, y, c, h => by simp [cellsFrom] at h
  | (z, k) :: r, n, y, c, h => by
    unfold cellsFrom at h
    split at h
    · rename_i hk
      rw [cellsFrom_app] at h
      rcases List.mem_append.mp h with q | q
      · obtain ⟨h1, h2⟩ := own_mem r (n + 1) q
        exact ⟨List.mem_cons_of_mem _ h1, by omega⟩
      · have := List.mem_singleton.mp q
        cases this
        have hk' : k = .cell := by simpa using hk
        subst hk'
        exact ⟨List.mem_cons_self, Nat.le_refl _⟩
    · obtain ⟨h1, h2⟩ := own_mem r n h
      exact ⟨List.mem_cons_of_mem _ h1, h2⟩
theorem own_has : ∀ (l : List (Str × NameKind)) (n : Nat) {y : Str}, (y, NameKind.cell) ∈ l → ∃ c, (y, c) ∈ cellsFrom n l []
  | (z, k) :: r, n, y, h => by
    unfold cellsFrom
    rcases List.mem_cons.mp h with q | q
    · cases q
      rw [if_pos (by rfl), cellsFrom_app]
      exact ⟨n, List.mem_append_right _ List.mem_cons_self⟩
    · split
      · obtain ⟨c, hc⟩ := own_has r (n + 1) q
        rw [cellsFrom_app]
        exact ⟨c, List.mem_append_left _ hc⟩
      · exact own_has r n q
theorem lookup_of_mem {α : Type} : ∀ {l : List (Str × α)} {y : Str} {c : α}, (y, c) ∈ l → ∃ d, l.lookup y = some d
  | (z, e) :: r, y, c, h => by
    rw [List.lookup_cons]
    cases hm : y == z with
    | true => exact ⟨e, rfl⟩
    | false =>
      rcases List.mem_cons.mp h with q | q
      · cases q
        simp at hm
      · exact lookup_of_mem q
theorem lookup_app {α : Type} (a b : List (Str × α)) (y : Str) : (a ++ b).lookup y = match a.lookup y with | some c => some c | none => b.lookup y := by
  induction a with
  | nil => rfl
  | cons p r ih =>
    obtain ⟨z, e⟩ := p
    rw [List.cons_append, List.lookup_cons, List.lookup_cons]
    cases y == z with
    | true => rfl
    | false => exact ih
theorem newEnv_comp {M : Model} {A : Around} {E : Value → Shared → Prop} {s : Shared} {scope : Scope} {globals : Addr} {cl : List (Str × Addr)} {qual : Str} {env : Env} {Q : Env → Shared → Prop}
    (hQ : Q { scope, locals := s.heap.objs.size, globals, cells := cellsFrom (s.heap.objs.size + 1) scope.names cl, qual, func := none, code := env.code, frame := env.frame, builtins := env.builtins } { s with heap := pushCells (s.heap.push { cls := .type "dict", data := .dict #[] }) scope.names }) :
    wpAny M A (newFunctionEnv scope globals cl [] qual none .none (some env)) Q E s := by
  simp only [newFunctionEnv, Option.isSome_some, if_true]
  refine wpAny_bind (wpAny_alloc ?_)
  refine wpAny_bind (wpAny_layCells _ (fun name kind cells => by cases hkc : kind == NameKind.cell <;> simp [hkc]) _ _ _ _ ?_)
  rw [show ({ s with heap := s.heap.push { cls := .type "dict", data := .dict #[] } } : Shared).heap.objs.size = s.heap.objs.size + 1 from Heap.size_push ..]
  rw [List.forIn_nil]
  exact wpAny_bind (wpAny_pure (wpAny_pure hQ))
/-- the block's cells: its own, and those from around -/
abbrev ccs (X : Cx) (scope : Scope) (C : Addr) : List (Str × Addr) := cellsFrom (C + 1) scope.names (clOf X.env scope.names [])
def cxCompC (X : Cx) (xs : List Str) (capt : List Nat) (scope : Scope) (C : Addr) (s : Shared) (H : Hp) (ex : List Addr) : Cx :=
  { X with N := xs ++ capt.map (fun j => X.N.getD j ""), s₀ := s, H₀ := H, env := compEnvC scope (ccs X scope C) C X.env, outer := X.stack, ex := ex, fn := fun y => scope.names.lookup y == some .cell, pn := [] }
theorem relabel_cell {sc : Scope} {env : Env} {n : Str} (h : sc.names.lookup n = some .cell) : (relabel sc env).names.lookup n = some .cell := by
  unfold relabel
  have go : ∀ l : List (Str × NameKind), l.lookup n = some .cell →
      (l.map fun (p : Str × NameKind) => if (p.2 == NameKind.free && env.scope.kind == .function && env.kindOf p.1 == some .cell) = true then (p.1, NameKind.cell) else (p.1, p.2)).lookup n = some .cell := by
    intro l
    induction l with
    | nil => intro h; simp at h
    | cons p r ih =>
      intro h
      obtain ⟨m, k⟩ := p
      rw [List.lookup_cons] at h
      rw [List.map_cons]
      cases hm : n == m with
      | true =>
        rw [hm] at h
        cases h
        rw [if_neg (by simp), List.lookup_cons, hm]
      | false =>
        rw [hm] at h
        by_cases hc : (k == NameKind.free && env.scope.kind == .function && env.kindOf m == some .cell) = true
        · rw [if_pos hc, List.lookup_cons, hm]
          exact ih h
        · rw [if_neg hc, List.lookup_cons, hm]
          exact ih h
  exact go sc.names h
section
variable {X : Cx} {pins : List (Addr × Obj)} {σ : St} {H H2 : Hp} {s s2 : Shared} {xs : List Str} {capt : List Nat} {scope : Scope} {fp : List Addr}
theorem clook (I : Inv X pins σ H s) {cs : List Str} (ok : CompOkC scope X.env.scope cs) : ∀ y c, (clOf X.env scope.names []).lookup y = some c → X.env.cells.lookup y = some c := fun y c e => by
  rw [clOf_lookup] at e
  split at e
  · rename_i ha
    obtain ⟨p, hp, hq⟩ := List.any_eq_true.mp ha
    simp only [Bool.and_eq_true, beq_iff_eq] at hq
    obtain ⟨q1, q2⟩ := hq
    subst q1
    obtain ⟨c', hc'⟩ := I.ok.has p.1 (.inl (ok.free p.1 p.2 hp q2))
    rw [hc'] at e ⊢
    exact e
  · cases e
theorem ccs_look (I : Inv X pins σ H s) {cs : List Str} (ok : CompOkC scope X.env.scope cs) {C : Addr} : ∀ y c, (ccs X scope C).lookup y = some c → (X.env.cells.lookup y = some c ∧ scope.names.lookup y ≠ some .cell) ∨ ((y, c) ∈ cellsFrom (C + 1) scope.names [] ∧ @LT.lt Nat _ C c) := fun y c e => by
  unfold ccs at e
  rw [cellsFrom_app, lookup_app] at e
  cases h : (cellsFrom (C + 1) scope.names []).lookup y with
  | some d =>
    rw [h] at e
    cases e
    exact .inr ⟨PySem.mem_of_lookup h, (own_mem _ _ (PySem.mem_of_lookup h)).2⟩
  | none =>
    rw [h] at e
    refine .inl ⟨clook I ok y c e, fun z => ?_⟩
    obtain ⟨d, hd⟩ := own_has scope.names (C + 1) (PySem.mem_of_lookup z)
    obtain ⟨d', hd'⟩ := lookup_of_mem hd
    rw [h] at hd'
    cases hd'
theorem ccs_free (I : Inv X pins σ H s) {cs : List Str} (ok : CompOkC scope X.env.scope cs) {C : Addr} {y : Str} (hf : scope.names.lookup y = some .free) : ∃ c, (ccs X scope C).lookup y = some c ∧ X.env.cells.lookup y = some c := by
  obtain ⟨c, hc⟩ := I.ok.has y (.inl (ok.free y .free (PySem.mem_of_lookup hf) rfl))
  refine ⟨c, ?_, hc⟩
  unfold ccs
  rw [cellsFrom_app, lookup_app]
  cases h : (cellsFrom (C + 1) scope.names []).lookup y with
  | some d =>
    have := (own_mem _ _ (PySem.mem_of_lookup h)).1
    have := ok.own y .cell this rfl
    rw [hf] at this
    cases this
  | none =>
    show (clOf X.env scope.names []).lookup y = some c
    rw [clOf_lookup, if_pos (List.any_eq_true.mpr ⟨(y, .free), PySem.mem_of_lookup hf, by simp⟩), hc]
    rfl
theorem ccs_cell {cs : List Str} (ok : CompOkC scope X.env.scope cs) {C : Addr} {y : Str} (hf : (y, NameKind.cell) ∈ scope.names) : ∃ c, (ccs X scope C).lookup y = some c := by
  obtain ⟨d, hd⟩ := own_has scope.names (C + 1) hf
  obtain ⟨d', hd'⟩ := lookup_of_mem hd
  refine ⟨d', ?_⟩
  unfold ccs
  rw [cellsFrom_app, lookup_app, hd']
/-- the block's context stands -/
theorem comp_cxokC (I : Inv X pins σ H2 s2) (ok : CompOkC scope X.env.scope (capt.map fun j => X.N.getD j "")) (hf : ∀ b ∈ fp, FpOk X pins H2 b) (hfo : ∀ b ∈ fp, ∃ o, s2.heap.get? b = some o) {HH : Heap} (eH : HH = s2.heap.push emptyL) :
    (cxCompC X xs capt scope HH.objs.size { s2 with heap := HH } H2 (s2.heap.objs.size :: fp)).Ok := by
  have hsz : HH.objs.size = s2.heap.objs.size + 1 := by rw [eH, Heap.size_push]
  have look := ccs_look I ok (C := HH.objs.size)
  have old : ∀ y c, X.env.cells.lookup y = some c → @LT.lt Nat _ c s2.heap.objs.size := fun y c e => let ⟨v, hv⟩ := I.cell y c e; hv.lt
  have apart : (cellsFrom (HH.objs.size + 1) scope.names []).Pairwise fun x y => x.2 ≠ y.2 := by
    have := (cellsFrom_ok scope.names (HH.push { cls := .type "dict", data := .dict #[] }) (HH.objs.size + 1) [] ⟨fun _ _ hm => (nomatch hm), List.Pairwise.nil⟩ (by rw [Heap.size_push]; exact Nat.le_refl _)).apart
    rw [Heap.size_push] at this
    exact this
  have keep : ∀ b o, s2.heap.get? b = some o → HH.get? b = some o := fun b o e => by rw [eH]; exact Heap.get?_push_of_some _ e
  refine ⟨I.ok.mod, ok.kind, I.ok.glob, I.ok.blt, Nat.le_refl _, fun y z c h1 h2 => ?_, fun y hy => ?_, fun y c h e => ?_, I.ok.hd, I.ok.frames, .inl rfl, fun b hb => ?_, fun b o e => ?_, ?_, fun b o e hb => ?_, fun b hb => ?_, ?_, fun b hb => I.stkFree b hb⟩
  · rcases look y c h1 with ⟨p, _⟩ | ⟨p, p'⟩ <;> rcases look z c h2 with ⟨q, _⟩ | ⟨q, q'⟩
    · exact I.ok.inj y z c p q
    · have := old y c p
      omega
    · have := old z c q
      omega
    · exact name_of_addr apart p q
  · -- each cell's name has its cell
    have hy' : (relabel scope X.env).names.lookup y = some .cell ∨ (relabel scope X.env).names.lookup y = some .free := hy
    have inn : ∀ (l : List (Str × NameKind)) (k : NameKind), (k = .cell ∨ k = .free) →
        (l.map fun (p : Str × NameKind) => if (p.2 == NameKind.free && X.env.scope.kind == .function && X.env.kindOf p.1 == some .cell) = true then (p.1, NameKind.cell) else (p.1, p.2)).lookup y = some k → ∃ p ∈ l, p.1 = y ∧ (p.2 = .free ∨ p.2 = .cell) := by
      intro l k hkk
      induction l with
      | nil => intro h; simp at h
      | cons p r ih =>
        intro h
        obtain ⟨m, k'⟩ := p
        rw [List.map_cons] at h
        by_cases hc : (k' == NameKind.free && X.env.scope.kind == .function && X.env.kindOf m == some .cell) = true
        · rw [if_pos hc, List.lookup_cons] at h
          have hfree : k' = .free := by
            simp only [Bool.and_eq_true, beq_iff_eq] at hc
            exact hc.1.1
          cases hm : y == m with
          | true => exact ⟨(m, k'), List.mem_cons_self, by simpa using Eq.symm (by simpa using hm), .inl hfree⟩
          | false =>
            rw [hm] at h
            obtain ⟨p, hp, q⟩ := ih h
            exact ⟨p, List.mem_cons_of_mem _ hp, q⟩
        · rw [if_neg hc, List.lookup_cons] at h
          cases hm : y == m with
          | true =>
            rw [hm] at h
            cases h
            refine ⟨(m, k'), List.mem_cons_self, by simpa using Eq.symm (by simpa using hm), ?_⟩
            rcases hkk with z | z
            · exact .inr z
            · exact .inl z
          | false =>
            rw [hm] at h
            obtain ⟨p, hp, q⟩ := ih h
            exact ⟨p, List.mem_cons_of_mem _ hp, q⟩
    have hex : ∃ p ∈ scope.names, p.1 = y ∧ (p.2 = .free ∨ p.2 = .cell) := by
      rcases hy' with h | h
      · exact inn scope.names .cell (.inl rfl) h
      · exact inn scope.names .free (.inr rfl) h
    obtain ⟨⟨y', k⟩, hp, q1, q2⟩ := hex
    subst q1
    rcases q2 with q2 | q2
    · obtain ⟨c, hc, _⟩ := ccs_free I ok (C := HH.objs.size) (ok.fr _ _ hp q2)
      exact ⟨c, hc⟩
    · have q2' : k = .cell := q2
      subst q2'
      exact ccs_cell ok hp
  · have h' : scope.names.lookup y = some .cell := by
      have h'' : (scope.names.lookup y == some NameKind.cell) = true := h
      simpa using h''
    rcases look y c e with ⟨_, q⟩ | ⟨_, q⟩
    · exact absurd h' q
    · show @LE.le Nat _ HH.objs.size c
      omega
  · -- the records that turn are not the frame's
    rcases List.mem_cons.mp hb with z | z
    · subst z
      refine ⟨Nat.ne_of_lt (show s2.heap.objs.size < HH.objs.size by omega), fun y c e q => ?_⟩
      have q' : @Eq Nat c s2.heap.objs.size := q
      rcases look y c e with ⟨p, _⟩ | ⟨_, p⟩
      · have := old y c p
        omega
      · omega
    · obtain ⟨o, ho⟩ := hfo b z
      have hlt := Heap.lt_size ho
      refine ⟨Nat.ne_of_lt (Nat.lt_of_lt_of_le hlt (show s2.heap.objs.size ≤ HH.objs.size by omega)), fun y c e => ?_⟩
      rcases look y c e with ⟨p, _⟩ | ⟨_, p⟩
      · exact (hf b z).2.2.2.2.1 y c p
      · intro q
        have q' : @Eq Nat c b := q
        have hlt' : @LT.lt Nat _ b s2.heap.objs.size := hlt
        omega
  · obtain ⟨h1, h2⟩ := I.bs b o e
    exact ⟨keep b o h1, h2⟩
  · show X.base.objs.size ≤ HH.objs.size
    have h1 := I.ok.bsz
    have h2 := I.sz
    omega
  · -- the base's objects do not turn
    have h0 := (I.bs b o e).1
    rcases List.mem_cons.mp hb with z | z
    · subst z
      exact absurd (Heap.lt_size h0) (Nat.lt_irrefl _)
    · rcases (hf b z).2.2.2.1 with q | q
      · exact I.ok.noex b o e q
      · have h1 := (I.ok.bs b o e).1
        exact absurd (Nat.lt_of_lt_of_le (Heap.lt_size h1) q) (Nat.lt_irrefl _)
  · show b ∉ frs X.stack
    rcases List.mem_cons.mp hb with z | z
    · subst z
      exact I.stk_lt (Nat.le_refl _)
    · intro q
      rcases List.mem_cons.mp (I.stkSub b q) with e | e
      · exact (hf b z).2.1 e
      · exact (hf b z).2.2.1 e
  · show HH.FunFrames X.base X.stack
    exact Heap.FunFrames.of_keeps (fun b o e _ => ⟨o, keep b o e, rfl⟩) I.stack

/-- the block's first state -/
theorem comp_invC (I : Inv X pins σ H2 s2) (ok : CompOkC scope X.env.scope (capt.map fun j => X.N.getD j "")) (hcap : ∀ j ∈ capt, j < X.N.length) (hf : ∀ b ∈ fp, FpOk X pins H2 b) (hfo : ∀ b ∈ fp, ∃ o, s2.heap.get? b = some o)
    {HH h1 : Heap} {m : Str → Option Value} (eH : HH = s2.heap.push emptyL) (hns : h1.Ns HH.objs.size m) (keep0 : ∀ b o, HH.get? b = some o → h1.get? b = some o) (hcl : ∀ y c, (y, c) ∈ cellsFrom (HH.objs.size + 1) scope.names [] → h1.IsCell c none) :
    Inv (cxCompC X xs capt scope HH.objs.size { s2 with heap := HH } H2 (s2.heap.objs.size :: fp)) [(s2.heap.objs.size, emptyL)] (List.replicate xs.length none ++ capt.map fun j => (σ[j]?).join) H2 { s2 with heap := h1 } := by
  have hsz : HH.objs.size = s2.heap.objs.size + 1 := by rw [eH, Heap.size_push]
  have look := ccs_look I ok (C := HH.objs.size)
  have keep : ∀ b o, s2.heap.get? b = some o → h1.get? b = some o := fun b o e => keep0 b o (by rw [eH]; exact Heap.get?_push_of_some _ e)
  have hD : h1.get? s2.heap.objs.size = some emptyL := keep0 _ _ (by rw [eH]; exact Heap.get?_push_size _ rfl)
  refine ⟨comp_cxokC I ok hf hfo eH, rfl, I.bare, Un.kept keep0, ⟨m, hns, fun i y v h1' h2 h3 => ?_⟩, fun y c e => ?_, I.hok.fresh (show s2.heap.objs.size ≤ HH.objs.size by omega), fun y c e => ?_, fun p hp => ?_, I.hok.kept keep, ?_⟩
  · by_cases hi : i < xs.length
    · have h2' : (List.replicate xs.length (none : Option V))[i]? = some (some v) := by
        rw [← List.getElem?_append_left (l₂ := capt.map fun j => (σ[j]?).join) (by simpa using hi)]
        exact h2
      rw [List.getElem?_replicate_of_lt hi] at h2'
      cases h2'
    · have h1'' : (capt.map fun j => X.N.getD j "")[i - xs.length]? = some y := by
        rw [← List.getElem?_append_right (l₁ := xs) (by omega)]
        exact h1'
      have h2' : (capt.map fun j => (σ[j]?).join)[i - xs.length]? = some (some v) := by
        have q := List.getElem?_append_right (l₁ := List.replicate xs.length (none : Option V)) (l₂ := capt.map fun j => (σ[j]?).join) (i := i) (by simpa using hi)
        rw [List.length_replicate] at q
        rw [← q]
        exact h2
      rw [List.getElem?_map] at h1'' h2'
      cases hj : capt[i - xs.length]? with
      | none => rw [hj] at h1''; cases h1''
      | some j =>
        rw [hj] at h1'' h2'
        have ey : X.N.getD j "" = y := by simpa using h1''
        have ev : (σ[j]?).join = some v := by simpa using h2'
        have hjm : j ∈ capt := List.mem_of_getElem? hj
        have hjl := hcap j hjm
        have hN : X.N[j]? = some y := by
          rw [List.getD_eq_getElem?_getD, List.getElem?_eq_getElem hjl] at ey
          rw [List.getElem?_eq_getElem hjl]
          simpa using ey
        have hσ : σ[j]? = some (some v) := by
          cases e : σ[j]? with
          | none => rw [e] at ev; cases ev
          | some o => rw [e] at ev; have ev' : o = some v := ev; rw [ev']
        have hfr : scope.names.lookup y = some .free := ok.cs y (List.mem_map.mpr ⟨j, hjm, ey⟩)
        have hout : X.env.scope.names.lookup y = some .cell := ok.free y .free (PySem.mem_of_lookup hfr) rfl
        obtain ⟨mX, _, hl⟩ := I.loc
        obtain ⟨u, ru, lk⟩ := hl j y v hN hσ (.inr (.inl hout))
        refine ⟨u, ru, ?_⟩
        have hko : X.env.kindOf y = some .cell := hout
        rcases lk with ⟨z, _⟩ | ⟨_, c, hc, hcell⟩
        · rw [hko] at z; cases z
        · refine .inr ⟨.inl (relabel_free ok.okind hout hfr), c, ?_, hcell.keeps keep⟩
          show (ccs X scope HH.objs.size).lookup y = some c
          obtain ⟨c', hc1, hc2⟩ := ccs_free I ok (C := HH.objs.size) hfr
          rw [hc] at hc2
          cases hc2
          exact hc1
  · rcases look y c e with ⟨p, _⟩ | ⟨p, _⟩
    · obtain ⟨v, hv⟩ := I.cell y c p
      exact ⟨v, hv.keeps keep⟩
    · exact ⟨_, hcl y c p⟩
  · rcases look y c e with ⟨p, _⟩ | ⟨_, p⟩
    · exact I.freeC y c p
    · exact I.hok.fresh (show @LE.le Nat _ s2.heap.objs.size c by omega)
  · have hp' : p = (s2.heap.objs.size, emptyL) := by simpa [cxCompC] using hp
    subst hp'
    refine ⟨hD, I.hok.fresh (Nat.le_refl _), Nat.ne_of_lt (show s2.heap.objs.size < HH.objs.size by omega), I.stk_lt (Nat.le_refl _), fun v z => by cases z⟩
  · show _ = (xs ++ capt.map fun j => X.N.getD j "").length
    simp

theorem comp_blockC {elt iter tg : Expr} {g : TG} {ifs : List Expr} {pos : Pos} {tt : TT} {te : TE} {it : Addr} {tn : Nat → Heap → Prop} {J : It} {RR : Value → Addr → Result → Shared → Prop}
    (hx0 : ∀ e s, ¬ X.xe e s) (hc : X.calm = true) (ok : CompOkC scope X.env.scope (capt.map fun j => X.N.getD j "")) (hcap : ∀ j ∈ capt, j < X.N.length) (hG : ∀ C s H ex, PG (cxCompC X xs capt scope C s H ex) tg g) (hgs : Shp xs.length g)
    (hT : ∀ C s H ex, PTs (cxCompC X xs capt scope C s H ex) ifs tt) (hE : ∀ C s H ex, PE (cxCompC X xs capt scope C s H ex) elt te)
    (I2 : Inv X pins σ H2 s2) (T : Turn X.prog X.w X.K tg J fp it tn) (st2 : tn 0 s2.heap) (f2 : ∀ b ∈ fp, FpOk X pins H2 b)
    (Fin : List V → Hp → Prop) (hW : CompG J xs.length (capt.map fun j => (σ[j]?).join) g tt te H2 Fin)
    (hRR : ∀ D C s' ys H' oc, H' D = none → Fin ys H' → Inv X pins σ (upd H' D (.lst ys)) s' → s'.heap.get? C = some oc → (∃ m, s'.heap.Ns C m) → C ≠ D → H' C = none → C ≠ X.env.locals → C ∉ frs X.stack → X.s₀.heap.objs.size ≤ C → (∀ y c, X.env.cells.lookup y = some c → c ≠ C) → (∀ p ∈ X.pn ++ pins, p.1 ≠ C) →
      (∀ v, oc.data ≠ .cell v) → RR (.ref D) C (.ok .next) s') :
    wpAny (model X.prog X.w) X.A (newList []) (fun acc s₃ => wpAny (model X.prog X.w) X.A (newFunctionEnv scope X.env.globals (clOf X.env scope.names []) [] X.env.qual none .none (some X.env)) (fun cenv s₄ =>
      codeAny (model X.prog X.w) X.A (.compStart (.ListComp elt [⟨tg, iter, ifs, 0⟩] scope pos) 0 (.ref it) acc { cenv with scope := relabel scope X.env }) (RR acc cenv.locals) s₄) X.xe s₃) X.xe s2 := by
  refine wpAny_newObj_type (newEnv_comp ?_)
  dsimp only
  generalize eH : s2.heap.push { cls := .type "list", dict := none, data := .seq ([] : List Value).toArray } = HH
  have eH' : HH = s2.heap.push emptyL := eH.symm
  have hsz : HH.objs.size = s2.heap.objs.size + 1 := by rw [eH', Heap.size_push]
  have hfo : ∀ b ∈ fp, ∃ o, s2.heap.get? b = some o := fun b hb => let ⟨o, ho, _⟩ := T.obj 0 _ st2 b hb; ⟨o, ho⟩
  have flt : ∀ b ∈ fp, b < s2.heap.objs.size := fun b hb => let ⟨o, ho⟩ := hfo b hb; Heap.lt_size ho
  have cok := cellsFrom_ok scope.names (HH.push { cls := .type "dict", data := .dict #[] }) (HH.objs.size + 1) [] ⟨fun _ _ hm => (nomatch hm), List.Pairwise.nil⟩ (by rw [Heap.size_push]; exact Nat.le_refl _)
  rw [Heap.size_push] at cok
  have hns := (Heap.Ns.new HH (.type "dict")).keeps (pushCells_keeps scope.names _)
  have keep0 : ∀ b o, HH.get? b = some o → (pushCells (HH.push { cls := .type "dict", data := .dict #[] }) scope.names).get? b = some o := fun b o e => pushCells_keeps _ _ b o (Heap.get?_push_of_some _ e)
  generalize eh1 : pushCells (HH.push { cls := .type "dict", data := .dict #[] }) scope.names = h1 at hns keep0 cok ⊢
  have keep1 : ∀ b o, s2.heap.get? b = some o → h1.get? b = some o := fun b o e => keep0 b o (by rw [eH']; exact Heap.get?_push_of_some _ e)
  have I4 := comp_invC (xs := xs) I2 ok hcap f2 hfo eH' hns keep0 fun y c h => (cok.empty y c h).1
  have st4 : tn 0 h1 := T.keep 0 _ _ st2 fun b _ o e => keep1 b o e
  obtain ⟨W, ⟨m0, w0⟩, turn⟩ := hW
  generalize hX : cxCompC X xs capt scope HH.objs.size { s2 with heap := HH } H2 (s2.heap.objs.size :: fp) = Y at I4
  have eProg : Y.prog = X.prog := by rw [← hX]; rfl
  have eW : Y.w = X.w := by rw [← hX]; rfl
  have eK : Y.K = X.K := by rw [← hX]; rfl
  have eA : Y.A = X.A := by rw [← hX]; rfl
  have eEnv : Y.env = compEnvC scope (ccs X scope HH.objs.size) HH.objs.size X.env := by rw [← hX]; rfl
  have eXe : Y.xe = X.xe := by rw [← hX]; rfl
  have eCalm : Y.calm = true := by rw [← hX]; exact hc
  have ePn : Y.pn = [] := by rw [← hX]; rfl
  have eEx : Y.ex = s2.heap.objs.size :: fp := by rw [← hX]; rfl
  have eFs : Y.fs = frs X.stack := by rw [← hX]; rfl
  have hT' : PTs Y ifs tt := by rw [← hX]; exact hT _ _ _ _
  have hE' : PE Y elt te := by rw [← hX]; exact hE _ _ _ _
  have hG' : PG Y tg g := by rw [← hX]; exact hG _ _ _ _
  have eH0 : Y.H₀ = H2 := by rw [← hX]; rfl
  have eS0 : Y.s₀ = { s2 with heap := HH } := by rw [← hX]; rfl
  have eL : Y.env.locals = HH.objs.size := by rw [eEnv]; rfl
  have ecl : Y.env.cells = ccs X scope HH.objs.size := by rw [eEnv]; rfl
  have look := ccs_look I2 ok (C := HH.objs.size)
  have fpOk : ∀ {pins' : List (Addr × Obj)} {H' : Hp}, (∀ b ∈ fp, H' b = none) → (∀ p ∈ pins', p.1 ∉ fp) → ∀ b ∈ fp, FpOk Y pins' H' b := fun {pins' H'} hn hp b hb => by
    have hlt := flt b hb
    refine ⟨hn b hb, by rw [eL]; exact Nat.ne_of_lt (Nat.lt_of_lt_of_le hlt (show s2.heap.objs.size ≤ HH.objs.size by omega)), ?_, .inl (by rw [eEx]; exact List.mem_cons_of_mem _ hb), fun y c e => ?_, fun p hpp z => ?_⟩
    · rw [eFs]
      intro q
      rcases List.mem_cons.mp (I2.stkSub b q) with e | e
      · exact (f2 b hb).2.1 e
      · exact (f2 b hb).2.2.1 e
    · rcases look y c (by rw [← ecl]; exact e) with ⟨p, _⟩ | ⟨_, p⟩
      · exact (f2 b hb).2.2.2.2.1 y c p
      · intro q
        have q' : @Eq Nat c b := q
        have hlt' : @LT.lt Nat _ b s2.heap.objs.size := hlt
        omega
    · rw [ePn, List.nil_append] at hpp
      exact hp p hpp (by rw [z]; exact hb)
  have Dnf : s2.heap.objs.size ∉ fp := fun z => absurd (flt _ z) (Nat.lt_irrefl _)
  have loop : codeAny (model X.prog X.w) X.A (.compLoop (.ListComp elt [⟨tg, iter, ifs, 0⟩] scope pos) 0 (.ref it) (.ref s2.heap.objs.size) Y.env) (RR (.ref s2.heap.objs.size) HH.objs.size) { s2 with heap := h1 } := by
    refine compLoop_own (fun n s' => ∃ i ys its k os H', Inv Y [(s2.heap.objs.size, { cls := .type "list", data := .seq its.toArray k })] (os ++ capt.map fun j => (σ[j]?).join) H' s' ∧ os.length = xs.length ∧ Vals ys its ∧ ys.length ≤ sizeLine ∧ tn i s'.heap ∧ (∀ b ∈ fp, H' b = none) ∧ W i n ys H') ?_ m0
      ⟨0, [], [], 0, _, H2, I4, List.length_replicate, .nil, Nat.zero_le _, st4, fun b hb => (f2 b hb).1, w0⟩
    rintro n s3 ⟨i, ys, its, k, os, H3, I3, hos, rv, hys, st3, fr3, w3⟩
    have noErr : ∀ {e : Value} {s : Shared}, X.xe e s → notedBy (model X.prog X.w) X.A Y.env (fun e s' => RR (.ref s2.heap.objs.size) HH.objs.size (.error e) s') e s := fun {e s} z => (hx0 e s z).elim
    have pinD := I3.pin (s2.heap.objs.size, { cls := .type "list", data := .seq its.toArray k }) (by simp)
    have fp3 := fpOk (pins' := [(s2.heap.objs.size, { cls := .type "list", data := .seq its.toArray k })]) fr3 (by simpa using Dnf)
    rcases turn i n ys H3 w3 with ⟨stop, fin⟩ | ⟨go, hlt, N, hN, step⟩
    · -- it stops
      have d := T.done Y eProg eW eK eCalm i _ s3 _ H3 X.xe I3 fp3 st3 stop
      rw [eA] at d
      refine wpAny_mono d (fun r s4 ⟨hr, I4'⟩ => ?_) fun e s z => noErr z
      subst hr
      show RR (.ref s2.heap.objs.size) HH.objs.size (.ok .next) s4
      have pinD4 := I4'.pin (s2.heap.objs.size, { cls := .type "list", data := .seq its.toArray k }) (by simp)
      obtain ⟨mC, nsC, _⟩ := I4'.loc
      rw [eL] at nsC
      obtain ⟨oC, esC, epC, hoC, hdC, _⟩ := id nsC
      have base4 := I4'.base
      rw [eFs, eEx, eH0, eS0] at base4
      have hCn : H3 HH.objs.size = none := by rw [← eL]; exact I4'.free
      refine hRR s2.heap.objs.size HH.objs.size s4 ys H3 oC pinD4.2.1 fin ?_ hoC ⟨mC, nsC⟩ (Nat.ne_of_gt (show s2.heap.objs.size < HH.objs.size by omega)) hCn (Nat.ne_of_gt (Nat.lt_of_lt_of_le I2.lt (show s2.heap.objs.size ≤ HH.objs.size by omega))) (I2.stk_lt (by omega)) (by have := I2.sz; omega) (fun y c e z => ?_) (fun p hp z => ?_) (fun v z => by rw [hdC] at z; cases z)
      · have hok4 := I4'.hok
        rw [eProg, eW] at hok4
        have hbl : ∀ b ob, s2.heap.get? b = some ob → b ∉ fp → HH.get? b = some ob ∧ b ∉ s2.heap.objs.size :: fp := fun b ob e hm =>
          ⟨by rw [eH']; exact Heap.get?_push_of_some _ e, fun z => (List.mem_cons.mp z).elim (fun q => absurd (Heap.lt_size e) (by rw [q]; exact Nat.lt_irrefl _)) hm⟩
        refine I2.call' (ch := fp) (by rw [I4'.os, eS0]) ⟨fun b ob e nn hb hx => ?_, fun b ob e nn hb hx => ?_, fun b ob e nn hx => ?_, fun b ob e hx => ?_, fun b xs e => ?_, fun b ob u e => ?_, fun b ps e => ?_⟩ (HOk.track hok4 pinD4.2.1 ⟨hys, its, k, rv, pinD4.1⟩) I4'.bare fun b hb => ⟨(f2 b hb).2.2.2.1, (f2 b hb).2.1, (f2 b hb).2.2.2.2.1, (f2 b hb).2.2.2.2.2⟩
        · obtain ⟨h1', h2'⟩ := hbl b ob e hx
          exact base4.keep b ob h1' nn hb h2'
        · obtain ⟨h1', h2'⟩ := hbl b ob e hx
          exact base4.slot b ob h1' nn hb h2'
        · obtain ⟨h1', h2'⟩ := hbl b ob e hx
          rw [upd_ne (Nat.ne_of_lt (Heap.lt_size e))]
          exact base4.free b ob h1' nn h2'
        · obtain ⟨h1', h2'⟩ := hbl b ob e hx
          exact base4.there b ob h1' h2'
        · have q := base4.tups b xs e
          rw [upd_ne (ne_of_none q pinD4.2.1)]
          exact q
        · have q := base4.frzs b ob u e
          rw [upd_ne (ne_of_none q pinD4.2.1)]
          exact q
        · obtain ⟨more, q⟩ := base4.tbls b ps e
          exact ⟨more, by rw [upd_ne (ne_of_none q pinD4.2.1)]; exact q⟩
      · obtain ⟨v, hv⟩ := I2.cell y c e
        have := hv.lt
        rw [z] at this
        exact absurd this (Nat.not_lt.mpr (show s2.heap.objs.size ≤ HH.objs.size by omega))
      · have := Heap.lt_size (I2.pin p hp).1
        rw [z] at this
        exact absurd this (Nat.not_lt.mpr (show s2.heap.objs.size ≤ HH.objs.size by omega))
    · -- one turn
      have d := T.item Y eProg eW eK eCalm i _ s3 _ H3 X.xe I3 fp3 st3 go
      rw [eA] at d
      refine wpAny_mono d (fun r s4 ⟨u, hr, h4⟩ => ?_) fun e s z => noErr z
      subst hr
      refine wpAny_mono h4 (fun _ s5 ⟨v, H5, I5, r5, y5, st5, fr5⟩ => ?_) fun e s z => noErr z
      have fp5 := fpOk (pins' := [(s2.heap.objs.size, { cls := .type "list", data := .seq its.toArray k })]) fr5 (by simpa using Dnf)
      have I5' := I5.pinned fp5 (T.obj _ _ st5)
      have pg' := hG' _ s5 _ H5 v u _ I5' r5 (hgs v os _ H5 _ hos (step v H5 y5 os hos))
      rw [eProg, eW, eA, eXe] at pg'
      refine wpAny_mono pg' (fun _ s6 ⟨σ6, H6, I6, ⟨os6, hos6, e6⟩, q6⟩ => ?_) fun e s z => noErr z
      subst e6
      have t6 := hT' _ s6 _ H6 _ I6 q6
      rw [eProg, eW, eA, eXe] at t6
      refine wpAny_mono t6 (fun b s7 ⟨H7, I7, q7⟩ => ?_) fun e s z => noErr z
      have ntn : ∀ {σ' : St} {H' : Hp} {s' : Shared}, Inv Y ([(s2.heap.objs.size, { cls := .type "list", data := .seq its.toArray k })] ++ pinsAt fp s5.heap) σ' H' s' → tn (i + 1) s'.heap ∧ ∀ b ∈ fp, H' b = none := fun {σ' H' s'} J' => by
        refine ⟨T.keep _ _ _ st5 fun b hb o e => (J'.pin (b, o) (List.mem_append_right _ (List.mem_append_right _ (mem_pinsAt hb e)))).1, fun b hb => ?_⟩
        obtain ⟨o, e, _⟩ := T.obj _ _ st5 b hb
        exact (J'.pin (b, o) (List.mem_append_right _ (List.mem_append_right _ (mem_pinsAt hb e)))).2.1
      cases b with
      | false =>
        rw [if_neg Bool.false_ne_true] at q7
        obtain ⟨m', hm, w7⟩ := hN _ _ q7
        rw [if_neg Bool.false_ne_true]
        exact ⟨m', hm, i + 1, ys, its, k, os6, H7, I7.unpinned, hos6, rv, hys, (ntn I7).1, (ntn I7).2, w7⟩
      | true =>
        rw [if_pos rfl] at q7
        rw [if_pos rfl]
        have e7 := hE' _ s7 _ H7 _ I7 q7
        rw [eProg, eW, eA, eXe] at e7
        refine wpAny_mono e7 (fun uy s8 ⟨y, H8, I8, r8, n8⟩ => ?_) fun e s z => noErr z
        obtain ⟨m', hm, w8⟩ := hN _ _ n8
        have pin8 := I8.pin (s2.heap.objs.size, { cls := .type "list", data := .seq its.toArray k }) (by simp)
        have hlen : ys.length = its.length := rv.length
        refine wpAny_list_append_plain (hsz := by rw [List.size_toArray]; omega) ⟨k, pin8.1⟩ fun h9 ⟨k9, hl9⟩ hs9 => ?_
        have hk9 : ∀ b o, b ≠ s2.heap.objs.size → s8.heap.get? b = some o → h9.get? b = some o := fun b o hb e => (hs9.2 b hb).trans e
        have I8u : Inv Y (pinsAt fp s5.heap) (os6 ++ capt.map fun j => (σ[j]?).join) H8 s8 := I8.pins_of fun p hp => I8.pin p (List.mem_append_right _ (List.mem_append_right _ hp))
        have I9 : Inv Y (pinsAt fp s5.heap) (os6 ++ capt.map fun j => (σ[j]?).join) H8 { s8 with heap := h9, toks := s8.toks } := I8u.turned (it := s2.heap.objs.size) hk9 pin8.2.1 (by rw [eL]; exact Nat.ne_of_lt (show s2.heap.objs.size < HH.objs.size by omega)) (.inl (by rw [eEx]; exact List.mem_cons_self))
          (fun y c e z => by
            rw [ecl] at e
            rcases look y c e with ⟨p, _⟩ | ⟨_, p⟩
            · obtain ⟨v', hv⟩ := I2.cell y c p
              have := hv.lt
              rw [z] at this
              exact absurd this (Nat.lt_irrefl _)
            · have z' : @Eq Nat c s2.heap.objs.size := z
              omega)
          (fun p hp z => by
            rw [ePn, List.nil_append] at hp
            exact Dnf (by rw [← z]; exact (of_pinsAt hp).1))
        have hl9' : h9.get? s2.heap.objs.size = some { cls := .type "list", data := .seq (its ++ [uy]).toArray k9 } := by
          rw [hl9]; simp
        refine ⟨m', hm, i + 1, ys ++ [y], its ++ [uy], k9, os6, H8, I9.pins_of fun p hp => ?_, hos6, rv.append (.cons r8 .nil), ?_, ?_, (ntn I8).2, w8⟩
        · have hp' : p = (s2.heap.objs.size, { cls := .type "list", data := .seq (its ++ [uy]).toArray k9 }) := by simpa using hp
          subst hp'
          exact ⟨hl9', pin8.2.1, pin8.2.2.1, pin8.2.2.2.1, fun v z => by cases z⟩
        · rw [List.length_append, List.length_singleton]; omega
        · refine T.keep _ _ _ (ntn I8).1 fun b hb o e => hk9 b o (fun z => Dnf (by rw [← z]; exact hb)) e
  rw [eEnv] at loop
  refine codeAny_compStart_list ?_ ?_
  · exact loop
  · exact T.self _ 0 _ _ _ st4 loop

theorem pe_compC {elt iter : Expr} {x : Str} {px : Pos} {ifs : List Expr} {pos : Pos} {wi : TI} {tt : TT} {te : TE} (capt : List Nat)
    (hx0 : ∀ e s, ¬ X.xe e s) (hc : X.calm = true) (hi : PI X (.Name x px) iter wi)
    (hT : ∀ C s H ex, PTs (cxCompC X [x] capt scope C s H ex) ifs tt) (hE : ∀ C s H ex, PE (cxCompC X [x] capt scope C s H ex) elt te)
    (hk : compOkC scope X.env.scope (capt.map fun j => X.N.getD j "") = true) (hxc : scope.names.lookup x = some .cell) (hcap : ∀ j ∈ capt, j < X.N.length) (hnd : (x :: capt.map fun j => X.N.getD j "").Nodup)
    (hs : ∀ y, foldedSetIterable iter X.env y = pure y := by intro _; rfl) : PE X (.ListComp elt [⟨.Name x px, iter, ifs, 0⟩] scope pos) (tComp capt wi tt te) := by
  intro pins s σ H Q I h
  have ok := compOkC.mk hk
  rw [eval_ListComp]
  refine wpAny_comprehension_free (use := none) (cl := clOf X.env scope.names []) rfl hs (closure_clOf fun n k hm hf => ?_) ok.kind ok.names (thn (hi pins s σ H _ I h) fun xv s1 h1 => thn h1 fun itv s2 h2 => ?_)
  · obtain ⟨c, e⟩ := I.ok.has n (.inl (ok.free n k hm (by simpa using hf)))
    rw [e]; rfl
  · obtain ⟨it, fp, tn, J, H2, e, I2, T, st2, f2, hW⟩ := h2
    subst e
    have hG : ∀ C s H ex, PG (cxCompC X [x] capt scope C s H ex) (.Name x px) (gName 0) := fun C s H ex =>
      pg_name (i := 0) hnd rfl (.inr (relabel_cell hxc)) (.inl (by show (scope.names.lookup x == some NameKind.cell) = true; rw [hxc]; rfl))
    refine comp_blockC (xs := [x]) (RR := fun acc C => compPost (model X.prog X.w) X.A X.xe none (EP X pins σ Q) acc C) hx0 hc ok hcap hG shp_name hT hE I2 T st2 f2 (fun ys H => ∀ l, H l = none → Q (.ref l) (upd H l (.lst ys))) hW.g ?_
    intro D C s' ys H' oc hD fin I' hC ⟨m, hns⟩ hCD hCn hL _ hsz hcl hpn _
    refine ⟨m, hns, fun h' hsb => ⟨.ref D, _, I'.turned (t' := s'.toks) (it := C) (fun b o hb e => (hsb.2 b hb).trans e) (by rw [upd_ne hCD]; exact hCn) hL (.inr hsz) hcl hpn, rfl, fin D hD⟩⟩
end
end L2

set_option Elab.async false
set_option linter.all false
set_option maxRecDepth 100000
/-! Rows of rows, and runs. -/
namespace L2
open PySem PySem.Spec
theorem pairedMem {α β : Type} {R S : α → β → Prop} : ∀ {xs : List α} {ys : List β}, (∀ a b, a ∈ xs → R a b → S a b) → Paired R xs ys → Paired S xs ys
  | _, _, _, .nil => .nil
  | _, _, h, .cons a b => .cons (h _ _ List.mem_cons_self a) (pairedMem (fun x y m q => h x y (List.mem_cons_of_mem _ m) q) b)
theorem pairedSn {α β : Type} {R : α → β → Prop} {xs us : List α} {ys vs : List β} (p : Paired R xs ys) (q : Paired R us vs) : Paired R (xs ++ us) (ys ++ vs) := pairedApp q p
theorem pairedGet {α β : Type} {R : α → β → Prop} : ∀ {xs : List α} {ys : List β} {i : Nat} {x : α}, Paired R xs ys → xs[i]? = some x → ∃ y, ys[i]? = some y ∧ R x y
  | _, _, i, x, .nil, h => by simp at h
  | _, _, 0, x, .cons a b, h => by
    simp at h
    subst h
    exact ⟨_, rfl, a⟩
  | _, _, i + 1, x, .cons a b, h => by
    rw [List.getElem?_cons_succ] at h ⊢
    exact pairedGet b h
theorem pairedGet' {α β : Type} {R : α → β → Prop} : ∀ {xs : List α} {ys : List β} {i : Nat} {y : β}, Paired R xs ys → ys[i]? = some y → ∃ x, xs[i]? = some x ∧ R x y
  | _, _, i, x, .nil, h => by simp at h
  | _, _, 0, x, .cons a b, h => by
    simp at h
    subst h
    exact ⟨_, rfl, a⟩
  | _, _, i + 1, x, .cons a b, h => by
    rw [List.getElem?_cons_succ] at h ⊢
    exact pairedGet' b h
theorem pairedAll {α β : Type} {R : α → β → Prop} : ∀ {xs : List α} {ys : List β} {x : α}, Paired R xs ys → x ∈ xs → ∃ y, y ∈ ys ∧ R x y
  | _, _, x, .cons a b, h => by
    rcases List.mem_cons.mp h with rfl | q
    · exact ⟨_, List.mem_cons_self, a⟩
    · obtain ⟨y, hy, r⟩ := pairedAll b q
      exact ⟨y, List.mem_cons_of_mem _ hy, r⟩
/-- lists of wholes -/
abbrev Pw (H : Hp) (rs : List Addr) (rows : List (List Int)) : Prop := Paired (fun r (x : List Int) => H r = some (.lst (x.map V.int))) rs rows
def RwsR (H : Hp) (p : Addr) (rs : List Addr) (rows : List (List Int)) : Prop := H p = some (.lst (rs.map V.ref)) ∧ Pw H rs rows
theorem RwsR.same {H H' : Hp} {p : Addr} {rs : List Addr} {rows : List (List Int)} (s : Same H H') (h : RwsR H p rs rows) : RwsR H' p rs rows := ⟨s _ _ h.1, pairedMono (fun _ _ q => s _ _ q) h.2⟩
theorem RwsR.length {H : Hp} {p : Addr} {rs : List Addr} {rows : List (List Int)} (h : RwsR H p rs rows) : rs.length = rows.length := Paired.length h.2
def dRows (rows : List (List Int)) : PyData := .list (rows.map fun x => .list (x.map PyData.int))
theorem pw_rd {K : PySem.W.Frag} {H : Hp} {rs : List Addr} {rows : List (List Int)} (h : Pw H rs rows) : RdDs K H (rows.map fun x => PyData.list (x.map PyData.int)) (rs.map V.ref) := by
  induction h with
  | nil => exact RdDs.nil
  | cons a r ih => exact RdDs.cons (rdInts a) ih
theorem RwsR.rd {K : PySem.W.Frag} {H : Hp} {p : Addr} {rs : List Addr} {rows : List (List Int)} (h : RwsR H p rs rows) : RdD K H (dRows rows) (.ref p) := RdD.lst (SqL.of h.1) (pw_rd h.2)
theorem dRows_cmp (rows : List (List Int)) : Cmp 64 (dRows rows) := (Cmp.list (n := 1) fun d hd => by
  obtain ⟨x, _, rfl⟩ := List.mem_map.mp hd
  exact Cmp.list (Cmp.ints _)).mono (by decide)
def rstep (h : Int) (W : Wk) (s : List Int × List (List Int)) (r : List Int) : List Int × List (List Int) := (told (eL h (r ++ s.1) W.gates) (W.boxes.map (·.2)), s.2 ++ [told (eL h (r ++ s.1) W.gates) W.outs])
def rstepB (W : Wk) (s : List Int × List (List Int)) (r : List Int) : List Int × List (List Int) := (toldB (bL (r ++ s.1) W.gates) (W.boxes.map (·.2)), s.2 ++ [toldB (bL (r ++ s.1) W.gates) W.outs])
def runS (h : Int) (W : Wk) (st : List Int) (rows : List (List Int)) : List Int × List (List Int) := rows.foldl (rstep h W) (st, [])
def runB (W : Wk) (st : List Int) (rows : List (List Int)) : List Int × List (List Int) := rows.foldl (rstepB W) (st, [])
theorem take_get {α : Type} {xs : List α} {i : Nat} {x : α} (h : xs[i]? = some x) : xs.take (i + 1) = xs.take i ++ [x] := by
  obtain ⟨hi, he⟩ := List.getElem?_eq_some_iff.mp h
  rw [List.take_succ_eq_append_getElem hi, he]
theorem runS_snoc {h : Int} {W : Wk} {st : List Int} {rows : List (List Int)} {i : Nat} {r : List Int} (e : rows[i]? = some r) : runS h W st (rows.take (i + 1)) = rstep h W (runS h W st (rows.take i)) r := by
  unfold runS
  rw [take_get e, List.foldl_append]
  rfl
theorem runB_snoc {W : Wk} {st : List Int} {rows : List (List Int)} {i : Nat} {r : List Int} (e : rows[i]? = some r) : runB W st (rows.take (i + 1)) = rstepB W (runB W st (rows.take i)) r := by
  unfold runB
  rw [take_get e, List.foldl_append]
  rfl
theorem told_len (E es : List Int) : (told E es).length = es.length := List.length_map _
theorem toldB_len (E es : List Int) : (toldB E es).length = es.length := List.length_map _
theorem runS_len {h : Int} {W : Wk} : ∀ (rows : List (List Int)) (s : List Int × List (List Int)), s.1.length = W.boxes.length → (rows.foldl (rstep h W) s).1.length = W.boxes.length ∧ (rows.foldl (rstep h W) s).2.length = s.2.length + rows.length
  | [], s, e => ⟨e, rfl⟩
  | r :: rows, s, e => by
    rw [List.foldl_cons]
    obtain ⟨h1, h2⟩ := runS_len rows (rstep h W s r) (by show (told _ _).length = _; rw [told_len, List.length_map])
    refine ⟨h1, ?_⟩
    rw [h2]
    show (s.2 ++ [_]).length + rows.length = _
    rw [List.length_append, List.length_singleton, List.length_cons]
    omega
theorem runB_len {W : Wk} : ∀ (rows : List (List Int)) (s : List Int × List (List Int)), s.1.length = W.boxes.length → (rows.foldl (rstepB W) s).1.length = W.boxes.length ∧ (rows.foldl (rstepB W) s).2.length = s.2.length + rows.length
  | [], s, e => ⟨e, rfl⟩
  | r :: rows, s, e => by
    rw [List.foldl_cons]
    obtain ⟨h1, h2⟩ := runB_len rows (rstepB W s r) (by show (toldB _ _).length = _; rw [toldB_len, List.length_map])
    refine ⟨h1, ?_⟩
    rw [h2]
    show (s.2 ++ [_]).length + rows.length = _
    rw [List.length_append, List.length_singleton, List.length_cons]
    omega
theorem runB_bits {W : Wk} : ∀ (rows : List (List Int)) (s : List Int × List (List Int)), (∀ x ∈ s.2, x.length = W.outs.length ∧ Bits x) → ∀ x ∈ (rows.foldl (rstepB W) s).2, x.length = W.outs.length ∧ Bits x
  | [], s, h => h
  | r :: rows, s, h => by
    rw [List.foldl_cons]
    refine runB_bits rows (rstepB W s r) fun x hx => ?_
    rcases List.mem_append.mp hx with q | q
    · exact h x q
    · rw [List.mem_singleton.mp q]
      exact ⟨toldB_len _ _, toldB_bits _ _⟩
theorem run_eq {W : Wk} (ok : W.Ok) : ∀ (rows : List (List Int)) (s : List Int × List (List Int)), Bits s.1 → s.1.length = W.boxes.length → (∀ r ∈ rows, r.length = W.ins ∧ Bits r) → rows.foldl (rstep 1 W) s = rows.foldl (rstepB W) s
  | [], s, _, _, _ => rfl
  | r :: rows, s, hb, hl, hr => by
    rw [List.foldl_cons, List.foldl_cons]
    obtain ⟨r1, r2⟩ := hr r List.mem_cons_self
    have fit : Fits W r s.1 := ⟨r1, hl⟩
    have rel := ends_bits (xs := r ++ s.1) (gs := W.gates) (fun x hx => (List.mem_append.mp hx).elim (r2 x) (hb x)) (fit.gate ok)
    have hk := fit.knots 1
    have e : rstep 1 W s r = rstepB W s r := by
      unfold rstep rstepB
      rw [told_eq rel (es := W.outs) (fun e he => by rw [hk]; have := ok.out e he; push_cast; exact this), told_eq rel (es := W.boxes.map (·.2)) (fun e he => by
        rw [hk]
        obtain ⟨x, hx, rfl⟩ := List.mem_map.mp he
        have := (ok.box x hx).2
        push_cast
        exact this)]
    rw [e]
    exact run_eq ok rows (rstepB W s r) (toldB_bits _ _) (by show (toldB _ _).length = _; rw [toldB_len, List.length_map]) fun x hx => hr x (List.mem_cons_of_mem _ hx)
end L2

set_option Elab.async false
set_option linter.all false
set_option maxRecDepth 100000
/-! Many runs at once: the lanes of wholes. -/
namespace L2
open PySem PySem.Spec
def ln (r : Nat) (x : Int) : Int := x / 2 ^ r % 2
def Rng (m : Nat) (x : Int) : Prop := 0 ≤ x ∧ x < 2 ^ m
theorem cast_pow (r : Nat) : ((2 : Int) ^ r) = ((2 ^ r : Nat) : Int) := by rw [Int.natCast_pow]; rfl
theorem ln_nat (r n : Nat) : ln r (n : Int) = ((n.testBit r).toNat : Int) := by
  unfold ln
  rw [Nat.toNat_testBit, cast_pow, Int.natCast_emod, Int.natCast_ediv]
  rfl
theorem ln_bit (r : Nat) (x : Int) : ln r x = 0 ∨ ln r x = 1 := by
  unfold ln
  generalize x / 2 ^ r = y
  omega
theorem ln_zero (r : Nat) : ln r 0 = 0 := by unfold ln; rw [Int.zero_ediv]; rfl
theorem Rng.nat {m : Nat} {x : Int} (h : Rng m x) : ∃ a : Nat, x = a ∧ a < 2 ^ m := by
  obtain ⟨h0, h1⟩ := h
  obtain ⟨a, rfl⟩ := Int.eq_ofNat_of_zero_le h0
  rw [cast_pow] at h1
  exact ⟨a, rfl, by omega⟩
theorem Rng.of {m a : Nat} (h : a < 2 ^ m) : Rng m (a : Int) := ⟨by omega, by rw [cast_pow]; omega⟩
theorem Rng.zero {m : Nat} : Rng m 0 := Rng.of (a := 0) (Nat.pow_pos (by decide))
theorem and_rng {m : Nat} {x y : Int} (hx : Rng m x) (hy : Rng m y) : Rng m (Builtin.bitAnd x y) ∧ ∀ r, ln r (Builtin.bitAnd x y) = ln r x * ln r y := by
  obtain ⟨a, rfl, ha⟩ := hx.nat
  obtain ⟨b, rfl, hb⟩ := hy.nat
  rw [PyProof.Rows.bitAnd_pp (by omega) (by omega), Int.toNat_natCast, Int.toNat_natCast]
  refine ⟨Rng.of (Nat.and_lt_two_pow a hb), fun r => ?_⟩
  rw [ln_nat, ln_nat, ln_nat, Nat.testBit_and]
  cases a.testBit r <;> cases b.testBit r <;> rfl
theorem xor_rng {m : Nat} {x : Int} (hx : Rng m x) : Rng m (Builtin.bitXor (2 ^ m - 1) x) ∧ ∀ r, r < m → ln r (Builtin.bitXor (2 ^ m - 1) x) = 1 - ln r x := by
  obtain ⟨a, rfl, ha⟩ := hx.nat
  have hp : 0 < 2 ^ m := Nat.pow_pos (by decide)
  have hh : ((2 : Int) ^ m - 1) = ((2 ^ m - 1 : Nat) : Int) := by rw [cast_pow]; omega
  have e : Builtin.bitXor (2 ^ m - 1) (a : Int) = ((2 ^ m - (a + 1) : Nat) : Int) := by
    rw [PyProof.Rows.bitXor_and, hh, PyProof.Rows.bitAnd_pp (by omega) (by omega), Int.toNat_natCast, Int.toNat_natCast, Nat.and_comm, Nat.and_two_pow_sub_one_eq_mod, Nat.mod_eq_of_lt ha]
    omega
  rw [e]
  refine ⟨Rng.of (by omega), fun r hr => ?_⟩
  rw [ln_nat, ln_nat, Nat.testBit_two_pow_sub_succ ha]
  rw [show decide (r < m) = true from decide_eq_true hr]
  cases a.testBit r <;> rfl
structure RelM (m r : Nat) (E b : List Int) : Prop where
  len : E.length = 2 * b.length
  rng : ∀ e, Rng m (E.getD e 0)
  at' : ∀ e : Nat, e < E.length → ln r (E.getD e 0) = (b.getD (e / 2) 0 + e) % 2
section
variable {m r : Nat} (hr : r < m)
include hr
theorem RelM.snoc {E b : List Int} (q : RelM m r E b) {x : Int} (hx : Rng m x) : RelM m r (E ++ [x, Builtin.bitXor (2 ^ m - 1) x]) (b ++ [ln r x]) := by
  obtain ⟨x1, x2⟩ := xor_rng hx
  have hb := ln_bit r x
  refine ⟨by rw [List.length_append, List.length_append, q.len]; simp; omega, fun e => ?_, fun e he => ?_⟩
  · by_cases hk : e < E.length
    · rw [getD_left hk]; exact q.rng e
    · obtain ⟨j, rfl⟩ : ∃ j, e = E.length + j := ⟨e - E.length, by omega⟩
      rw [getD_right]
      match j with
      | 0 => exact hx
      | 1 => exact x1
      | j + 2 => exact Rng.zero
  · by_cases hk : e < E.length
    · rw [getD_left hk, q.at' e hk, getD_left (by have := q.len; omega)]
    · obtain ⟨j, rfl⟩ : ∃ j, e = E.length + j := ⟨e - E.length, by omega⟩
      rw [List.length_append] at he
      have hj : j = 0 ∨ j = 1 := by simp at he; omega
      have hl := q.len
      rw [getD_right]
      rcases hj with rfl | rfl
      · rw [show (E.length + 0) / 2 = b.length + 0 by omega, getD_right]
        show ln r x = (ln r x + _) % 2
        omega
      · rw [show (E.length + 1) / 2 = b.length + 0 by omega, getD_right]
        show ln r (Builtin.bitXor (2 ^ m - 1) x) = (ln r x + _) % 2
        rw [x2 r hr]
        omega
theorem RelM.row {xs : List Int} (hx : ∀ x ∈ xs, Rng m x) : ∀ {E b : List Int}, RelM m r E b → RelM m r (E ++ fl (2 ^ m - 1) xs) (b ++ xs.map (ln r)) := by
  induction xs with
  | nil => intro E b q; rw [show fl (2 ^ m - 1) [] = [] from rfl, List.append_nil, List.map_nil, List.append_nil]; exact q
  | cons x t ih =>
    intro E b q
    have := ih (fun y hy => hx y (List.mem_cons_of_mem _ hy)) (RelM.snoc hr q (hx x List.mem_cons_self))
    rw [List.append_assoc, List.append_assoc] at this
    exact this
theorem RelM.gate {E b : List Int} (q : RelM m r E b) {g : Int × Int} (h1 : 0 ≤ g.1 ∧ g.1 < 2 * b.length) (h2 : 0 ≤ g.2 ∧ g.2 < 2 * b.length) : RelM m r (estep (2 ^ m - 1) E g) (bstep b g) := by
  have hl := q.len
  have e : ∀ x : Int, 0 ≤ x → x < 2 * b.length → ln r (E.getD x.toNat 0) = (b.getD (x / 2).toNat 0 + x) % 2 := fun x h0 h1 => by
    rw [q.at' x.toNat (by omega), show x.toNat / 2 = (x / 2).toNat by omega]
    congr 2
    omega
  obtain ⟨a1, a2⟩ := and_rng (q.rng g.1.toNat) (q.rng g.2.toNat)
  unfold estep bstep
  rw [← e _ h1.1 h1.2, ← e _ h2.1 h2.2, ← a2 r]
  exact RelM.snoc hr q a1
theorem RelM.gates : ∀ {gs : List (Int × Int)} {E b : List Int}, RelM m r E b → GateOk b.length gs → RelM m r (gs.foldl (estep (2 ^ m - 1)) E) (gs.foldl bstep b)
  | [], _, _, q, _ => q
  | g :: gs, E, b, q, h => by
    rw [List.foldl_cons, List.foldl_cons]
    have h0 := h 0 g rfl
    refine RelM.gates (RelM.gate hr q (by have := h0.1; omega) (by have := h0.2; omega)) fun k g' hk => ?_
    have := h (k + 1) g' (by simpa using hk)
    unfold bstep
    rw [List.length_append, List.length_singleton]
    push_cast at this ⊢
    constructor
    · omega
    · omega
theorem ends_lanes {xs : List Int} {gs : List (Int × Int)} (hx : ∀ x ∈ xs, Rng m x) (hg : GateOk (1 + xs.length) gs) : RelM m r (eL (2 ^ m - 1) xs gs) (bL (xs.map (ln r)) gs) := by
  have h1 := xor_rng (m := m) Rng.zero
  have h0 : Builtin.bitXor (2 ^ m - 1) 0 = 2 ^ m - 1 := PyProof.Rows.bitXor_zero _
  rw [h0] at h1
  have r0 : RelM m r [0, 2 ^ m - 1] [0] := ⟨rfl, fun e => by
    match e with
    | 0 => exact Rng.zero
    | 1 => exact h1.1
    | e + 2 => exact Rng.zero, fun e he => by
    have he : e < 2 := he
    have : e = 0 ∨ e = 1 := by omega
    rcases this with rfl | rfl
    · exact ln_zero r
    · show ln r (2 ^ m - 1) = _
      rw [h1.2 r hr, ln_zero]
      rfl⟩
  refine RelM.gates hr (RelM.row hr hx r0) ?_
  rw [List.length_append, List.length_singleton, List.length_map]
  exact hg
theorem told_lane {E b : List Int} (q : RelM m r E b) {es : List Int} (h : ∀ e ∈ es, 0 ≤ e ∧ e < E.length) : (told E es).map (ln r) = toldB b es := by
  unfold told toldB
  rw [List.map_map]
  refine List.map_congr_left fun e he => ?_
  obtain ⟨h0, h1⟩ := h e he
  show ln r (E.getD e.toNat 0) = _
  rw [q.at' e.toNat (by omega), show e.toNat / 2 = (e / 2).toNat by omega]
  congr 2
  omega
theorem told_rng {E b : List Int} (q : RelM m r E b) (es : List Int) : ∀ x ∈ told E es, Rng m x := fun x hx => by
  obtain ⟨e, _, rfl⟩ := List.mem_map.mp hx
  exact q.rng _
theorem step_lane {W : Wk} (ok : W.Ok) {x : List Int} {s : List Int × List (List Int)} (h1 : ∀ y ∈ s.1, Rng m y) (h2 : s.1.length = W.boxes.length) (h3 : x.length = W.ins) (h4 : ∀ y ∈ x, Rng m y) :
    rstepB W (s.1.map (ln r), s.2.map (List.map (ln r))) (x.map (ln r)) = ((rstep (2 ^ m - 1) W s x).1.map (ln r), (rstep (2 ^ m - 1) W s x).2.map (List.map (ln r))) ∧ (∀ y ∈ (rstep (2 ^ m - 1) W s x).1, Rng m y) ∧ ∀ y ∈ told (eL (2 ^ m - 1) (x ++ s.1) W.gates) W.outs, Rng m y := by
  have fit : Fits W x s.1 := ⟨h3, h2⟩
  have rel := ends_lanes hr (xs := x ++ s.1) (gs := W.gates) (fun y hy => (List.mem_append.mp hy).elim (h4 y) (h1 y)) (fit.gate ok)
  have hk := fit.knots (2 ^ m - 1)
  refine ⟨?_, told_rng hr rel _, told_rng hr rel _⟩
  unfold rstep rstepB
  dsimp only
  rw [← List.map_append (f := ln r) (l₁ := x), ← told_lane hr rel (es := W.outs) (fun e he => by rw [hk]; have := ok.out e he; push_cast; exact this), ← told_lane hr rel (es := W.boxes.map (·.2)) (fun e he => by
    rw [hk]
    obtain ⟨y, hy, rfl⟩ := List.mem_map.mp he
    have := (ok.box y hy).2
    push_cast
    exact this), List.map_append]
  rfl
theorem run_lane {W : Wk} (ok : W.Ok) : ∀ (rows : List (List Int)) (s : List Int × List (List Int)), (∀ y ∈ s.1, Rng m y) → s.1.length = W.boxes.length → (∀ x ∈ rows, x.length = W.ins ∧ ∀ y ∈ x, Rng m y) → (∀ x ∈ s.2, x.length = W.outs.length ∧ ∀ y ∈ x, Rng m y) →
    (rows.map (List.map (ln r))).foldl (rstepB W) (s.1.map (ln r), s.2.map (List.map (ln r))) = ((rows.foldl (rstep (2 ^ m - 1) W) s).1.map (ln r), (rows.foldl (rstep (2 ^ m - 1) W) s).2.map (List.map (ln r))) ∧ ∀ x ∈ (rows.foldl (rstep (2 ^ m - 1) W) s).2, x.length = W.outs.length ∧ ∀ y ∈ x, Rng m y
  | [], s, _, _, _, h5 => ⟨rfl, h5⟩
  | x :: rows, s, h1, h2, h3, h5 => by
    obtain ⟨x1, x2⟩ := h3 x List.mem_cons_self
    obtain ⟨e1, e2, e3⟩ := step_lane hr ok h1 h2 x1 x2
    rw [List.map_cons, List.foldl_cons, List.foldl_cons, e1]
    refine run_lane ok rows (rstep (2 ^ m - 1) W s x) e2 (by show (told _ _).length = _; rw [told_len, List.length_map]) (fun z hz => h3 z (List.mem_cons_of_mem _ hz)) fun z hz => ?_
    rcases List.mem_append.mp hz with q | q
    · exact h5 z q
    · rw [List.mem_singleton.mp q]
      exact ⟨told_len _ _, e3⟩
end
/-- a stand's lane -/
theorem first_lane {m r : Nat} (hr : r < m) {W : Wk} (ok : W.Ok) : (W.boxes.map fun x => x.1 * (2 ^ m - 1)).map (ln r) = W.boxes.map (·.1) ∧ ∀ y ∈ (W.boxes.map fun x => x.1 * (2 ^ m - 1)), Rng m y := by
  have h1 := xor_rng (m := m) Rng.zero
  rw [PyProof.Rows.bitXor_zero] at h1
  refine ⟨?_, fun y hy => ?_⟩
  · rw [List.map_map]
    refine List.map_congr_left fun x hx => ?_
    show ln r (x.1 * (2 ^ m - 1)) = x.1
    rcases (ok.box x hx).1 with e | e
    · rw [e, Int.zero_mul, ln_zero]
    · rw [e, Int.one_mul, h1.2 r hr, ln_zero]; rfl
  · obtain ⟨x, hx, rfl⟩ := List.mem_map.mp hy
    rcases (ok.box x hx).1 with e | e
    · rw [e, Int.zero_mul]; exact Rng.zero
    · rw [e, Int.one_mul]; exact h1.1
def sp_run_by (K : PySem.W.Frag) : Sp := fun vs H Q _ => ∃ (w b g o p : Addr) (rs : List Addr) (W : Wk) (rows : List (List Int)) (h : Int), vs = [.ref w, .ref p, .int h] ∧ IsWkA H w b g o W ∧ W.Ok ∧ RwsR H p rs rows ∧ (∀ x ∈ rows, x.length = W.ins) ∧ rows.length ≤ 1000 ∧ (-(2 ^ 64) < h ∧ h < 2 ^ 64) ∧
  ∀ l us H', H l = none → Same H H' → RwsR H' l us (runS h W (W.boxes.map fun x => x.1 * h) rows).2 → (∀ u ∈ us, H u = none) → Q (.ref l) H'
end L2

set_option Elab.async false
set_option linter.all false
set_option maxRecDepth 100000
/-! range(n) as a thing, and list of it. -/
namespace L2
open PySem PySem.Spec PyProof.Rows
variable {X : Cx}
theorem call_rangeO : CallR X (.type "range") (fun xs H Q => ∃ n : Int, xs = [.int n] ∧ ∀ p, H p = none → Q (.ref p) (upd H p (.rng 0 n))) := by
  intro pins s σ H xs us Q I r h
  obtain ⟨n, rfl, q⟩ := h
  obtain ⟨u, rfl, rx⟩ := vals1 r
  obtain ⟨t, rfl⟩ := rx
  refine call_range_1 ?_
  exact ⟨.ref s.heap.objs.size, _, I.laid (a := s.heap.objs.size) (o := .rng 0 n) (fun _ _ e => Heap.get?_push_of_some _ e) (Nat.le_refl _) ⟨_, _, _, Heap.get?_push_size _ rfl⟩, rfl, q _ (I.hok.fresh (Nat.le_refl _))⟩
theorem items_vals {n : Nat} {acc : Array Value} (h : ItemsOf (fun i v => ∃ t, v = Value.int ((0 : Int) + i * 1) t) acc n) : Vals ((List.range n).map fun i => V.int (i : Nat)) acc.toList := by
  obtain ⟨h1, h2⟩ := h
  have hl : acc.toList.length = n := by rw [Array.length_toList]; exact h1
  have go : ∀ (l : List Value) (k m : Nat), l.length = m → (∀ j v, l[j]? = some v → ∃ t, v = Value.int ((0 : Int) + ((k + j : Nat) : Int) * 1) t) → Vals ((List.range' k m).map fun i => V.int (i : Nat)) l := by
    intro l
    induction l with
    | nil =>
      intro k m hm _
      subst hm
      exact .nil
    | cons v l ih =>
      intro k m hm hv
      cases m with
      | zero => cases hm
      | succ m =>
        rw [List.range'_succ, List.map_cons]
        refine .cons ?_ (ih (k + 1) m (by simpa using hm) fun j u hj => ?_)
        · obtain ⟨t, rfl⟩ := hv 0 v rfl
          refine ⟨t, ?_⟩
          congr 1
          omega
        · obtain ⟨t, e⟩ := hv (j + 1) u (by simpa using hj)
          exact ⟨t, by rw [e]; congr 1; push_cast; omega⟩
  rw [List.range_eq_range']
  refine go acc.toList 0 n hl fun j v hj => ?_
  obtain ⟨t, e⟩ := h2 j v (by simpa using hj)
  exact ⟨t, by rw [e, Nat.zero_add]⟩
theorem call_list_rng (hc : X.calm = true) : CallR X (.type "list") (fun xs H Q => ∃ p n, xs = [.ref p] ∧ H p = some (.rng 0 n) ∧ 0 ≤ n ∧ n ≤ 10000 ∧ ∀ l, H l = none → Q (.ref l) (upd H l (.lst ((List.range n.toNat).map fun i => V.int (i : Nat))))) := by
  intro pins s σ H xs us Q I r h
  obtain ⟨p, n, rfl, hp, n0, n1, q⟩ := h
  obtain ⟨u, rfl, rx⟩ := vals1 r
  cases rx
  obtain ⟨t, u, v, e⟩ : ∃ t u v, s.heap.get? p = some { cls := .type "range", data := .fields #[.int 0 t, .int n u, .int 1 v] } := I.hok p _ hp
  have hsz : Builtin.Range.rangeSize 0 n 1 = ((n.toNat : Nat) : Int) := by rw [rangeSize_one]; split <;> omega
  refine call_list_range (I.ok.hd hc) e (small_one (by decide) (by decide) (by omega) (by omega)) hsz (Nat.le_trans (show n.toNat ≤ 10000 by omega) (by decide)) fun h' tk acc c' kp e' hi => ?_
  refine ⟨.ref s.heap.objs.size, _, I.laid (a := s.heap.objs.size) (o := .lst ((List.range n.toNat).map fun i => V.int (i : Nat))) kp (Nat.le_refl _) ⟨?_, acc.toList, c', items_vals hi, e'⟩, rfl, q _ (I.hok.fresh (Nat.le_refl _))⟩
  rw [List.length_map, List.length_range]
  exact small (by omega)
theorem mt_joinK {K : PySem.W.Frag} (h : X.K = K) : MtR X "str.join" (fun x xs H Q => ∃ (sep : Str) (p : Addr) (ts : List Str), x = .str sep ∧ xs = [.ref p] ∧ SqL K H p (ts.map V.str) ∧ (ts.map (·.length)).sum + ts.length * sep.length ≤ 16777216 ∧ Q (.str (Txt.join sep ts)) H) := by subst h; exact mt_join
theorem pe_bmK {K : PySem.W.Frag} {o e : Expr} {es : List Expr} {to : TE} {t : TA} {name : Str} {apos cpos : Pos} {T id : String} {r : V → List V → Hp → VK → Prop} (hK : X.K = K) (pa : PlainAttrs T) (slot : Slot T name id) (hty : typeOf (.builtin id) = pure (.type "method_descriptor")) (hm : MtR X id r) (ho : PE X o to) (ha : PA X (e :: es) t)
    (hbase : attributeBase o name X.env (eval o X.env) = eval o X.env := by rfl)
    (hfew : ((backTo cpos (starEach (e :: es) X.env)).all (fun x => !x.1) && (backToKw cpos (keywordEach [] X.env)).all (fun x => x.1.isSome)
      && decide ((e :: es).length + ([] : List Keyword).length + (if ([] : List Keyword).isEmpty then 0 else 1) < 30)) = true := by rfl)
    (hline : (apos.endLine == cpos.line) = true := by rfl) (hs : starEach (e :: es) X.env = (false, eval e X.env) :: starEach es X.env := by rfl) (hplain : (backTo cpos (starEach es X.env)).any (·.1) = false := by rfl) :
    PE X (.Call (.Attribute o name apos) (e :: es) [] cpos) (tBM K T r to t) := by
  subst hK
  exact pe_bm pa slot hty hm ho ha hbase hfew hline hs hplain
end L2

set_option Elab.async false
set_option linter.all false
/-! Sums and bits of one word over another. -/
namespace L2
open PySem
theorem case_less {x m : Int} {w : Nat} (hx : Rng w x) : ((x + m) % 2 ^ w - m) % 2 ^ w = x := by
  rw [Int.emod_sub_emod, Int.add_sub_cancel]
  exact Int.emod_eq_of_lt hx.1 hx.2
theorem case_sum {x m : Int} {w : Nat} (hx : Rng w x) : ((x - m) % 2 ^ w + m) % 2 ^ w = x := by
  rw [Int.emod_add_emod, Int.sub_add_cancel]
  exact Int.emod_eq_of_lt hx.1 hx.2
theorem case_not {x : Int} {w : Nat} : (2 : Int) ^ w - 1 - (2 ^ w - 1 - x) = x := by omega
theorem case_cut0 {x y : Int} {a : Nat} (hx : Rng a x) : (x + y * 2 ^ a) / 2 ^ 0 % 2 ^ a = x := by
  rw [Int.pow_zero, Int.ediv_one, Int.add_mul_emod_self_right]
  exact Int.emod_eq_of_lt hx.1 hx.2
theorem case_cut1 {x y : Int} {a b : Nat} (hx : Rng a x) (hy : Rng b y) : (x + y * 2 ^ a) / 2 ^ a % 2 ^ b = y := by
  have hp : (2 : Int) ^ a ≠ 0 := by rw [cast_pow]; have : 0 < 2 ^ a := Nat.pow_pos (by decide); omega
  rw [Int.add_mul_ediv_right _ _ hp, Int.ediv_eq_zero_of_lt hx.1 hx.2, Int.zero_add]
  exact Int.emod_eq_of_lt hy.1 hy.2
theorem xor_sum (a b : Nat) : (a ^^^ b) + 2 * (a &&& b) = a + b := by
  induction a using Nat.strongRecOn generalizing b with
  | _ a ih =>
    by_cases ha : a = 0
    · subst ha; simp
    · have e1 : a ^^^ b = 2 * ((a / 2) ^^^ (b / 2)) + (a ^^^ b) % 2 := by
        have := Nat.div_add_mod (a ^^^ b) 2
        rw [Nat.xor_div_two] at this
        omega
      have e2 : a &&& b = 2 * ((a / 2) &&& (b / 2)) + (a &&& b) % 2 := by
        have := Nat.div_add_mod (a &&& b) 2
        rw [Nat.and_div_two] at this
        omega
      have e3 := ih (a / 2) (by omega) (b / 2)
      have e4 : (a ^^^ b) % 2 + 2 * ((a &&& b) % 2) = a % 2 + b % 2 := by
        have h1 : (a ^^^ b) % 2 = 1 ↔ ¬ (a % 2 = 1 ↔ b % 2 = 1) := Nat.xor_mod_two_eq_one
        have h2 : (a &&& b) % 2 = 1 ↔ a % 2 = 1 ∧ b % 2 = 1 := Nat.and_mod_two_eq_one
        generalize (a ^^^ b) = c at h1
        generalize (a &&& b) = d at h2
        by_cases ha' : a % 2 = 1 <;> by_cases hb' : b % 2 = 1 <;> simp only [ha', hb', iff_true, true_iff, iff_false, not_true, not_false_iff, and_self, and_false, false_and, true_and, and_true, false_iff] at h1 h2 <;> omega
      omega
/-- the bits of two wholes apart -/
theorem xor_nat (a b : Nat) : Builtin.bitXor (a : Int) (b : Int) = ((a ^^^ b : Nat) : Int) := by
  rw [PyProof.Rows.bitXor_and, PyProof.Rows.bitAnd_pp (by omega) (by omega), Int.toNat_natCast, Int.toNat_natCast]
  have h := xor_sum a b
  omega
theorem case_odd {x m : Int} {w : Nat} (hx : Rng w x) (hm : Rng w m) : Builtin.bitXor (Builtin.bitXor x m) m = x := by
  obtain ⟨a, rfl, _⟩ := hx.nat
  obtain ⟨b, rfl, _⟩ := hm.nat
  rw [xor_nat, xor_nat, Nat.xor_assoc, Nat.xor_self, Nat.xor_zero]
theorem case_or {x m : Int} {w : Nat} (hx : Rng w x) (hm : Rng w m) : Builtin.bitOr (Builtin.bitAnd x m) (Builtin.bitAnd x (2 ^ w - 1 - m)) = x := by
  obtain ⟨a, rfl, ha⟩ := hx.nat
  obtain ⟨b, rfl, hb⟩ := hm.nat
  have hc : ((2 : Int) ^ w - 1 - (b : Int)) = ((2 ^ w - (b + 1) : Nat) : Int) := by rw [cast_pow]; omega
  rw [PyProof.Rows.bitOr_and, hc, PyProof.Rows.bitAnd_pp (x := (a : Int)) (y := (b : Int)) (by omega) (by omega), PyProof.Rows.bitAnd_pp (x := (a : Int)) (by omega) (by omega), PyProof.Rows.bitAnd_pp (by omega) (by omega)]
  simp only [Int.toNat_natCast]
  have hb' : ∀ i, (2 ^ w - (b + 1)).testBit i = (decide (i < w) && !b.testBit i) := fun i => Nat.testBit_two_pow_sub_succ hb i
  have hai : ∀ i, ¬ i < w → a.testBit i = false := fun i hi => Nat.testBit_lt_two_pow (Nat.lt_of_lt_of_le ha (Nat.pow_le_pow_right (by decide) (by omega)))
  have h0 : (a &&& b) &&& (a &&& (2 ^ w - (b + 1))) = 0 := by
    refine Nat.eq_of_testBit_eq fun i => ?_
    rw [Nat.testBit_and, Nat.testBit_and, Nat.testBit_and, hb', Nat.zero_testBit]
    cases a.testBit i <;> cases b.testBit i <;> simp
  have h1 : (a &&& b) ^^^ (a &&& (2 ^ w - (b + 1))) = a := by
    refine Nat.eq_of_testBit_eq fun i => ?_
    rw [Nat.testBit_xor, Nat.testBit_and, Nat.testBit_and, hb']
    by_cases hi : i < w
    · rw [decide_eq_true hi]
      cases a.testBit i <;> cases b.testBit i <;> rfl
    · rw [hai i hi]
      simp
  have h2 := xor_sum (a &&& b) (a &&& (2 ^ w - (b + 1)))
  rw [h0, h1] at h2
  rw [h0]
  omega
theorem case_down {x : Int} {w k : Nat} (hx : 0 ≤ x) : x * 2 ^ k % 2 ^ w / 2 ^ k = x % 2 ^ (w - k) := by
  obtain ⟨a, rfl⟩ := Int.eq_ofNat_of_zero_le hx
  rw [cast_pow, cast_pow, cast_pow, ← Int.natCast_mul, ← Int.natCast_emod, ← Int.natCast_ediv, ← Int.natCast_emod]
  congr 1
  have hp : 0 < 2 ^ k := Nat.pow_pos (by decide)
  by_cases h : k ≤ w
  · rw [show 2 ^ w = 2 ^ (w - k) * 2 ^ k by rw [← Nat.pow_add]; congr 1; omega, Nat.mul_mod_mul_right, Nat.mul_div_cancel _ hp]
  · rw [show w - k = 0 by omega, Nat.pow_zero, Nat.mod_one, show 2 ^ k = 2 ^ (k - w) * 2 ^ w by rw [← Nat.pow_add]; congr 1; omega, ← Nat.mul_assoc, Nat.mul_mod_left, Nat.zero_div]
end L2

set_option Elab.async false
set_option linter.all false
set_option maxRecDepth 100000
/-! zip of two lists, walked by a loop. -/
namespace L2
open PySem PySem.Spec PyProof.Rows
section
variable {X : Cx} {pins : List (Addr × Obj)} {σ : St} {H : Hp} {s : Shared} {h' : Heap}
theorem Inv.turnedL {t' : Nat} {ch : List Addr} (I : Inv X pins σ H s) (k : ∀ b o, b ∉ ch → s.heap.get? b = some o → h'.get? b = some o) (hc : ∀ b ∈ ch, FpOk X pins H b) : Inv X pins σ H { s with heap := h', toks := t' } := by
  have nit : ∀ b u, H b = some u → b ∉ ch := fun b u e z => by have := (hc b z).1; rw [this] at e; cases e
  refine I.step (g' := s.gens) (d' := s.drawn) (ch := ch) (fun b hb => ?_) (fun b o _ _ hn e _ => k b o hn e) (fun b o _ _ hn e _ => ⟨o.slots, k b o hn e⟩) (fun _ _ _ _ n => n)
    (fun b o hn e => ⟨o, k b o hn e⟩) (fun _ _ e => e) (fun _ _ _ e => e) (fun b ps e => ⟨#[], by rw [e]; simp⟩) (fun m hm => ?_) (fun b u e => ?_) I.bare
  · obtain ⟨_, f1, _, f3, f4, f5⟩ := hc b hb
    exact ⟨f3, f1, f4, f5⟩
  · obtain ⟨o, es, ep, ho, r⟩ := hm
    exact ⟨o, es, ep, k _ o (fun z => (hc _ z).2.1 rfl) ho, r⟩
  · refine (I.hok b u e).stay (fun c v hn q => k c v ?_ q) (fun _ q => q) fun _ _ q => q
    rcases hn with z | z
    · rw [z]; exact nit b u e
    · exact nit c _ z
end
def Itz (K : PySem.W.Frag) (a b : Addr) : It :=
  ⟨fun i H => ∃ xs ys x y, SqL K H a xs ∧ SqL K H b ys ∧ xs[i]? = some x ∧ ys[i]? = some y,
   fun i H v H' => ∃ p x y, v = .ref p ∧ H p = none ∧ H' = upd H p (.tup [x, y]) ∧ (∀ xs, SqL K H a xs → xs[i]? = some x) ∧ ∀ ys, SqL K H b ys → ys[i]? = some y,
   fun i H => ∃ xs ys, SqL K H a xs ∧ SqL K H b ys ∧ (xs.length ≤ i ∨ ys.length ≤ i)⟩
theorem turn_zip {P : Program} {w : World} {K : PySem.W.Frag} {elts : List Expr} {kk : Nat} {pos : Pos} (a b z TI TO i1 i2 : Addr) (D : ZipApart z TI TO i1 i2 a b) :
    Turn P w K (.Tuple elts kk pos) (Itz K a b) [z, TI, TO, i1, i2] z (fun i h => IsZip h z TI TO .none ∧ IsPair h TI (.ref i1) (.ref i2) ∧ (∃ c d, IsPair h TO c d) ∧ h.IsListIter i1 a i ∧ h.IsListIter i2 b i) where
  mem := by simp
  obj := fun i h st c hc => by
    obtain ⟨h1, h2, ⟨x, y, h3⟩, ⟨o4, e4, c4, d4⟩, ⟨o5, e5, c5, d5⟩⟩ := st
    have hc' : c = z ∨ c = TI ∨ c = TO ∨ c = i1 ∨ c = i2 := by simpa using hc
    rcases hc' with rfl | rfl | rfl | rfl | rfl
    · exact ⟨_, h1, fun v q => by cases q⟩
    · exact ⟨_, h2, fun v q => by cases q⟩
    · exact ⟨_, h3, fun v q => by cases q⟩
    · exact ⟨o4, e4, fun v q => by rw [d4] at q; cases q⟩
    · exact ⟨o5, e5, fun v q => by rw [d5] at q; cases q⟩
  keep := fun i h h' st k => by
    obtain ⟨h1, h2, ⟨x, y, h3⟩, h4, h5⟩ := st
    exact ⟨k z (by simp) _ h1, k TI (by simp) _ h2, ⟨x, y, k TO (by simp) _ h3⟩, h4.at fun o e => k i1 (by simp) o e, h5.at fun o e => k i2 (by simp) o e⟩
  item := by
    intro X hP hw hK hc i pins s σ H E I hf st hg
    subst hP hw hK
    obtain ⟨xs, ys, x, y, hq1, hq2, hx, hy⟩ := hg
    obtain ⟨its1, rv1, p1, hz1⟩ := I.list hq1
    obtain ⟨its2, rv2, p2, hz2⟩ := I.list hq2
    obtain ⟨u1, hu1, ru1⟩ := rv1.get hx
    obtain ⟨u2, hu2, ru2⟩ := rv2.get hy
    obtain ⟨sz, sTI, ⟨c, d, sTO⟩, s1, s2⟩ := st
    refine wpAny_pyNext_zip_item D sz sTI sTO s1 s2 p1.isList p2.isList (x := u1) (y := u2) (by simpa using hu1) (by simpa using hu2) fun h' b1 b2 b3 b4 b5 b6 hk => ?_
    have lt : ∀ {c o}, s.heap.get? c = some o → c ≠ s.heap.objs.size := fun e => Nat.ne_of_lt (Heap.lt_size e)
    have I0 : Inv X pins σ (upd H s.heap.objs.size (.tup [x, y])) { s with heap := s.heap.push { cls := .type "tuple", data := .seq #[u1, u2] }, toks := s.toks } :=
      I.laid (a := s.heap.objs.size) (o := .tup [x, y]) (t' := s.toks) (fun b u e => Heap.get?_push_of_some _ e) (Nat.le_refl _) ⟨(by show 2 ≤ sizeLine; decide), [u1, u2], .cons ru1 (.cons ru2 .nil), _, Heap.get?_push_size _ rfl, rfl, _, rfl⟩
    have hnone : ∀ c ∈ [z, TI, TO, i1, i2], (upd H s.heap.objs.size (.tup [x, y])) c = none := fun c hc' => by
      have hne : c ≠ s.heap.objs.size := by
        have hc'' : c = z ∨ c = TI ∨ c = TO ∨ c = i1 ∨ c = i2 := by simpa using hc'
        rcases hc'' with rfl | rfl | rfl | rfl | rfl
        · exact lt sz
        · exact lt sTI
        · exact lt sTO
        · obtain ⟨_, e, _⟩ := s1; exact lt e
        · obtain ⟨_, e, _⟩ := s2; exact lt e
      rw [upd_ne hne]
      exact (hf c hc').1
    have hf' : ∀ c ∈ [z, TI, TO, i1, i2], FpOk X pins (upd H s.heap.objs.size (.tup [x, y])) c := fun c hc' => ⟨hnone c hc', (hf c hc').2⟩
    have kk1 : ∀ c o, c ∉ [z, TO, i1, i2] → (s.heap.push { cls := .type "tuple", data := .seq #[u1, u2] }).get? c = some o → h'.get? c = some o := fun c o hn e => by
      rcases Heap.get?_push_cases e with ⟨rfl, rfl⟩ | e'
      · exact b5
      · exact hk c o (fun q => hn (by simp [q])) (fun q => hn (by simp [q])) (fun q => hn (by simp [q])) (fun q => hn (by simp [q])) e'
    have kk2 : ∀ c ∈ [z, TO, i1, i2], FpOk X pins (upd H s.heap.objs.size (.tup [x, y])) c := fun c hc' => hf' c (by
      have hc'' : c = z ∨ c = TO ∨ c = i1 ∨ c = i2 := by simpa using hc'
      rcases hc'' with rfl | rfl | rfl | rfl <;> simp)
    have I1 := I0.turnedL (h' := h') (t' := s.toks) (ch := [z, TO, i1, i2]) kk1 kk2
    refine ⟨_, rfl, wpAny_letOwnedTupleGo_zip b1 fun h2 c1 c2 => ?_⟩
    have I2 := I1.turnedL (h' := h2) (t' := s.toks) (ch := [z]) (fun c o hn e => (c2.2 c (fun q => hn (by simp [q]))).trans e) (fun c hc' => hf' c (by rw [List.mem_singleton.mp hc']; simp))
    refine ⟨.ref s.heap.objs.size, _, I2, rfl, ⟨_, x, y, rfl, I.hok.fresh (Nat.le_refl _), rfl, fun xs' q => by rw [I.list_inj q hq1]; exact hx, fun ys' q => by rw [I.list_inj q hq2]; exact hy⟩, ?_, hnone⟩
    have mv : ∀ c o, c ≠ z → h'.get? c = some o → h2.get? c = some o := fun c o hn e => (c2.2 c hn).trans e
    exact ⟨c1, mv _ _ D.TIz (hk _ _ D.TIz D.TITO D.TIi1 D.TIi2 sTI), ⟨_, _, mv _ _ D.TOz b2⟩, b3.at fun o e => mv _ o D.i1z e, b4.at fun o e => mv _ o D.i2z e⟩
  done := by
    intro X hP hw hK hc i pins s σ H E I hf st hg
    subst hP hw hK
    obtain ⟨xs, ys, hq1, hq2, hx⟩ := hg
    obtain ⟨its1, rv1, p1, hz1⟩ := I.list hq1
    obtain ⟨its2, rv2, p2, hz2⟩ := I.list hq2
    have l1 := rv1.length
    have l2 := rv2.length
    obtain ⟨sz, sTI, ⟨c, d, sTO⟩, s1, s2⟩ := st
    refine wpAny_pyNext_zip_end (I.ok.hd hc) D sz sTI sTO s1 s2 p1.isList p2.isList ?_ fun h' hk => ⟨rfl, I.turnedL (t' := s.toks) (ch := [z, TO, i1, i2]) (fun c o hn e => hk c o (fun q => hn (by simp [q])) (fun q => hn (by simp [q])) (fun q => hn (by simp [q])) (fun q => hn (by simp [q])) e) (fun c hc' => hf c ?_)⟩
    · rcases hx with q | q
      · exact .inl (by simp; omega)
      · exact .inr (by simp; omega)
    · have hc'' : c = z ∨ c = TO ∨ c = i1 ∨ c = i2 := by simpa using hc'
      rcases hc'' with rfl | rfl | rfl | rfl <;> simp
  self := fun _ _ _ _ _ st h => wpAny_pyIter_zip st.1 h
def iZip (K : PySem.W.Frag) (ta : TA) : TI := fun σ H R => ta σ H fun vs H1 => ∃ a b, vs = [.ref a, .ref b] ∧ (∃ xs, SqL K H1 a xs) ∧ (∃ ys, SqL K H1 b ys) ∧ R (Itz K a b) H1
theorem pi_zip {X : Cx} {elts : List Expr} {kk : Nat} {tpos : Pos} {a b : Expr} {ta : TA} {p pos : Pos} (hg : Gl X "zip") (hm : X.mg "zip" = none) (ha : PA X [a, b] ta) (hs : starEach [a, b] X.env = [(false, eval a X.env), (false, eval b X.env)] := by rfl) (hs2 : starEach [b] X.env = [(false, eval b X.env)] := by rfl) :
    PI X (.Tuple elts kk tpos) (.Call (.Name "zip" p) [a, b] [] pos) (iZip X.K ta) := by
  intro pins s σ H R I h
  refine Call_ (ld_blt I hg hm PyProof.Rows.boot_zip (PyProof.Rows.callWith_type1 (thn (ha pos pins s σ H _ I h) fun us s1 ⟨vs, H1, I1, r1, q1⟩ => ?_) (by rw [hs, hs2]) (by rw [hs2]; rfl)))
  obtain ⟨l1, l2, e, ⟨xs, hq1⟩, ⟨ys, hq2⟩, q⟩ := q1
  subst e
  cases r1 with
  | cons r rr =>
    cases rr with
    | cons r' rr =>
      cases rr
      cases r
      cases r'
      obtain ⟨its1, rv1, p1, hz1⟩ := I1.list hq1
      obtain ⟨its2, rv2, p2, hz2⟩ := I1.list hq2
      have hlt1 : @LT.lt Nat _ l1 s1.heap.objs.size := by obtain ⟨o, e, _⟩ := p1.isList; exact Heap.lt_size e
      have hlt2 : @LT.lt Nat _ l2 s1.heap.objs.size := by obtain ⟨o, e, _⟩ := p2.isList; exact Heap.lt_size e
      refine call_zip_2 p1.isList p2.isList fun h' hz hTI hTO hi1 hi2 hsz hk => wpAny_pyIter_zip hz ?_
      have D : ZipApart (s1.heap.objs.size + 4) (s1.heap.objs.size + 2) (s1.heap.objs.size + 3) s1.heap.objs.size (s1.heap.objs.size + 1) l1 l2 := PySem.W.ktu_apart _ _ _ hlt1 hlt2
      refine ⟨_, [s1.heap.objs.size + 4, s1.heap.objs.size + 2, s1.heap.objs.size + 3, s1.heap.objs.size, s1.heap.objs.size + 1], _, _, H1, rfl, I1.kept (t' := s1.toks) hk, turn_zip l1 l2 _ _ _ _ _ D, ⟨hz, hTI, ⟨_, _, hTO⟩, hi1, hi2⟩, fun c hc => ?_, q⟩
      have hc' : c = s1.heap.objs.size + 4 ∨ c = s1.heap.objs.size + 2 ∨ c = s1.heap.objs.size + 3 ∨ c = s1.heap.objs.size ∨ c = s1.heap.objs.size + 1 := by simpa using hc
      have hle : @LE.le Nat _ s1.heap.objs.size c := by
        rcases hc' with rfl | rfl | rfl | rfl | rfl
        · exact Nat.le_add_right _ _
        · exact Nat.le_add_right _ _
        · exact Nat.le_add_right _ _
        · exact Nat.le_refl _
        · exact Nat.le_add_right _ _
      exact I1.fpOk hle (I1.hok.fresh hle)
theorem for_zip {K : PySem.W.Frag} {a b : Addr} {xs ys : List V} {g : TG} {tb : TS} {D : Ends} {σ : St} {H : Hp} (Pv : Nat → St → Hp → Prop) (h0 : Pv 0 σ H) (hl : ∀ i σ H, Pv i σ H → SqL K H a xs ∧ SqL K H b ys) (he : xs.length = ys.length)
    (hs : ∀ i x y p σ H, xs[i]? = some x → ys[i]? = some y → Pv i σ H → H p = none → g (.ref p) σ (upd H p (.tup [x, y])) fun σ2 H2 => tb { D with nx := Pv (i + 1), ct := Pv (i + 1), bk := D.nx } σ2 H2) (hd : ∀ σ H, Pv xs.length σ H → D.nx σ H) :
    ∃ W : Nat → Nat → St → Hp → Prop, (∃ m, W 0 m σ H) ∧ ∀ i m σ H, W i m σ H →
      ((Itz K a b).stop i H ∧ D.nx σ H) ∨ ((Itz K a b).go i H ∧ ∃ N : St → Hp → Prop, (∀ σ' H', N σ' H' → ∃ m', m' < m ∧ W (i + 1) m' σ' H') ∧ ∀ x H', (Itz K a b).yld i H x H' → g x σ H' fun σ2 H2 => tb { D with nx := N, ct := N, bk := D.nx } σ2 H2) := by
  refine ⟨fun i m σ H => m = xs.length - i ∧ i ≤ xs.length ∧ Pv i σ H, ⟨xs.length, by simp, Nat.zero_le _, h0⟩, ?_⟩
  rintro i m σ H ⟨rfl, hi, p⟩
  obtain ⟨q1, q2⟩ := hl i σ H p
  by_cases hlt : i < xs.length
  · have hlt2 : i < ys.length := by omega
    refine .inr ⟨⟨xs, ys, xs[i], ys[i], q1, q2, by simp [hlt], by simp [hlt2]⟩, Pv (i + 1), fun σ' H' p' => ⟨xs.length - (i + 1), by omega, rfl, hlt, p'⟩, fun v H' y => ?_⟩
    obtain ⟨pp, x, y, rfl, hp, rfl, e1, e2⟩ := y
    exact hs i x y pp σ H (e1 xs q1) (e2 ys q2) p hp
  · have e : i = xs.length := by omega
    subst e
    exact .inl ⟨⟨xs, ys, q1, q2, .inl (Nat.le_refl _)⟩, hd σ H p⟩
end L2

set_option Elab.async false
set_option linter.all false
set_option maxRecDepth 100000
/-! dict(d), and two dicts compared. -/
namespace L2
open PySem PySem.Spec PyProof.Rows
variable {X : Cx}
theorem call_dict_of : CallR X (.type "dict") (fun xs H Q => ∃ a kvs, xs = [.ref a] ∧ H a = some (.dK kvs) ∧ ∀ p, H p = none → Q (.ref p) (upd H p (.dK kvs))) := by
  intro pins s σ H vs us Q I r h
  obtain ⟨a, kvs, rfl, e, q⟩ := h
  cases r with
  | cons r rr =>
    cases rr
    cases r
    exact d_copyOf I (.inl e) fun p s' hp I' => ⟨.ref p, _, I', rfl, q p hp⟩
theorem kv_hits {A : Around} {s : Shared} {kb : List (Key × Value)} {kvs : List (Key × V)} (relb : KV kvs kb) (hv : ∀ kv ∈ kvs, ∃ i, kv.2 = V.int i) (hk : ∀ kv ∈ kvs, valV kvs kv.1 = some kv.2) :
    ∀ {kvs' : List (Key × V)} {ka : List (Key × Value)}, (∀ kv ∈ kvs', kv ∈ kvs) → Paired (fun (p : Key × V) (q : Key × Value) => p.1 = q.1 ∧ RelV p.2 q.2) kvs' ka → PySem.W.KeqHits A s kb ka true := by
  intro kvs' ka hs r
  induction r with
  | nil => exact .nil
  | @cons p q l1 l2 hpq hr ih =>
    obtain ⟨k, v⟩ := p
    obtain ⟨k', u⟩ := q
    obtain ⟨e1, e2⟩ := hpq
    have e1' : k = k' := e1
    subst e1'
    have hm := hs (k, v) List.mem_cons_self
    obtain ⟨i, hi⟩ := hv _ hm
    have hi' : v = V.int i := hi
    subst hi'
    have h1 := relb.val k
    rw [hk _ hm] at h1
    cases hy : valueAt kb k with
    | none => rw [hy] at h1; exact False.elim h1
    | some y =>
      rw [hy] at h1
      have he := eqAt_V (A := A) (s := s) (y := .int i) (x := .int i) e2 h1 rfl rfl
      have ht : eqV (V.int i) (V.int i) = true := by simp [eqV]
      rw [ht] at he
      have := PySem.W.KeqHits.hit hy he (ih fun kv hkv => hs kv (List.mem_cons_of_mem _ hkv))
      exact this
theorem op_neDict (hu : X.A.units + 1 < cLine) : OpR X (compareOp .NotEq) (fun x y H Q => ∃ a b kvs, x = .ref a ∧ y = .ref b ∧ H a = some (.dK kvs) ∧ H b = some (.dK kvs) ∧ (∀ kv ∈ kvs, ∃ i, kv.2 = V.int i) ∧ (∀ kv ∈ kvs, valV kvs kv.1 = some kv.2) ∧ Q (.bl false) H) := by
  intro pins s σ H x y v u Q I rx ry h
  obtain ⟨a, b, kvs, rfl, rfl, ha, hb, hv, hk, q⟩ := h
  cases rx
  cases ry
  obtain ⟨z1, l1, ka, ra, da⟩ := dk_of I.hok ha
  obtain ⟨z2, l2, kb, rb, db⟩ := dk_of I.hok hb
  refine PySem.W.keq_ne (r := true) l1 l2 da db (by omega) (fun _ => kv_hits rb hv hk (fun _ h => h) ra) ?_
  refine ⟨.bl false, H, I, ?_, q⟩
  rw [← ra.length, ← rb.length, beq_self_eq_true]
  rfl
end L2
namespace L2
open PySem PySem.Spec PyProof.Rows
/-- t + u, either may be empty -/
def rCatE : R2 := fun x y H Q => ∃ a b xs ys, x = .ref a ∧ y = .ref b ∧ H a = some (.tup xs) ∧ H b = some (.tup ys) ∧ xs.length + ys.length ≤ sizeLine ∧ ∀ p H', Same H H' → H' p = some (.tup (xs ++ ys)) → Q (.ref p) H'
theorem op_catE {X : Cx} : OpR X (binaryOp .Add) rCatE := by
  intro pins s σ H x y v u Q I rx ry h
  obtain ⟨a, b, xs, ys, rfl, rfl, ha, hb, hz, q⟩ := h
  by_cases he : xs = []
  · subst he
    cases rx
    cases ry
    obtain ⟨its, r1, p1, _⟩ := I.tuple (SqT.of ha)
    obtain ⟨its2, r2, p2, _⟩ := I.tuple (SqT.of hb)
    cases r1
    obtain ⟨⟨cls, dd, data, sl⟩, ho, hc, n, hd⟩ := id p1
    obtain ⟨⟨cls2, dd2, data2, sl2⟩, ho2, hc2, n2, hd2⟩ := id p2
    simp only at hc hd hc2 hd2
    subst hc hd hc2 hd2
    exact concat_meets ⟨_, ho, rfl⟩ ⟨_, ho2, rfl⟩ noFill_tuple_add seq_tuple_add PySem.F.slot_tuple_add PySem.F.entry_tuple_add (PySem.F.args_tuple_add_2 _ _)
      (tuple_addW0 a b _ _ n n2 dd dd2 sl sl2 (by simp)) ⟨ho, ho2, ⟨.ref b, H, I, rfl, q b H (Same.refl H) hb⟩⟩
  · exact op_catT pins s σ H _ _ v u Q I rx ry ⟨a, b, xs, ys, rfl, rfl, SqT.of ha, SqT.of hb, he, hz, fun e => q a H (Same.refl H) (by rw [e, List.append_nil]; exact ha), fun _ p hp => q p _ (same_new hp _) upd_same⟩
end L2

set_option Elab.async false
set_option linter.all false
set_option maxRecDepth 100000
/-! Widths of sayings. -/
namespace L2
open PySem
/-- the word z may stand with hd ahead of k sayings -/
inductive Nd : Str → List PyData → Nat → Prop
  | not : Nd "not" [] 1
  | up (k : Int) : Nd "up" [.int k] 1
  | down (k : Int) : Nd "down" [.int k] 1
  | cut (f w : Int) (h : 1 ≤ w ∧ w ≤ 8) : Nd "cut" [.int f, .int w] 1
  | table (w n : Int) (ns : List Int) (h : 1 ≤ w ∧ w ≤ 8) : Nd "table" [.int w, .tuple ((n :: ns).map PyData.int)] 1
  | and : Nd "and" [] 2
  | or : Nd "or" [] 2
  | odd : Nd "odd" [] 2
  | sum : Nd "sum" [] 2
  | less : Nd "less" [] 2
  | under : Nd "under" [] 2
  | same : Nd "same" [] 2
  | join : Nd "join" [] 2
  | choice : Nd "choice" [] 3
/-- the width over the widths of the sayings -/
inductive Wo : Str → List PyData → List Int → Option Int → Prop
  | not (a : Int) : Wo "not" [] [a] (some a)
  | up (k a : Int) : Wo "up" [.int k] [a] (some a)
  | down (k a : Int) : Wo "down" [.int k] [a] (some a)
  | cut (f w a : Int) (h : 1 ≤ w ∧ w ≤ 8) : Wo "cut" [.int f, .int w] [a] (if f + w ≤ a then some w else none)
  | table (w n : Int) (ns : List Int) (a : Int) (h : 1 ≤ w ∧ w ≤ 8) : Wo "table" [.int w, .tuple ((n :: ns).map PyData.int)] [a] (if a ≤ 4 ∧ (((n :: ns).length : Nat) : Int) = 2 ^ a.toNat then some w else none)
  | and (a b : Int) : Wo "and" [] [a, b] (if a = b then some a else none)
  | or (a b : Int) : Wo "or" [] [a, b] (if a = b then some a else none)
  | odd (a b : Int) : Wo "odd" [] [a, b] (if a = b then some a else none)
  | sum (a b : Int) : Wo "sum" [] [a, b] (if a = b then some a else none)
  | less (a b : Int) : Wo "less" [] [a, b] (if a = b then some a else none)
  | under (a b : Int) : Wo "under" [] [a, b] (if a = b then some 1 else none)
  | same (a b : Int) : Wo "same" [] [a, b] (if a = b then some 1 else none)
  | join (a b : Int) : Wo "join" [] [a, b] (if a + b ≤ 8 then some (a + b) else none)
  | choice (c a b : Int) : Wo "choice" [] [c, a, b] (if c = 1 ∧ a = b then some a else none)
theorem Nd.form {z : Str} {hd : List PyData} {k : Nat} (h : Nd z hd k) : z ∈ words ∧ z ≠ "wire" ∧ z ≠ "number" ∧ formK z = hd.length + 1 ∧ hd.length ≤ 2 ∧ 1 ≤ k ∧ k ≤ 3 := by
  cases h <;> exact ⟨by decide, by decide, by decide, by simp only [List.length_cons, List.length_nil]; decide, by simp, by decide, by decide⟩
theorem Wo.nd {z : Str} {hd : List PyData} {ws : List Int} {r : Option Int} (h : Wo z hd ws r) : Nd z hd ws.length := by
  cases h <;> constructor <;> assumption
theorem Nd.wo {z : Str} {hd : List PyData} {k : Nat} (h : Nd z hd k) : ∀ ws : List Int, ws.length = k → ∃ r, Wo z hd ws r := by
  intro ws hl
  cases h <;> (first
    | (match ws, hl with
       | [a], _ => exact ⟨_, by constructor <;> assumption⟩)
    | (match ws, hl with
       | [a, b], _ => exact ⟨_, by constructor⟩)
    | (match ws, hl with
       | [a, b, c], _ => exact ⟨_, by constructor⟩))
theorem Wo.bound {z : Str} {hd : List PyData} {ws : List Int} {r : Option Int} (h : Wo z hd ws r) (hb : ∀ a ∈ ws, 1 ≤ a ∧ a ≤ 8) : ∀ w, r = some w → 1 ≤ w ∧ w ≤ 8 := by
  intro w e
  cases h <;> first
    | (cases e; exact hb _ List.mem_cons_self)
    | (split at e
       · cases e; first | assumption | exact hb _ List.mem_cons_self | exact ⟨by decide, by decide⟩ | exact hb _ (List.mem_cons_of_mem _ List.mem_cons_self) | (rename_i a b hle; have h1 := hb a List.mem_cons_self; have h2 := hb b (List.mem_cons_of_mem _ List.mem_cons_self); omega)
       · cases e)
def WS : Nat → Say → Prop
  | 0, _ => False
  | _ + 1, .wire _ => True
  | _ + 1, .num _ w => 1 ≤ w ∧ w ≤ 8
  | n + 1, .node z hd subs => Nd z hd subs.length ∧ ∀ s ∈ subs, WS n s
def WR (kv : Str → Option Int) : Nat → Say → Option Int → Prop
  | 0, _, _ => False
  | _ + 1, .wire x, r => r = kv x
  | _ + 1, .num _ w, r => r = some w ∧ 1 ≤ w ∧ w ≤ 8
  | n + 1, .node z hd subs, r => Nd z hd subs.length ∧ ∃ rs : List (Option Int), rs.length = subs.length ∧ (∀ (i : Nat) (s : Say), subs[i]? = some s → ∃ q, rs[i]? = some q ∧ WR kv n s q) ∧ ((none ∈ rs ∧ r = none) ∨ ∃ ws : List Int, rs = ws.map some ∧ Wo z hd ws r)
theorem some_all {rs : List (Option Int)} (h : none ∉ rs) : ∃ ws : List Int, rs = ws.map some := by
  induction rs with
  | nil => exact ⟨[], rfl⟩
  | cons r rest ih =>
    obtain ⟨ws, e⟩ := ih fun q => h (List.mem_cons_of_mem _ q)
    cases r with
    | none => exact absurd List.mem_cons_self h
    | some w => exact ⟨w :: ws, by rw [e]; rfl⟩
theorem WS.ex {kv : Str → Option Int} {n : Nat} {s : Say} (h : WS n s) : ∃ r, WR kv n s r := by
  induction n generalizing s with
  | zero => exact h.elim
  | succ n ih =>
    cases s with
    | wire x => exact ⟨_, rfl⟩
    | num i w => exact ⟨_, rfl, h⟩
    | node z hd subs =>
      obtain ⟨hn, hs⟩ := h
      have key : ∀ ss : List Say, (∀ s ∈ ss, WS n s) → ∃ rs : List (Option Int), rs.length = ss.length ∧ ∀ (i : Nat) (s : Say), ss[i]? = some s → ∃ q, rs[i]? = some q ∧ WR kv n s q := by
        intro ss
        induction ss with
        | nil => exact fun _ => ⟨[], rfl, fun i s e => by cases e⟩
        | cons t rest iht =>
          intro hh
          obtain ⟨q, hq⟩ := ih (hh t List.mem_cons_self)
          obtain ⟨rs, hl, hr⟩ := iht fun s hs' => hh s (List.mem_cons_of_mem _ hs')
          refine ⟨q :: rs, by simp [hl], fun i s e => ?_⟩
          cases i with
          | zero => cases e; exact ⟨q, rfl, hq⟩
          | succ i => exact hr i s e
      obtain ⟨rs, hl, hr⟩ := key subs hs
      by_cases hm : none ∈ rs
      · exact ⟨none, hn, rs, hl, hr, .inl ⟨hm, rfl⟩⟩
      · obtain ⟨ws, e⟩ := some_all hm
        have hwl : ws.length = subs.length := by rw [← hl, e, List.length_map]
        obtain ⟨r, hw⟩ := hn.wo ws hwl
        exact ⟨r, hn, rs, hl, hr, .inr ⟨ws, e, hw⟩⟩
theorem WR.bound {kv : Str → Option Int} (hk : ∀ x w, kv x = some w → 1 ≤ w ∧ w ≤ 8) {n : Nat} {s : Say} {r : Option Int} (h : WR kv n s r) : ∀ w, r = some w → 1 ≤ w ∧ w ≤ 8 := by
  induction n generalizing s r with
  | zero => exact h.elim
  | succ n ih =>
    intro w e
    cases s with
    | wire x => exact hk x w (by rw [← e]; exact h.symm)
    | num i w' => obtain ⟨h1, h2⟩ := h; rw [h1] at e; cases e; exact h2
    | node z hd subs =>
      obtain ⟨hn, rs, hl, hr, hc⟩ := h
      rcases hc with ⟨_, hc⟩ | ⟨ws, e1, hw⟩
      · rw [hc] at e; cases e
      · refine hw.bound (fun a ha => ?_) w e
        obtain ⟨i, hi, ei⟩ := List.getElem_of_mem ha
        have hl2 : ws.length = subs.length := by rw [← hl, e1, List.length_map]
        obtain ⟨q, hq, hqr⟩ := hr i subs[i] (List.getElem?_eq_getElem (by omega))
        rw [e1, List.getElem?_map, List.getElem?_eq_getElem hi] at hq
        have hq' : some a = q := by rw [← ei]; exact Option.some.inj hq
        exact ih hqr a hq'.symm
theorem Nd.noL {z : Str} {hd : List PyData} {k : Nat} (h : Nd z hd k) : noLs hd = true := by
  cases h <;> first | rfl | (simp only [noLs, noL, Bool.and_true, Bool.true_and]; exact noLs_ints _)
theorem WS.noL {n : Nat} {s : Say} (h : WS n s) : noL s.dat = true := by
  induction n generalizing s with
  | zero => exact h.elim
  | succ n ih =>
    cases s with
    | wire x => simp [Say.dat, L2.noL, noLs]
    | num i w => simp [Say.dat, L2.noL, noLs]
    | node z hd subs =>
      obtain ⟨hn, hs⟩ := h
      simp only [Say.dat, L2.noL, noLs, Bool.true_and, noLs_app, hn.noL]
      rw [dats_eq]
      exact noLs_all fun d hd' => by
        obtain ⟨s, hs', rfl⟩ := List.mem_map.mp hd'
        exact ih (hs s hs')
theorem WS.up {n m : Nat} {s : Say} (h : WS n s) (l : n ≤ m) : WS m s := by
  induction n generalizing m s with
  | zero => exact h.elim
  | succ n ih =>
    cases m with
    | zero => omega
    | succ m =>
      cases s with
      | wire x => exact trivial
      | num i w => exact h
      | node z hd subs => exact ⟨h.1, fun s hs => ih (h.2 s hs) (by omega)⟩
def vO : Option Int → V
  | none => .non
  | some w => .int w
/-- the dict of widths tells kv -/
def KW (kvs : List (Key × V)) (kv : Str → Option Int) : Prop := (∀ x, valV kvs (.inr x) = (kv x).map V.int) ∧ ∀ x w, kv x = some w → 1 ≤ w ∧ w ≤ 8
end L2

set_option Elab.async false
set_option linter.all false
set_option maxRecDepth 100000
set_option maxHeartbeats 4000000
namespace K04
open PySem L2
def top (i : Nat) : Stmt := PySem.Challenge.pw_lampforge_k04_widths.main.body.getD i (.Pass ⟨0, 0, 0, 0⟩)
abbrev s_two_to : Stmt := top 3
abbrev s_sayings_in : Stmt := top 6
abbrev s_width_of : Stmt := top 7
abbrev s_width_over : Stmt := top 8
abbrev s_L_bag : Stmt := top 10
abbrev s_L_take : Stmt := top 11
abbrev s_L_names : Stmt := top 12
abbrev s_L_rooms : Stmt := top 13
abbrev s_L_leaf : Stmt := top 14
abbrev s_L_wants : Stmt := top 15
abbrev s_L_any : Stmt := top 16
abbrev s_L_by : Stmt := top 17
abbrev s_L_due : Stmt := top 18
abbrev s_L_good : Stmt := top 19
abbrev s_law : Stmt := top 20
theorem sc_two_to : FnScope ["many", "power", "step"] ["many"] (defScope s_two_to) := ⟨rfl, rfl, rfl, by decide +kernel, rfl, by decide +kernel, by decide +kernel⟩
theorem sc_sayings_in : FnScope ["saying"] ["saying"] (defScope s_sayings_in) := ⟨rfl, rfl, rfl, by decide +kernel, rfl, by decide +kernel, by decide +kernel⟩
theorem sc_width_of : FnScope ["saying", "widths", "word", "inner"] ["saying", "widths"] (defScope s_width_of) := ⟨rfl, rfl, rfl, by decide +kernel, rfl, by decide +kernel, by decide +kernel⟩
theorem sc_width_over : FnScope ["saying", "inner", "word", "both", "fits"] ["saying", "inner"] (defScope s_width_over) := ⟨rfl, rfl, rfl, by decide +kernel, rfl, by decide +kernel, by decide +kernel⟩
theorem sc_L_bag : FnScope ["_law_script", "_law_at", "_law_cell", "_law_mix", "_law_k"] ["_law_script", "_law_at"] (defScope s_L_bag) := ⟨rfl, rfl, rfl, by decide +kernel, rfl, by decide +kernel, by decide +kernel⟩
theorem sc_L_take : FnScope ["_law_bag_here", "_law_many", "_law_digit"] ["_law_bag_here", "_law_many"] (defScope s_L_take) := ⟨rfl, rfl, rfl, by decide +kernel, rfl, by decide +kernel, by decide +kernel⟩
theorem sc_L_names : FnScope ["_law_bag_here", "_law_stem", "_law_at", "_law_names_here", "_law_sign", "_law_name"] ["_law_bag_here"] (defScope s_L_names) := ⟨rfl, rfl, rfl, by decide +kernel, rfl, by decide +kernel, by decide +kernel⟩
theorem sc_L_rooms : FnScope ["_law_bag_here", "_law_room", "_law_many", "_law_left", "_law_rooms_here", "_law_k", "_law_more"] ["_law_bag_here", "_law_room", "_law_many"] (defScope s_L_rooms) := ⟨rfl, rfl, rfl, by decide +kernel, rfl, by decide +kernel, by decide +kernel⟩
theorem sc_L_leaf : FnScope ["_law_bag_here", "_law_names_here", "_law_widths", "_law_width", "_law_suits", "_law_way"] ["_law_bag_here", "_law_names_here", "_law_widths", "_law_width"] (defScope s_L_leaf) := ⟨rfl, rfl, rfl, by decide +kernel, rfl, by decide +kernel, by decide +kernel⟩
theorem sc_L_wants : FnScope ["_law_bag_here", "_law_word", "_law_width", "_law_one"] ["_law_bag_here", "_law_word", "_law_width"] (defScope s_L_wants) := ⟨rfl, rfl, rfl, by decide +kernel, rfl, by decide +kernel, by decide +kernel⟩
theorem sc_L_any : FnScope ["_law_bag_here", "_law_names_here", "_law_widths", "_law_width", "_law_deep", "_law_room", "_law_words", "_law_word", "_law_wants_here", "_law_parts", "_law_want", "_law_more", "_law_first", "_law_many"] ["_law_bag_here", "_law_names_here", "_law_widths", "_law_width", "_law_deep", "_law_room"] (defScope s_L_any) := ⟨rfl, rfl, rfl, by decide +kernel, rfl, by decide +kernel, by decide +kernel⟩
theorem sc_L_by : FnScope ["_law_saying", "_law_some", "_law_word", "_law_alike"] ["_law_saying", "_law_some"] (defScope s_L_by) := ⟨rfl, rfl, rfl, by decide +kernel, rfl, by decide +kernel, by decide +kernel⟩
theorem sc_L_due : FnScope ["_law_saying", "_law_widths", "_law_parts"] ["_law_saying", "_law_widths"] (defScope s_L_due) := ⟨rfl, rfl, rfl, by decide +kernel, rfl, by decide +kernel, by decide +kernel⟩
theorem sc_L_good : FnScope ["_law_found", "_law_due_here"] ["_law_found", "_law_due_here"] (defScope s_L_good) := ⟨rfl, rfl, rfl, by decide +kernel, rfl, by decide +kernel, by decide +kernel⟩
theorem sc_law : FnScope ["_law_script", "_law_at", "_law_bag_here", "_law_names_here", "_law_widths", "_law_name", "_law_saying", "_law_again", "_law_handed"] ["_law_script"] (defScope s_law) := ⟨rfl, rfl, rfl, by decide +kernel, rfl, by decide +kernel, by decide +kernel⟩
/-- where the top's defs and tables stand -/
structure Ad where
  a_two_to : Addr
  d_two_to : FuncData
  a_sayings_in : Addr
  d_sayings_in : FuncData
  a_width_of : Addr
  d_width_of : FuncData
  a_width_over : Addr
  d_width_over : FuncData
  a_L_bag : Addr
  d_L_bag : FuncData
  a_L_take : Addr
  d_L_take : FuncData
  a_L_names : Addr
  d_L_names : FuncData
  a_L_rooms : Addr
  d_L_rooms : FuncData
  a_L_leaf : Addr
  d_L_leaf : FuncData
  a_L_wants : Addr
  d_L_wants : FuncData
  a_L_any : Addr
  d_L_any : FuncData
  a_L_by : Addr
  d_L_by : FuncData
  a_L_due : Addr
  d_L_due : FuncData
  a_L_good : Addr
  d_L_good : FuncData
  a_law : Addr
  d_law : FuncData
  a_FORMS : Addr
theorem pow_pos2 (n : Nat) : (0 : Int) < 2 ^ n := by rw [cast_pow]; have : 0 < 2 ^ n := Nat.pow_pos (by decide); omega
theorem pow_le2 {n : Nat} (h : n ≤ 50) : (2 : Int) ^ n ≤ 1125899906842624 := by
  have h1 : (2 : Nat) ^ n ≤ 2 ^ 50 := Nat.pow_le_pow_right (by decide) h
  rw [cast_pow]
  generalize 2 ^ n = N at h1
  omega
theorem dats_ints {H : Hp} : ∀ {ns : List Int} {xs : List V}, Dats H (ns.map PyData.int) xs → xs = ns.map V.int
  | [], xs, h => h.nilI
  | n :: ns, xs, h => by
    obtain ⟨x, r, rfl, h1, h2⟩ := Dats.consI h
    rw [h1.intI, dats_ints h2]
    rfl
theorem join_len (us : List Str) : (Txt.join "" us).length = (us.map (·.length)).sum := by
  have h1 : Txt.join "" us = Str.join "" us := StrLaws.glued_eq_join "" us
  rw [h1]
  clear h1
  induction us with
  | nil => rfl
  | cons a r ih =>
    cases r with
    | nil => simp [Str.join]
    | cons b r =>
      rw [List.map_cons, List.sum_cons, ← ih]
      show (a ++ "" ++ Str.join "" (b :: r)).length = _
      rw [Str.length_append, Str.length_append]
      show a.length + 0 + _ = _
      omega
theorem sum_ones {zs : List Str} (h : ∀ z ∈ zs, z.length = 1) : (zs.map (·.length)).sum ≤ zs.length := by
  induction zs with
  | nil => exact Nat.le_refl _
  | cons z r ih =>
    rw [List.map_cons, List.sum_cons, h z List.mem_cons_self, List.length_cons]
    have := ih fun y hy => h y (List.mem_cons_of_mem _ hy)
    omega
def sp_two_to : Sp := fun vs H Q _ => ∃ m : Int, vs = [.int m] ∧ 0 ≤ m ∧ m ≤ 100 ∧ Q (.int (2 ^ m.toNat)) H
def sp_sayings_in : Sp := fun vs H Q _ => ∃ (z : Str) (hd subs : List PyData) (v : V), vs = [v] ∧ z ∈ words ∧ formK z = hd.length + 1 ∧ hd.length ≤ 2 ∧ Dat H (.tuple (.str z :: (hd ++ subs))) v ∧ ∀ p xs H', Same H H' → H' p = some (.tup xs) → Dats H' subs xs → Q (.ref p) H'
def sp_over : Sp := fun vs H Q _ => ∃ (z : Str) (hd subs : List PyData) (v : V) (pi : Addr) (ws : List Int) (r : Option Int), vs = [v, .ref pi] ∧ Dat H (.tuple (.str z :: (hd ++ subs))) v ∧ H pi = some (.lst (ws.map V.int)) ∧ Wo z hd ws r ∧ (∀ a ∈ ws, 1 ≤ a ∧ a ≤ 8) ∧ ∀ H', Same H H' → Q (vO r) H'
def sp_width (n : Nat) : Sp := fun vs H Q _ => ∃ (kv : Str → Option Int) (s : Say) (v : V) (wd : Addr) (kvs : List (Key × V)) (r : Option Int), vs = [v, .ref wd] ∧ Dat H s.dat v ∧ H wd = some (.dK kvs) ∧ KW kvs kv ∧ WR kv n s r ∧ ∀ H', Same H H' → Q (vO r) H'
def sp_L_rooms : Sp := fun vs H Q _ => ∃ (l : Addr) (room many : Int), vs = [.ref l, .int room, .int many] ∧ Bag H l ∧ 0 ≤ many ∧ many ≤ 3 ∧ many ≤ room ∧ room ≤ 1000 ∧ ∀ p (rs : List Int) H', H p = none → p ≠ l → Bg l H H' → H' p = some (.lst (rs.map V.int)) → (rs.length : Int) = many → (∀ r ∈ rs, r ≤ 1001) → Q (.ref p) H'
def sp_L_names : Sp := fun vs H Q _ => ∃ (l : Addr), vs = [.ref l] ∧ Bag H l ∧ ∀ p (zs : List Str) H', zs.length = 6 → p ≠ l → H p = none → Bg l H H' → H' p = some (.lst (zs.map V.str)) → Q (.ref p) H'
def sp_L_leaf : Sp := fun vs H Q _ => ∃ (l nm wd : Addr) (zs : List Str) (kvs : List (Key × V)) (kv : Str → Option Int) (w : Int), vs = [.ref l, .ref nm, .ref wd, .int w] ∧ Bag H l ∧ H nm = some (.lst (zs.map V.str)) ∧ zs.length = 6 ∧ nm ≠ l ∧ H wd = some (.dK kvs) ∧ KW kvs kv ∧ 1 ≤ w ∧ w ≤ 8 ∧ ∀ s v H', WS 1 s → Dat H' s.dat v → Bg l H H' → Q v H'
def wantN (z : Str) : Nat := if z = "choice" then 3 else if z = "cut" ∨ z = "table" ∨ z = "not" ∨ z = "up" ∨ z = "down" then 1 else 2
def sp_L_wants : Sp := fun vs H Q _ => ∃ (l : Addr) (z : Str) (w : Int), vs = [.ref l, .str z, .int w] ∧ Bag H l ∧ 1 ≤ w ∧ w ≤ 8 ∧ ∀ p (ws : List Int) H', H p = none → p ≠ l → Bg l H H' → H' p = some (.lst (ws.map V.int)) → ws.length = wantN z → (∀ a ∈ ws, 1 ≤ a ∧ a ≤ 8) → (z = "cut" → ∀ a ∈ ws, w ≤ a) → (z = "table" → ∀ a ∈ ws, a ≤ 4) → Q (.ref p) H'
def sp_any (n : Nat) : Sp := fun vs H Q _ => ∃ (l nm wd : Addr) (zs : List Str) (kvs : List (Key × V)) (kv : Str → Option Int) (w room : Int), vs = [.ref l, .ref nm, .ref wd, .int w, .int n, .int room] ∧ 1 ≤ n ∧ Bag H l ∧ H nm = some (.lst (zs.map V.str)) ∧ zs.length = 6 ∧ nm ≠ l ∧ H wd = some (.dK kvs) ∧ KW kvs kv ∧ 1 ≤ w ∧ w ≤ 8 ∧ room ≤ 1001 ∧ ∀ s v H', WS n s → Dat H' s.dat v → Bg l H H' → Q v H'
def sp_L_by : Sp := fun vs H Q _ => ∃ (z : Str) (hd subs : List PyData) (v : V) (pi : Addr) (rs : List (Option Int)) (r : Option Int), vs = [v, .ref pi] ∧ Dat H (.tuple (.str z :: (hd ++ subs))) v ∧ H pi = some (.lst (rs.map fun q => V.int (q.getD 0))) ∧ rs.length ≤ 3 ∧ (∀ w, some w ∈ rs → 1 ≤ w ∧ w ≤ 8) ∧ ((none ∈ rs ∧ r = none) ∨ ∃ ws : List Int, rs = ws.map some ∧ Wo z hd ws r) ∧ ∀ H', Same H H' → Q (.int (r.getD 0)) H'
def sp_due (n : Nat) : Sp := fun vs H Q _ => ∃ (kv : Str → Option Int) (s : Say) (v : V) (wd : Addr) (kvs : List (Key × V)) (r : Option Int), vs = [v, .ref wd] ∧ Dat H s.dat v ∧ H wd = some (.dK kvs) ∧ KW kvs kv ∧ WR kv n s r ∧ ∀ H', Same H H' → Q (.int (r.getD 0)) H'
def sp_L_good : Sp := fun vs H Q _ => ∃ r : Option Int, vs = [vO r, .int (r.getD 0)] ∧ (∀ w, r = some w → 1 ≤ w) ∧ Q (.bl true) H
theorem inV_non {rs : List (Option Int)} : inV V.non (rs.map vO) = true ↔ none ∈ rs := by
  induction rs with
  | nil => simp [inV]
  | cons r rest ih =>
    cases r with
    | none => simp [inV, vO, eqV]
    | some w =>
      have : inV V.non (vO (some w) :: rest.map vO) = inV V.non (rest.map vO) := by simp [inV, vO, eqV]
      rw [List.map_cons, this, ih]
      simp
theorem inStr3 {z : Str} (h : inV (V.str z) [V.str "not", V.str "up", V.str "down"] = true) : z = "not" ∨ z = "up" ∨ z = "down" := by
  simp [inV, eqV] at h
  rcases h with h | h | h
  · exact .inl h.symm
  · exact .inr (.inl h.symm)
  · exact .inr (.inr h.symm)
theorem notStr3 {z : Str} (h : inV (V.str z) [V.str "not", V.str "up", V.str "down"] = false) : z ≠ "not" ∧ z ≠ "up" ∧ z ≠ "down" := by
  refine ⟨fun e => ?_, fun e => ?_, fun e => ?_⟩ <;> (rw [e] at h; exact absurd h (by decide))
theorem inV_zero {rs : List (Option Int)} (hb : ∀ w, some w ∈ rs → 1 ≤ w ∧ w ≤ 8) : inV (V.int 0) (rs.map fun q => V.int (q.getD 0)) = true ↔ none ∈ rs := by
  induction rs with
  | nil => simp [inV]
  | cons r rest ih =>
    have ih' := ih fun w hw => hb w (List.mem_cons_of_mem _ hw)
    cases r with
    | none => simp [inV, eqV]
    | some w =>
      have hw := hb w List.mem_cons_self
      have : inV (V.int 0) (V.int w :: rest.map fun q => V.int (q.getD 0)) = inV (V.int 0) (rest.map fun q => V.int (q.getD 0)) := by
        have : (w == 0) = false := by simp; omega
        simp [inV, eqV, this]
      rw [List.map_cons]
      show inV (V.int 0) (V.int w :: _) = true ↔ _
      rw [this, ih']
      simp
theorem nd_hd {z : Str} {hd : List PyData} {k : Nat} (h : Nd z hd k) {d : PyData} (hd' : d ∈ hd) : dTup d = false ∨ ∃ ns : List Int, ∃ n0 : Int, d = .tuple ((n0 :: ns).map PyData.int) := by
  cases h with
  | up k => rw [List.mem_singleton.mp hd']; exact .inl rfl
  | down k => rw [List.mem_singleton.mp hd']; exact .inl rfl
  | cut f w _ =>
    simp only [List.mem_cons, List.not_mem_nil, or_false] at hd'
    rcases hd' with rfl | rfl <;> exact .inl rfl
  | table w n ns _ =>
    simp only [List.mem_cons, List.not_mem_nil, or_false] at hd'
    rcases hd' with rfl | rfl
    · exact .inl rfl
    · exact .inr ⟨ns, n, rfl⟩
  | _ => cases hd'
theorem dat_tup (s : Say) : ∃ w rest, s.dat = .tuple (.str w :: rest) := by
  cases s with
  | wire x => exact ⟨_, _, by simp only [Say.dat]; rfl⟩
  | num i w => exact ⟨_, _, by simp only [Say.dat]; rfl⟩
  | node z hd subs => exact ⟨_, _, by simp only [Say.dat]; rfl⟩
def wordL : List Str := ["not", "and", "or", "odd", "sum", "less", "under", "same", "join", "choice", "up", "down", "cut", "table"]
def wordsE : List Str := ["not", "and", "or", "odd", "sum", "less", "under", "same", "join", "choice", "up", "down", "cut", "table", "", "", ""]
theorem wordsE_at {k : Nat} (h : k < 17) : (wordsE.map V.str)[k]? = some (.str (wordsE.getD k "")) := by
  have h' : k < wordsE.length := h
  rw [List.getElem?_map, List.getElem?_eq_getElem h', List.getD_eq_getElem?_getD, List.getElem?_eq_getElem h']
  rfl
theorem wordsE_in : ∀ k, k < 17 → wordsE.getD k "" ≠ "" → wordsE.getD k "" ∈ wordL := by decide
theorem wantN_le (z : Str) : 1 ≤ wantN z ∧ wantN z ≤ 3 := by unfold wantN; split <;> (try split) <;> omega
theorem nd_rest {z : Str} (h : z ∈ wordL) (h1 : z ≠ "cut") (h2 : z ≠ "table") (h3 : z ≠ "up") (h4 : z ≠ "down") : Nd z [] (wantN z) := by
  simp only [wordL, List.mem_cons, List.not_mem_nil, or_false] at h
  rcases h with rfl | rfl | rfl | rfl | rfl | rfl | rfl | rfl | rfl | rfl | rfl | rfl | rfl | rfl
  · exact (show wantN "not" = 1 by decide) ▸ Nd.not
  · exact (show wantN "and" = 2 by decide) ▸ Nd.and
  · exact (show wantN "or" = 2 by decide) ▸ Nd.or
  · exact (show wantN "odd" = 2 by decide) ▸ Nd.odd
  · exact (show wantN "sum" = 2 by decide) ▸ Nd.sum
  · exact (show wantN "less" = 2 by decide) ▸ Nd.less
  · exact (show wantN "under" = 2 by decide) ▸ Nd.under
  · exact (show wantN "same" = 2 by decide) ▸ Nd.same
  · exact (show wantN "join" = 2 by decide) ▸ Nd.join
  · exact (show wantN "choice" = 3 by decide) ▸ Nd.choice
  · exact absurd rfl h3
  · exact absurd rfl h4
  · exact absurd rfl h1
  · exact absurd rfl h2
def GoodD (kvs : List (Key × V)) (m : Nat) : Prop := (∀ kv ∈ kvs, ∃ (x : Str) (i : Int), kv = (.inr x, .int i) ∧ 1 ≤ i ∧ i ≤ 8) ∧ (∀ kv ∈ kvs, valV kvs kv.1 = some kv.2) ∧ kvs.length ≤ m
theorem GoodD.nil : GoodD [] 0 := ⟨(fun _ h => nomatch h), (fun _ h => nomatch h), Nat.le_refl _⟩
theorem GoodD.up {kvs : List (Key × V)} {m k : Nat} (h : GoodD kvs m) (l : m ≤ k) : GoodD kvs k := ⟨h.1, h.2.1, Nat.le_trans h.2.2 l⟩
theorem mem_putK {kvs : List (Key × V)} {k : Key} {v : V} {kv : Key × V} (h : kv ∈ putK kvs k v) : kv = (k, v) ∨ (kv ∈ kvs ∧ kv.1 ≠ k) := by
  unfold putK at h
  split at h
  · obtain ⟨p, hp, e⟩ := List.mem_map.mp h
    by_cases q : p.1 = k
    · rw [if_pos q] at e
      exact .inl (by rw [← e, q])
    · rw [if_neg q] at e
      subst e
      exact .inr ⟨hp, q⟩
  · rename_i hn
    rcases List.mem_append.mp h with q | q
    · refine .inr ⟨q, fun e => hn ?_⟩
      exact List.any_eq_true.mpr ⟨kv, q, decide_eq_true e⟩
    · exact .inl (List.mem_singleton.mp q)
theorem GoodD.put {kvs : List (Key × V)} {m : Nat} (h : GoodD kvs m) {x : Str} {i : Int} (h1 : 1 ≤ i) (h8 : i ≤ 8) : GoodD (putK kvs (.inr x) (.int i)) (m + 1) := by
  refine ⟨fun kv hkv => ?_, fun kv hkv => ?_, ?_⟩
  · rcases mem_putK hkv with e | ⟨e, _⟩
    · exact ⟨x, i, e, h1, h8⟩
    · exact h.1 kv e
  · rw [valV_put]
    rcases mem_putK hkv with e | ⟨e, n⟩
    · rw [e, if_pos rfl]
    · rw [if_neg n]; exact h.2.1 kv e
  · have := length_putK kvs (.inr x : Key) (.int i : V)
    have := h.2.2
    omega
theorem GoodD.kw {kvs : List (Key × V)} {m : Nat} (h : GoodD kvs m) : ∃ kv, KW kvs kv := by
  have key : ∀ x v, valV kvs (.inr x) = some v → ∃ i, v = V.int i ∧ 1 ≤ i ∧ i ≤ 8 := fun x v e => by
    unfold valV at e
    obtain ⟨p, hp, e2⟩ := Option.map_eq_some_iff.mp e
    have hm := List.mem_of_find?_eq_some hp
    obtain ⟨x', i, e3, b⟩ := h.1 p hm
    rw [e3] at e2
    exact ⟨i, e2.symm, b⟩
  refine ⟨fun x => match valV kvs (.inr x) with | some (.int i) => some i | _ => none, fun x => ?_, fun x w e => ?_⟩
  · cases hv : valV kvs (.inr x) with
    | none => dsimp only; rw [hv]; rfl
    | some v => obtain ⟨i, rfl, _⟩ := key x v hv; dsimp only; rw [hv]; rfl
  · dsimp only at e
    cases hv : valV kvs (.inr x) with
    | none => rw [hv] at e; cases e
    | some v =>
      obtain ⟨i, rfl, b⟩ := key x v hv
      rw [hv] at e
      cases e
      exact b
theorem KeepT.dict {H : Hp} {p : Addr} {kvs : List (Key × V)} (h : H p = some (.dK kvs)) (o : HO) : KeepT H (upd H p o) := fun q ys e => by
  have : q ≠ p := fun z => by rw [z, h] at e; cases e
  rw [upd_ne this]
  exact e
theorem fn_none {P : Program} {w : World} {K : PySem.W.Frag} {mg : Str → Option Value} {base : Heap} {k : Nat} {f : Addr} {fd : FuncData} {ps : List Str} {sp : Sp} (h : ∀ vs H Q E, ¬ sp vs H Q E) : FnOk P w K mg base CX0 k f fd ps sp :=
  ⟨fun vs H Q E q => (h _ _ _ _ q).elim, fun _ _ _ _ _ _ _ _ _ _ _ _ _ q => (h _ _ _ _ q).elim⟩
def sp_law (K : PySem.W.Frag) : Sp := fun vs H Q _ => ∃ (a : Addr) (ns : List Int), vs = [.ref a] ∧ SqL K H a (ns.map V.int) ∧ ns.length ≤ 63 ∧ ∀ H', Q (.bl true) H'

/-- what the top has written -/
structure Tx (w : World) (K : PySem.W.Frag) (mg : Str → Option Value) (A : Ad) : Prop where
  abs : mg "abs" = none
  bool : mg "bool" = none
  dict : mg "dict" = none
  int : mg "int" = none
  isinstance : mg "isinstance" = none
  len : mg "len" = none
  max : mg "max" = none
  min : mg "min" = none
  range : mg "range" = none
  str : mg "str" = none
  tuple : mg "tuple" = none
  zip : mg "zip" = none
  g_MOST_WIDTH : ∃ t, mg "MOST_WIDTH" = some (.int 8 t)
  g_FORMS : mg "FORMS" = some (.ref A.a_FORMS)
  D_FORMS : ∃ kvs, TopD w K A.a_FORMS kvs ∧ ∀ z ∈ words, ∃ p, kvs.lookup z = some (.ref p) ∧ ∀ H, SqT K H p [.int (formN z), .int (formK z)]
  g_MOST_TABLE_WIDTH : ∃ t, mg "MOST_TABLE_WIDTH" = some (.int 4 t)
  F_two_to : Fun K "two_to" "two_to" s_two_to A.a_two_to A.d_two_to
  B_two_to : Binds K A.d_two_to ["many"] []
  M_two_to : mg "two_to" = some (.ref A.a_two_to)
  F_sayings_in : Fun K "sayings_in" "sayings_in" s_sayings_in A.a_sayings_in A.d_sayings_in
  B_sayings_in : Binds K A.d_sayings_in ["saying"] []
  M_sayings_in : mg "sayings_in" = some (.ref A.a_sayings_in)
  F_width_of : Fun K "width_of" "width_of" s_width_of A.a_width_of A.d_width_of
  B_width_of : Binds K A.d_width_of ["saying", "widths"] []
  M_width_of : mg "width_of" = some (.ref A.a_width_of)
  F_width_over : Fun K "width_over" "width_over" s_width_over A.a_width_over A.d_width_over
  B_width_over : Binds K A.d_width_over ["saying", "inner"] []
  M_width_over : mg "width_over" = some (.ref A.a_width_over)
  F_L_bag : Fun K "_law_bag" "_law_bag" s_L_bag A.a_L_bag A.d_L_bag
  B_L_bag : Binds K A.d_L_bag ["_law_script", "_law_at"] []
  M_L_bag : mg "_law_bag" = some (.ref A.a_L_bag)
  F_L_take : Fun K "_law_take" "_law_take" s_L_take A.a_L_take A.d_L_take
  B_L_take : Binds K A.d_L_take ["_law_bag_here", "_law_many"] []
  M_L_take : mg "_law_take" = some (.ref A.a_L_take)
  F_L_names : Fun K "_law_names" "_law_names" s_L_names A.a_L_names A.d_L_names
  B_L_names : Binds K A.d_L_names ["_law_bag_here"] []
  M_L_names : mg "_law_names" = some (.ref A.a_L_names)
  F_L_rooms : Fun K "_law_rooms" "_law_rooms" s_L_rooms A.a_L_rooms A.d_L_rooms
  B_L_rooms : Binds K A.d_L_rooms ["_law_bag_here", "_law_room", "_law_many"] []
  M_L_rooms : mg "_law_rooms" = some (.ref A.a_L_rooms)
  F_L_leaf : Fun K "_law_leaf" "_law_leaf" s_L_leaf A.a_L_leaf A.d_L_leaf
  B_L_leaf : Binds K A.d_L_leaf ["_law_bag_here", "_law_names_here", "_law_widths", "_law_width"] []
  M_L_leaf : mg "_law_leaf" = some (.ref A.a_L_leaf)
  F_L_wants : Fun K "_law_wants" "_law_wants" s_L_wants A.a_L_wants A.d_L_wants
  B_L_wants : Binds K A.d_L_wants ["_law_bag_here", "_law_word", "_law_width"] []
  M_L_wants : mg "_law_wants" = some (.ref A.a_L_wants)
  F_L_any : Fun K "_law_any" "_law_any" s_L_any A.a_L_any A.d_L_any
  B_L_any : Binds K A.d_L_any ["_law_bag_here", "_law_names_here", "_law_widths", "_law_width", "_law_deep", "_law_room"] []
  M_L_any : mg "_law_any" = some (.ref A.a_L_any)
  F_L_by : Fun K "_law_by" "_law_by" s_L_by A.a_L_by A.d_L_by
  B_L_by : Binds K A.d_L_by ["_law_saying", "_law_some"] []
  M_L_by : mg "_law_by" = some (.ref A.a_L_by)
  F_L_due : Fun K "_law_due" "_law_due" s_L_due A.a_L_due A.d_L_due
  B_L_due : Binds K A.d_L_due ["_law_saying", "_law_widths"] []
  M_L_due : mg "_law_due" = some (.ref A.a_L_due)
  F_L_good : Fun K "_law_good" "_law_good" s_L_good A.a_L_good A.d_L_good
  B_L_good : Binds K A.d_L_good ["_law_found", "_law_due_here"] []
  M_L_good : mg "_law_good" = some (.ref A.a_L_good)
  F_law : Fun K "law" "law" s_law A.a_law A.d_law
  B_law : Binds K A.d_law ["_law_script"] []
  M_law : mg "law" = some (.ref A.a_law)
section
variable {P : Program} {w : World} {K : PySem.W.Frag} {mg : Str → Option Value} {base : Heap} {A : Ad}
theorem ok_two_to (T : Tx w K mg A) : FnOk P w K mg base CX0 1 A.a_two_to A.d_two_to ["many"] sp_two_to := by
  refine T.F_two_to.ok sc_two_to (fun vs H Q E h => ?_) (fun cdv A' outer s H vs Q E hr h => ?_)
  · obtain ⟨m, rfl, m0, m1, q⟩ := h
    rfl
  obtain ⟨m, rfl, m0, m1, q⟩ := h
  refine ⟨_, (pss_cons (ps_set (i := 1) sc_two_to.nd rfl (Or.inl rfl) pe_int)
    (pss_cons (ps_for PassesOwn.never rfl (pi_range1 rfl T.range (pa_cons (pv 0) pa_nil)) (pg_name (i := 2) sc_two_to.nd rfl (Or.inl rfl))
        (pss_one (ps_set (i := 1) sc_two_to.nd rfl (Or.inl rfl) (pe_op op_mul (pv 1) pe_int))))
    (pss_one (ps_ret (pv 1))))), ?_⟩
  obtain ⟨m, rfl⟩ := Int.eq_ofNat_of_zero_le m0
  refine ⟨_, rfl, _, rfl, by omega, by omega, for_range (lo := 0) (fun i σ H' => ∃ x, σ = [some (.int m), some (.int (2 ^ i)), x] ∧ H = H') ⟨_, rfl, rfl⟩ ?_ ?_⟩
  · rintro i σ H' hi ⟨x, rfl, rfl⟩
    refine ⟨_, rfl, _, _, rfl, rfl, .inr ⟨by decide, by decide⟩, ?_⟩
    exact ⟨some (.int (0 + (i : Int))), (show [some (V.int m), some (.int ((2 : Int) ^ i * 2)), some (.int (0 + (i : Int)))] = _ by rw [← Int.pow_succ]), rfl⟩
  · rintro σ H' ⟨x, rfl, rfl⟩
    exact ⟨_, rfl, q⟩
theorem ok_sayings_in (T : Tx w K mg A) : FnOk P w K mg base CX0 1 A.a_sayings_in A.d_sayings_in ["saying"] sp_sayings_in := by
  refine T.F_sayings_in.ok sc_sayings_in (fun vs H Q E h => ?_) (fun cdv A' outer s H vs Q E hr h => ?_)
  · obtain ⟨z, hd, subs, v, rfl, hz, hk, hl2, hD, q⟩ := h
    rfl
  obtain ⟨z, hd, subs, v, rfl, hz, hk, hl2, hD, q⟩ := h
  obtain ⟨kvs, D_FORMS, hkvs⟩ := T.D_FORMS
  refine ⟨_, (pss_one (ps_ret (pe_slice sl_tup (pv 0) (po_some (pe_ix ix_tup (pe_ix (ix_top D_FORMS) (pe_glob (v := .ref A.a_FORMS) rfl T.g_FORMS rfl) (pe_ix ix_tup (pv 0) pe_int (fun _ _ => rfl)) (fun _ _ => rfl)) pe_int (fun _ _ => rfl))) po_none))), ?_⟩
  obtain ⟨p, xs, rfl, hp, hxs⟩ := hD.tupI
  obtain ⟨x0, r0, rfl, h0, hr0⟩ := hxs.consI
  have e0 : x0 = .str z := by unfold Dat at h0; exact h0
  subst e0
  obtain ⟨pf, hlk, hpf⟩ := hkvs z hz
  have hlen := hr0.length
  rw [List.length_append] at hlen
  refine ⟨_, rfl, _, rfl, p, _, _, _, rfl, rfl, SqT.of hp, (show atI _ ((0 : Nat) : Int) = _ from atI_nat rfl), _, _, rfl, rfl, hlk, pf, _, _, _, rfl, rfl, hpf H, rfl, _, rfl, p, _, rfl, SqT.of hp, ?_, fun p2 hp2 => ?_⟩
  · rw [hk]
    intro h
    have h1 := h.1
    rw [HT.sIx_nat, List.length_cons] at h1
    omega
  · have hcut : cutV (V.str z :: r0) (some ((formK z : Nat) : Int)) none = r0.drop hd.length := by
      rw [cut_from (by rw [List.length_cons, hk]; omega), hk]
      rfl
    rw [hcut]
    have s2 := same_new hp2 (.tup (r0.drop hd.length))
    refine q p2 _ _ s2 upd_same ?_
    have := (hr0.same s2).drop hd.length
    rw [List.drop_left] at this
    exact this
theorem ok_width_over (T : Tx w K mg A) (G_two_to : FnOk P w K mg base CX0 1 A.a_two_to A.d_two_to ["many"] sp_two_to) : FnOk P w K mg base CX0 2 A.a_width_over A.d_width_over ["saying", "inner"] sp_over := by
  refine T.F_width_over.ok sc_width_over (fun vs H Q E h => ?_) (fun cdv A' outer s H vs Q E hr h => ?_)
  · obtain ⟨z, hd, subs, v, pi, ws, r, rfl, hD, hpi, wo, hws, q⟩ := h
    rfl
  obtain ⟨z, hd, subs, v, pi, ws, r, rfl, hD, hpi, wo, hws, q⟩ := h
  obtain ⟨t_MOST_WIDTH, g_MOST_WIDTH⟩ := T.g_MOST_WIDTH
  obtain ⟨t_MOST_TABLE_WIDTH, g_MOST_TABLE_WIDTH⟩ := T.g_MOST_TABLE_WIDTH
  refine ⟨_, (pss_cons (ps_set (i := 2) sc_width_over.nd rfl (Or.inl rfl) (pe_ix ix_tup (pv 0) pe_int (fun _ _ => rfl)))
    (pss_cons (ps_if (pt_cmpR op_in_seq (pv 2) (pe_tup (pa_consts rfl)) rfl) (pss_one (ps_ret (pe_ix ix_list (pv 1) pe_int (fun _ _ => rfl)))) pss_nil)
    (pss_cons (ps_if (pt_cmpR op_eq (pv 2) pe_str (nomark _)) (pss_cons (ps_set (i := 3) sc_width_over.nd rfl (Or.inl rfl) (pe_op op_add (pe_ix ix_list (pv 1) pe_int (fun _ _ => rfl)) (pe_ix ix_list (pv 1) pe_int (fun _ _ => rfl))))
    (pss_one (ps_ret (pe_ifExp (pt_cmpR op_le (pv 3) (pe_glob (v := .int 8) rfl g_MOST_WIDTH ⟨_, rfl⟩) (nomark _)) (pv 3) pe_non)))) pss_nil)
    (pss_cons (ps_if (pt_cmpR op_eq (pv 2) pe_str (nomark _)) (pss_one (ps_ret (pe_ifExp (pt_cmpR op_le (pe_op op_add (pe_ix ix_tup (pv 0) pe_int (fun _ _ => rfl)) (pe_ix ix_tup (pv 0) pe_int (fun _ _ => rfl))) (pe_ix ix_list (pv 1) pe_int (fun _ _ => rfl)) (nomark _)) (pe_ix ix_tup (pv 0) pe_int (fun _ _ => rfl)) pe_non))) pss_nil)
    (pss_cons (ps_if (pt_cmpR op_eq (pv 2) pe_str (nomark _)) (pss_cons (ps_set (i := 4) sc_width_over.nd rfl (Or.inl rfl) (pe_and (pe_cmpR op_le (pe_ix ix_list (pv 1) pe_int (fun _ _ => rfl)) (pe_glob (v := .int 4) rfl g_MOST_TABLE_WIDTH ⟨_, rfl⟩) (nomark _)) (pe_one (pe_cmpR op_eq (pe_callB call_len rfl T.len PySem.boot_len (pa_cons (pe_ix ix_tup (pv 0) pe_int (fun _ _ => rfl)) pa_nil)) (pe_call G_two_to (hr.mono (by first | decide | omega)) rfl T.M_two_to T.F_two_to.kp T.B_two_to .nil pass0 (pa_cons (pe_ix ix_list (pv 1) pe_int (fun _ _ => rfl)) pa_nil)) (nomark _)))))
    (pss_one (ps_ret (pe_ifExp (pt_truth (pv 4) (fun _ => rfl)) (pe_ix ix_tup (pv 0) pe_int (fun _ _ => rfl)) pe_non)))) pss_nil)
    (pss_cons (ps_if (pt_cmpR op_eq (pv 2) pe_str (nomark _)) (pss_one (ps_ret (pe_ifExp (PW.pt (pw_and (pt_cmpR op_eq (pe_ix ix_list (pv 1) pe_int (fun _ _ => rfl)) pe_int (nomark _)) (pw_and1 (pt_cmpR op_eq (pe_ix ix_list (pv 1) pe_int (fun _ _ => rfl)) (pe_ix ix_list (pv 1) pe_int (fun _ _ => rfl)) (nomark _))))) (pe_ix ix_list (pv 1) pe_int (fun _ _ => rfl)) pe_non))) pss_nil)
    (pss_cons (ps_if (pt_cmpR op_ne (pe_ix ix_list (pv 1) pe_int (fun _ _ => rfl)) (pe_ix ix_list (pv 1) pe_int (fun _ _ => rfl)) (nomark _)) (pss_one (ps_ret pe_non)) pss_nil)
    (pss_one (ps_ret (pe_ifExp (pt_cmpR op_in_seq (pv 2) (pe_tup (pa_cons pe_str (pa_cons pe_str pa_nil))) rfl) pe_int (pe_ix ix_list (pv 1) pe_int (fun _ _ => rfl)))))))))))), ?_⟩
  obtain ⟨p, xs, rfl, hp, hxs⟩ := hD.tupI
  obtain ⟨x0, r0, rfl, h0, hr0⟩ := hxs.consI
  have e0 : x0 = .str z := by unfold Dat at h0; exact h0
  subst e0
  refine ⟨_, rfl, p, _, _, _, rfl, rfl, SqT.of hp, (show atI _ ((0 : Nat) : Int) = _ from atI_nat rfl), ?_⟩
  refine ⟨_, rfl, (by show 3 ≤ sizeLine; decide), fun p1 hp1 => ?_⟩
  have t1 := same_new hp1 (.tup [.str "not", .str "up", .str "down"])
  have hp1' := t1 _ _ hp
  have hpi1 := t1 _ _ hpi
  refine ⟨p1, _, rfl, .inr (SqT.of upd_same), rfl, rfl, _, rfl, ?_⟩
  cases wo with
  | not => exact ite_t (by decide) ⟨_, rfl, pi, _, _, _, rfl, rfl, SqL.of hpi1, rfl, q _ t1⟩
  | up => exact ite_t (by decide) ⟨_, rfl, pi, _, _, _, rfl, rfl, SqL.of hpi1, rfl, q _ t1⟩
  | down => exact ite_t (by decide) ⟨_, rfl, pi, _, _, _, rfl, rfl, SqL.of hpi1, rfl, q _ t1⟩
  | join a b =>
    refine ite_f (by decide) ⟨_, rfl, rfl, _, rfl, ?_⟩
    refine ite_t (by decide) ?_
    refine ⟨_, rfl, pi, _, _, _, rfl, rfl, SqL.of hpi1, rfl, _, rfl, pi, _, _, _, rfl, rfl, SqL.of hpi1, rfl, _, _, rfl, rfl, ?_⟩
    refine ⟨_, rfl, _, _, rfl, rfl, _, rfl, ?_⟩
    by_cases h : a + b ≤ 8
    · rw [if_pos h] at q
      exact ite_t (decide_eq_true h) ⟨_, rfl, q _ t1⟩
    · rw [if_neg h] at q
      exact ite_f (decide_eq_false h) (q _ t1)
  | cut f w' a hw =>
    obtain ⟨x1, r1, rfl, hx1, hr1⟩ := hr0.consI
    obtain ⟨x2, r2, rfl, hx2, hr2⟩ := hr1.consI
    have e1 := hx1.intI
    have e2 := hx2.intI
    subst e1 e2
    refine ite_f (by decide) ⟨_, rfl, rfl, _, rfl, ?_⟩
    refine ite_f (by decide) ⟨_, rfl, rfl, _, rfl, ?_⟩
    refine ite_t (by decide) ?_
    refine ⟨_, rfl, p, _, _, _, rfl, rfl, SqT.of hp1', (show atI _ ((1 : Nat) : Int) = _ from atI_nat rfl), _, rfl, p, _, _, _, rfl, rfl, SqT.of hp1', (show atI _ ((2 : Nat) : Int) = _ from atI_nat rfl), _, _, rfl, rfl, _, rfl, pi, _, _, _, rfl, rfl, SqL.of hpi1, rfl, _, _, rfl, rfl, _, rfl, ?_⟩
    by_cases h : f + w' ≤ a
    · rw [if_pos h] at q
      exact ite_t (decide_eq_true h) ⟨_, rfl, p, _, _, _, rfl, rfl, SqT.of hp1', (show atI _ ((2 : Nat) : Int) = _ from atI_nat rfl), q _ t1⟩
    · rw [if_neg h] at q
      exact ite_f (decide_eq_false h) (q _ t1)
  | table w' n ns a hw =>
    obtain ⟨y1, r1, rfl, hy1, hr1⟩ := hr0.consI
    obtain ⟨y2, r2, rfl, hy2, hr2⟩ := hr1.consI
    obtain ⟨pt, ts, rfl, hpt, hts⟩ := hy2.tupI
    have ets : ts = (n :: ns).map V.int := dats_ints hts
    have e1 := hy1.intI
    subst ets e1
    have ha := hws a List.mem_cons_self
    refine ite_f (by decide) ⟨_, rfl, rfl, _, rfl, ?_⟩
    refine ite_f (by decide) ⟨_, rfl, rfl, _, rfl, ?_⟩
    refine ite_f (by decide) ⟨_, rfl, rfl, _, rfl, ?_⟩
    refine ite_t (by decide) ?_
    refine ⟨_, rfl, pi, _, _, _, rfl, rfl, SqL.of hpi1, rfl, _, _, rfl, rfl, _, rfl, ?_⟩
    by_cases h4 : a ≤ 4
    · refine ite_t (decide_eq_true h4) ⟨_, rfl, p, _, _, _, rfl, rfl, SqT.of hp1', (show atI _ ((2 : Nat) : Int) = _ from atI_nat rfl), _, _, rfl, .inr ⟨_, SqT.of (t1 _ _ hpt), rfl⟩, _, rfl, pi, _, _, _, rfl, rfl, SqL.of hpi1, rfl, a, rfl, by omega, by omega, rfl, ?_⟩
      refine ⟨_, rfl, _, rfl, ?_⟩
      by_cases hl : (((n :: ns).length : Nat) : Int) = 2 ^ a.toNat
      · rw [if_pos ⟨h4, hl⟩] at q
        exact ite_t (decide_eq_true (by rw [List.length_map, hl])) ⟨_, rfl, p, _, _, _, rfl, rfl, SqT.of hp1', (show atI _ ((1 : Nat) : Int) = _ from atI_nat rfl), q _ t1⟩
      · rw [if_neg (fun h => hl h.2)] at q
        exact ite_f (decide_eq_false (by rw [List.length_map]; intro e; injection e with e; exact hl e)) (q _ t1)
    · rw [if_neg (fun h => h4 h.1)] at q
      refine ite_f (decide_eq_false h4) ?_
      exact ⟨_, rfl, _, rfl, ite_f rfl (q _ t1)⟩
  | choice c a b =>
    refine ite_f (by decide) ⟨_, rfl, rfl, _, rfl, ?_⟩
    refine ite_f (by decide) ⟨_, rfl, rfl, _, rfl, ?_⟩
    refine ite_f (by decide) ⟨_, rfl, rfl, _, rfl, ?_⟩
    refine ite_f (by decide) ⟨_, rfl, rfl, _, rfl, ?_⟩
    refine ite_t (by decide) ?_
    refine ⟨_, rfl, pi, _, _, _, rfl, rfl, SqL.of hpi1, rfl, rfl, _, rfl, ?_⟩
    by_cases h1 : c = 1
    · refine ite_t (by simp [h1]) ⟨_, rfl, pi, _, _, _, rfl, rfl, SqL.of hpi1, rfl, _, rfl, pi, _, _, _, rfl, rfl, SqL.of hpi1, rfl, rfl, _, rfl, ?_⟩
      by_cases h2 : a = b
      · rw [if_pos ⟨h1, h2⟩] at q
        exact ite_t (by simp [h2]) ⟨_, rfl, pi, _, _, _, rfl, rfl, SqL.of hpi1, rfl, q _ t1⟩
      · rw [if_neg (fun h => h2 h.2)] at q
        exact ite_f (by simp [h2]) (q _ t1)
    · rw [if_neg (fun h => h1 h.1)] at q
      exact ite_f (by simp [h1]) (ite_f rfl (q _ t1))
  | and a b =>
    refine ite_f (by decide) ⟨_, rfl, rfl, _, rfl, ?_⟩
    refine ite_f (by decide) ⟨_, rfl, rfl, _, rfl, ?_⟩
    refine ite_f (by decide) ⟨_, rfl, rfl, _, rfl, ?_⟩
    refine ite_f (by decide) ⟨_, rfl, rfl, _, rfl, ?_⟩
    refine ite_f (by decide) ?_
    refine ⟨_, rfl, pi, _, _, _, rfl, rfl, SqL.of hpi1, rfl, _, rfl, pi, _, _, _, rfl, rfl, SqL.of hpi1, rfl, rfl, _, rfl, ?_⟩
    by_cases hab : a = b
    · rw [if_pos hab] at q
      subst hab
      refine ite_f (by simp) ?_
      refine ⟨_, rfl, (by show 2 ≤ sizeLine; decide), fun p2 hp2 => ?_⟩
      have t2 := same_new hp2 (.tup [.str "under", .str "same"])
      refine ⟨p2, _, rfl, .inr (SqT.of upd_same), rfl, rfl, _, rfl, ?_⟩
      exact ite_f (by decide) ⟨_, rfl, pi, _, _, _, rfl, rfl, SqL.of (t2 _ _ hpi1), rfl, q _ (t1.trans t2)⟩
    · rw [if_neg hab] at q
      refine ite_t (by simp [hab]) ?_
      exact q _ t1
  | or a b =>
    refine ite_f (by decide) ⟨_, rfl, rfl, _, rfl, ?_⟩
    refine ite_f (by decide) ⟨_, rfl, rfl, _, rfl, ?_⟩
    refine ite_f (by decide) ⟨_, rfl, rfl, _, rfl, ?_⟩
    refine ite_f (by decide) ⟨_, rfl, rfl, _, rfl, ?_⟩
    refine ite_f (by decide) ?_
    refine ⟨_, rfl, pi, _, _, _, rfl, rfl, SqL.of hpi1, rfl, _, rfl, pi, _, _, _, rfl, rfl, SqL.of hpi1, rfl, rfl, _, rfl, ?_⟩
    by_cases hab : a = b
    · rw [if_pos hab] at q
      subst hab
      refine ite_f (by simp) ?_
      refine ⟨_, rfl, (by show 2 ≤ sizeLine; decide), fun p2 hp2 => ?_⟩
      have t2 := same_new hp2 (.tup [.str "under", .str "same"])
      refine ⟨p2, _, rfl, .inr (SqT.of upd_same), rfl, rfl, _, rfl, ?_⟩
      exact ite_f (by decide) ⟨_, rfl, pi, _, _, _, rfl, rfl, SqL.of (t2 _ _ hpi1), rfl, q _ (t1.trans t2)⟩
    · rw [if_neg hab] at q
      refine ite_t (by simp [hab]) ?_
      exact q _ t1
  | odd a b =>
    refine ite_f (by decide) ⟨_, rfl, rfl, _, rfl, ?_⟩
    refine ite_f (by decide) ⟨_, rfl, rfl, _, rfl, ?_⟩
    refine ite_f (by decide) ⟨_, rfl, rfl, _, rfl, ?_⟩
    refine ite_f (by decide) ⟨_, rfl, rfl, _, rfl, ?_⟩
    refine ite_f (by decide) ?_
    refine ⟨_, rfl, pi, _, _, _, rfl, rfl, SqL.of hpi1, rfl, _, rfl, pi, _, _, _, rfl, rfl, SqL.of hpi1, rfl, rfl, _, rfl, ?_⟩
    by_cases hab : a = b
    · rw [if_pos hab] at q
      subst hab
      refine ite_f (by simp) ?_
      refine ⟨_, rfl, (by show 2 ≤ sizeLine; decide), fun p2 hp2 => ?_⟩
      have t2 := same_new hp2 (.tup [.str "under", .str "same"])
      refine ⟨p2, _, rfl, .inr (SqT.of upd_same), rfl, rfl, _, rfl, ?_⟩
      exact ite_f (by decide) ⟨_, rfl, pi, _, _, _, rfl, rfl, SqL.of (t2 _ _ hpi1), rfl, q _ (t1.trans t2)⟩
    · rw [if_neg hab] at q
      refine ite_t (by simp [hab]) ?_
      exact q _ t1
  | sum a b =>
    refine ite_f (by decide) ⟨_, rfl, rfl, _, rfl, ?_⟩
    refine ite_f (by decide) ⟨_, rfl, rfl, _, rfl, ?_⟩
    refine ite_f (by decide) ⟨_, rfl, rfl, _, rfl, ?_⟩
    refine ite_f (by decide) ⟨_, rfl, rfl, _, rfl, ?_⟩
    refine ite_f (by decide) ?_
    refine ⟨_, rfl, pi, _, _, _, rfl, rfl, SqL.of hpi1, rfl, _, rfl, pi, _, _, _, rfl, rfl, SqL.of hpi1, rfl, rfl, _, rfl, ?_⟩
    by_cases hab : a = b
    · rw [if_pos hab] at q
      subst hab
      refine ite_f (by simp) ?_
      refine ⟨_, rfl, (by show 2 ≤ sizeLine; decide), fun p2 hp2 => ?_⟩
      have t2 := same_new hp2 (.tup [.str "under", .str "same"])
      refine ⟨p2, _, rfl, .inr (SqT.of upd_same), rfl, rfl, _, rfl, ?_⟩
      exact ite_f (by decide) ⟨_, rfl, pi, _, _, _, rfl, rfl, SqL.of (t2 _ _ hpi1), rfl, q _ (t1.trans t2)⟩
    · rw [if_neg hab] at q
      refine ite_t (by simp [hab]) ?_
      exact q _ t1
  | less a b =>
    refine ite_f (by decide) ⟨_, rfl, rfl, _, rfl, ?_⟩
    refine ite_f (by decide) ⟨_, rfl, rfl, _, rfl, ?_⟩
    refine ite_f (by decide) ⟨_, rfl, rfl, _, rfl, ?_⟩
    refine ite_f (by decide) ⟨_, rfl, rfl, _, rfl, ?_⟩
    refine ite_f (by decide) ?_
    refine ⟨_, rfl, pi, _, _, _, rfl, rfl, SqL.of hpi1, rfl, _, rfl, pi, _, _, _, rfl, rfl, SqL.of hpi1, rfl, rfl, _, rfl, ?_⟩
    by_cases hab : a = b
    · rw [if_pos hab] at q
      subst hab
      refine ite_f (by simp) ?_
      refine ⟨_, rfl, (by show 2 ≤ sizeLine; decide), fun p2 hp2 => ?_⟩
      have t2 := same_new hp2 (.tup [.str "under", .str "same"])
      refine ⟨p2, _, rfl, .inr (SqT.of upd_same), rfl, rfl, _, rfl, ?_⟩
      exact ite_f (by decide) ⟨_, rfl, pi, _, _, _, rfl, rfl, SqL.of (t2 _ _ hpi1), rfl, q _ (t1.trans t2)⟩
    · rw [if_neg hab] at q
      refine ite_t (by simp [hab]) ?_
      exact q _ t1
  | under a b =>
    refine ite_f (by decide) ⟨_, rfl, rfl, _, rfl, ?_⟩
    refine ite_f (by decide) ⟨_, rfl, rfl, _, rfl, ?_⟩
    refine ite_f (by decide) ⟨_, rfl, rfl, _, rfl, ?_⟩
    refine ite_f (by decide) ⟨_, rfl, rfl, _, rfl, ?_⟩
    refine ite_f (by decide) ?_
    refine ⟨_, rfl, pi, _, _, _, rfl, rfl, SqL.of hpi1, rfl, _, rfl, pi, _, _, _, rfl, rfl, SqL.of hpi1, rfl, rfl, _, rfl, ?_⟩
    by_cases hab : a = b
    · rw [if_pos hab] at q
      subst hab
      refine ite_f (by simp) ?_
      refine ⟨_, rfl, (by show 2 ≤ sizeLine; decide), fun p2 hp2 => ?_⟩
      have t2 := same_new hp2 (.tup [.str "under", .str "same"])
      refine ⟨p2, _, rfl, .inr (SqT.of upd_same), rfl, rfl, _, rfl, ?_⟩
      exact ite_t (by decide) (q _ (t1.trans t2))
    · rw [if_neg hab] at q
      refine ite_t (by simp [hab]) ?_
      exact q _ t1
  | same a b =>
    refine ite_f (by decide) ⟨_, rfl, rfl, _, rfl, ?_⟩
    refine ite_f (by decide) ⟨_, rfl, rfl, _, rfl, ?_⟩
    refine ite_f (by decide) ⟨_, rfl, rfl, _, rfl, ?_⟩
    refine ite_f (by decide) ⟨_, rfl, rfl, _, rfl, ?_⟩
    refine ite_f (by decide) ?_
    refine ⟨_, rfl, pi, _, _, _, rfl, rfl, SqL.of hpi1, rfl, _, rfl, pi, _, _, _, rfl, rfl, SqL.of hpi1, rfl, rfl, _, rfl, ?_⟩
    by_cases hab : a = b
    · rw [if_pos hab] at q
      subst hab
      refine ite_f (by simp) ?_
      refine ⟨_, rfl, (by show 2 ≤ sizeLine; decide), fun p2 hp2 => ?_⟩
      have t2 := same_new hp2 (.tup [.str "under", .str "same"])
      refine ⟨p2, _, rfl, .inr (SqT.of upd_same), rfl, rfl, _, rfl, ?_⟩
      exact ite_t (by decide) (q _ (t1.trans t2))
    · rw [if_neg hab] at q
      refine ite_t (by simp [hab]) ?_
      exact q _ t1
theorem ok_width_of (T : Tx w K mg A) (G_sayings_in : FnOk P w K mg base CX0 1 A.a_sayings_in A.d_sayings_in ["saying"] sp_sayings_in) (G_width_over : FnOk P w K mg base CX0 2 A.a_width_over A.d_width_over ["saying", "inner"] sp_over) (n : Nat) (G_width_of : FnOk P w K mg base CX0 (n + 2) A.a_width_of A.d_width_of ["saying", "widths"] (sp_width n)) : FnOk P w K mg base CX0 (n + 3) A.a_width_of A.d_width_of ["saying", "widths"] (sp_width (n + 1)) := by
  refine T.F_width_of.ok sc_width_of (fun vs H Q E h => ?_) (fun cdv A' outer s H vs Q E hr h => ?_)
  · obtain ⟨kv, s, v, wd, kvs, r, rfl, hD, hwd, kw, wr, q⟩ := h
    rfl
  obtain ⟨kv, s, v, wd, kvs, r, rfl, hD, hwd, kw, wr, q⟩ := h
  have hu := hu_of hr
  refine ⟨_, (pss_cons (ps_set (i := 2) sc_width_of.nd rfl (Or.inl rfl) (pe_ix ix_tup (pv 0) pe_int (fun _ _ => rfl)))
    (pss_cons (ps_if (pt_cmpR op_eq (pv 2) pe_str (nomark _)) (pss_one (ps_ret (pe_dget1 hu (pv 1) (pe_ix ix_tup (pv 0) pe_int (fun _ _ => rfl)) ⟨rfl, rfl, rfl, rfl⟩))) pss_nil)
    (pss_cons (ps_if (pt_cmpR op_eq (pv 2) pe_str (nomark _)) (pss_one (ps_ret (pe_ix ix_tup (pv 0) pe_int (fun _ _ => rfl)))) pss_nil)
    (pss_cons (ps_comp [1] sc_width_of.nd (i := 3) rfl (Or.inl rfl) (fun _ _ h => h) rfl (pi_tup (pe_call G_sayings_in (hr.mono (by first | decide | omega)) rfl T.M_sayings_in T.F_sayings_in.kp T.B_sayings_in .nil pass0 (pa_cons (pv 0) pa_nil))) (fun _ _ _ _ => pts_nil) (fun _ _ _ _ => (pe_call G_width_of (hr.mono (by first | decide | omega)) rfl T.M_width_of T.F_width_of.kp T.B_width_of .nil pass0 (pa_cons (pv 0) (pa_cons (pv 1) pa_nil)))) rfl (show ∀ j ∈ ([1] : List Nat), j < 4 by decide) (show (["piece", "widths"] : List Str).Nodup by decide +kernel) (by with_unfolding_all rfl))
    (pss_cons (ps_if (pt_cmpR op_in_seq pe_non (pv 3) rfl) (pss_one (ps_ret pe_non)) pss_nil)
    (pss_one (ps_ret (pe_call G_width_over (hr.mono (by first | decide | omega)) rfl T.M_width_over T.F_width_over.kp T.B_width_over .nil pass0 (pa_cons (pv 0) (pa_cons (pv 3) pa_nil)))))))))), ?_⟩
  cases s with
  | wire x =>
    have hD1 : Dat H (.tuple [.str "wire", .str x]) v := by simpa [Say.dat] using hD
    obtain ⟨p, xs, rfl, hp, hxs⟩ := hD1.tupI
    obtain ⟨y0, t0, rfl, hy0, ht0⟩ := hxs.consI
    obtain ⟨y1, t1, rfl, hy1, ht1⟩ := ht0.consI
    have e0 : y0 = .str "wire" := by unfold Dat at hy0; exact hy0
    have e1 : y1 = .str x := by unfold Dat at hy1; exact hy1
    have e2 := ht1.nilI
    subst e0 e1 e2
    refine ⟨_, rfl, p, _, _, _, rfl, rfl, SqT.of hp, rfl, ?_⟩
    refine ⟨_, rfl, rfl, _, rfl, ?_⟩
    refine ite_t (by decide) ?_
    refine ⟨_, rfl, wd, rfl, .inl ⟨kvs, .inl hwd⟩, _, rfl, p, _, _, _, rfl, rfl, SqT.of hp, rfl, _, DGet.k (k := .inr x) hwd, ?_⟩
    rw [kw.1 x]
    have e3 : ((kv x).map V.int).getD V.non = vO r := by
      rw [show r = kv x from wr]
      cases kv x <;> rfl
    rw [e3]
    exact q H (Same.refl H)
  | num i w' =>
    have hD1 : Dat H (.tuple [.str "number", .int i, .int w']) v := by simpa [Say.dat] using hD
    obtain ⟨p, xs, rfl, hp, hxs⟩ := hD1.tupI
    obtain ⟨y0, t0, rfl, hy0, ht0⟩ := hxs.consI
    obtain ⟨y1, t1, rfl, hy1, ht1⟩ := ht0.consI
    obtain ⟨y2, t2, rfl, hy2, ht2⟩ := ht1.consI
    have e0 : y0 = .str "number" := by unfold Dat at hy0; exact hy0
    have e1 := hy1.intI
    have e2 := hy2.intI
    have e3 := ht2.nilI
    subst e0 e1 e2 e3
    refine ⟨_, rfl, p, _, _, _, rfl, rfl, SqT.of hp, rfl, ?_⟩
    refine ⟨_, rfl, rfl, _, rfl, ?_⟩
    refine ite_f (by decide) ⟨_, rfl, rfl, _, rfl, ?_⟩
    refine ite_t (by decide) ?_
    refine ⟨_, rfl, p, _, _, _, rfl, rfl, SqT.of hp, rfl, ?_⟩
    have e3 : r = some w' := wr.1
    rw [e3] at q
    exact q H (Same.refl H)
  | node z hd subs =>
    have hD1 : Dat H (.tuple (.str z :: (hd ++ Say.dats subs))) v := by simpa [Say.dat] using hD
    obtain ⟨nd, rs, hl, hrs, hc⟩ := wr
    obtain ⟨hz, hzw, hzn, hfk, hh2, k1, k3⟩ := nd.form
    have hD2 := hD1
    obtain ⟨p, xs, rfl, hp, hxs⟩ := hD1.tupI
    obtain ⟨x0, r0, rfl, h0, hr0⟩ := hxs.consI
    have e0 : x0 = .str z := by unfold Dat at h0; exact h0
    subst e0
    refine ⟨_, rfl, p, _, _, _, rfl, rfl, SqT.of hp, (show atI _ ((0 : Nat) : Int) = _ from atI_nat rfl), ?_⟩
    refine ⟨_, rfl, rfl, _, rfl, ?_⟩
    refine ite_f (decide_eq_false fun h => hzw (by injection h)) ⟨_, rfl, rfl, _, rfl, ?_⟩
    refine ite_f (decide_eq_false fun h => hzn (by injection h)) ?_
    refine ⟨_, rfl, z, hd, Say.dats subs, _, rfl, hz, hfk, hh2, hD2, fun p2 ys H1 s1 hp2 hys => ?_⟩
    have hyl := hys.length
    rw [dats_eq, List.length_map] at hyl
    refine ⟨p2, rfl, ⟨_, SqT.of hp2⟩, comp_tup (xs := ys) (fun i zs H' => Same H1 H' ∧ zs = (rs.take i).map vO) ⟨Same.refl _, rfl⟩ ?_ ?_ ?_ ?_⟩
    · rintro i zs H' _ ⟨s', _⟩
      exact SqT.of (s' _ _ hp2)
    · rintro i zs H' hi ⟨s', rfl⟩
      rw [List.length_map, List.length_take]
      exact smallL (by omega)
    · rintro i x zs H' hx ⟨s', rfl⟩
      obtain ⟨d, hd', hdx⟩ := hys.get hx
      rw [dats_eq, List.getElem?_map] at hd'
      cases hsi : subs[i]? with
      | none => rw [hsi] at hd'; cases hd'
      | some t =>
        rw [hsi] at hd'
        cases hd'
        obtain ⟨qq, hq1, hq2⟩ := hrs i t hsi
        unfold tYes
        refine iteT ⟨_, rfl, _, rfl, kv, t, x, wd, kvs, qq, rfl, hdx.same s', (s1.trans s') _ _ hwd, kw, hq2, fun H3 s3 => ?_⟩
        refine ⟨s'.trans s3, ?_⟩
        rw [List.take_add_one, hq1, List.map_append]
        rfl
    · rintro zs H' ⟨s', rfl⟩ pi hpi
      have htk : rs.take ys.length = rs := by rw [← hyl, ← hl]; exact List.take_length
      rw [htk]
      have t4 := same_new hpi (.lst (rs.map vO))
      have s04 := (s1.trans s').trans t4
      have fpi := upd_same (H := H') (a := pi) (o := .lst (rs.map vO))
      generalize upd H' pi (.lst (rs.map vO)) = H4 at t4 s04 fpi ⊢
      refine ⟨_, rfl, pi, _, rfl, .inl (SqL.of fpi), rfl, ?_, _, rfl, ?_⟩
      · rw [List.all_map]
        exact List.all_eq_true.mpr fun x _ => by cases x <;> rfl
      · rcases hc with ⟨hm, rfl⟩ | ⟨ws, rfl, wo⟩
        · refine ite_t ?_ ?_
          · exact inV_non.mpr hm
          · exact q H4 s04
        · refine ite_f ?_ ?_
          · have hno : ¬ (inV V.non ((ws.map some).map vO) = true) := fun h => by
              have := inV_non.mp h
              simp at this
            simpa using hno
          · have e5 : (ws.map some).map vO = ws.map V.int := by rw [List.map_map]; rfl
            rw [e5] at fpi
            refine ⟨_, rfl, _, rfl, z, hd, Say.dats subs, _, pi, ws, r, rfl, hD2.same s04, fpi, wo, fun a ha => ?_, fun H5 s5 => q H5 (s04.trans s5)⟩
            obtain ⟨i, hi, ei⟩ := List.getElem_of_mem ha
            have hl2 : ws.length = subs.length := by rw [← hl, List.length_map]
            obtain ⟨qq, hq1, hq2⟩ := hrs i subs[i] (List.getElem?_eq_getElem (by omega))
            rw [List.getElem?_map, List.getElem?_eq_getElem hi] at hq1
            have hq' : some a = qq := by rw [← ei]; exact Option.some.inj hq1
            exact hq2.bound kw.2 a hq'.symm
theorem ok_L_bag (T : Tx w K mg A) : FnOk P w K mg base CX0 1 A.a_L_bag A.d_L_bag ["_law_script", "_law_at"] (sp_L_bag K) := by
  refine T.F_L_bag.ok sc_L_bag (fun vs H Q E h => ?_) (fun cdv A' outer s H vs Q E hr h => ?_)
  · obtain ⟨a, ns, i, rfl, hS, h63, hi, q⟩ := h
    rfl
  obtain ⟨a, ns, i, rfl, hS, h63, hi, q⟩ := h
  refine ⟨_, (pss_cons (ps_set (i := 2) sc_L_bag.nd rfl (Or.inl rfl) pe_int)
    (pss_cons (ps_if (pt_cmpR op_lt (pv 1) (pe_callB call_len rfl T.len PySem.boot_len (pa_cons (pv 0) pa_nil)) (nomark _)) (pss_one (ps_set (i := 2) sc_L_bag.nd rfl (Or.inl rfl) (pe_callB call_abs rfl T.abs PyProof.Rows.boot_abs (pa_cons (pe_ix ix_list (pv 0) (pv 1) (fun _ _ => rfl)) pa_nil)))) pss_nil)
    (pss_cons (ps_set (i := 3) sc_L_bag.nd rfl (Or.inl rfl) (pe_op op_add (pe_op op_mul pe_int (pv 1)) pe_int))
    (pss_cons (ps_for PassesOwn.never rfl (pi_range1 rfl T.range (pa_cons (pe_callB (call_min2 rfl) rfl T.min PyProof.Rows.boot_min (pa_cons (pe_callB call_len rfl T.len PySem.boot_len (pa_cons (pv 0) pa_nil)) (pa_cons pe_int pa_nil))) pa_nil)) (pg_name (i := 4) sc_L_bag.nd rfl (Or.inl rfl))
        (pss_one (ps_set (i := 3) sc_L_bag.nd rfl (Or.inl rfl) (pe_op op_mod (pe_op op_add (pe_op op_add (pe_op op_mul (pv 3) pe_int) (pe_op op_mod (pe_ix ix_list (pv 0) (pv 4) (fun _ _ => rfl)) pe_int)) (pe_op op_mul pe_int (pv 4))) pe_int))))
    (pss_one (ps_ret (pe_lst (pa_cons (pe_callB (call_max2 rfl) rfl T.max PyProof.Rows.boot_max (pa_cons pe_int (pa_cons (pe_op op_sub (pv 2) (pe_op op_pow pe_int pe_int)) pa_nil))) (pa_cons (pe_op op_add (pv 3) pe_int) pa_nil))))))))), ?_⟩
  have hl : (ns.map V.int).length = ns.length := List.length_map _
  refine ⟨_, rfl, _, rfl, _, _, rfl, .inl ⟨_, hS, rfl⟩, _, _, rfl, rfl, _, rfl, ?_⟩
  refine ite2 (fun c => ?_) (fun c => ?_)
  · have c' : i < (((ns.map V.int).length : Nat) : Int) := of_decide_eq_true c
    rw [hl] at c'
    obtain ⟨v, hv⟩ := at_mapI hi c'
    refine ⟨_, rfl, _, rfl, a, _, _, _, rfl, rfl, hS, hv, _, rfl, ?_⟩
    refine ⟨_, rfl, _, _, rfl, rfl, .inl ⟨by decide, by decide⟩, _, _, rfl, rfl, ?_⟩
    refine ⟨_, rfl, _, _, rfl, .inl ⟨_, hS, rfl⟩, _, _, rfl, _, rfl, ?_, ?_, for_range (lo := 0) (fun k σ H' => ∃ (m : Int) (x : Option V), σ = [some (.ref a), some (.int i), some (.int (if v < 0 then -v else v)), some (.int m), x] ∧ H' = H) ⟨_, _, rfl, rfl⟩ ?_ ?_⟩
    · split <;> omega
    · split <;> omega
    · rintro k σ H' hk ⟨m, x, rfl, rfl⟩
      have hk' : k < ns.length := by
        rw [hl] at hk
        split at hk <;> omega
      obtain ⟨u, hu⟩ := at_map (ns := ns) hk'
      refine ⟨_, rfl, _, _, rfl, rfl, .inr ⟨by decide, by decide⟩, _, rfl, _, rfl, a, _, _, _, rfl, rfl, hS, (by rw [Int.zero_add]; exact hu), _, _, rfl, rfl, (by show (0 : Int) < 2147483647; decide), _, _, rfl, rfl, _, rfl, _, _, rfl, rfl, .inl ⟨by decide, by decide⟩, _, _, rfl, rfl, _, _, rfl, rfl, (by show (0 : Int) < 2147483629; decide), ?_⟩
      exact ⟨_, _, rfl, rfl⟩
    · rintro σ H' ⟨m, x, rfl, rfl⟩
      refine ⟨_, rfl, _, _, rfl, rfl, ⟨by decide, by decide, by decide⟩, _, _, rfl, rfl, _, _, rfl, _, rfl, _, _, rfl, rfl, (by show 2 ≤ sizeLine; decide), fun l hl' => ?_⟩
      exact q l _ _ hl' (by split <;> omega)
  · refine ⟨_, rfl, _, _, rfl, rfl, .inl ⟨by decide, by decide⟩, _, _, rfl, rfl, ?_⟩
    refine ⟨_, rfl, _, _, rfl, .inl ⟨_, hS, rfl⟩, _, _, rfl, _, rfl, ?_, ?_, for_range (lo := 0) (fun k σ H' => ∃ (m : Int) (x : Option V), σ = [some (.ref a), some (.int i), some (.int 0), some (.int m), x] ∧ H' = H) ⟨_, _, rfl, rfl⟩ ?_ ?_⟩
    · split <;> omega
    · split <;> omega
    · rintro k σ H' hk ⟨m, x, rfl, rfl⟩
      have hk' : k < ns.length := by
        rw [hl] at hk
        split at hk <;> omega
      obtain ⟨u, hu⟩ := at_map (ns := ns) hk'
      refine ⟨_, rfl, _, _, rfl, rfl, .inr ⟨by decide, by decide⟩, _, rfl, _, rfl, a, _, _, _, rfl, rfl, hS, (by rw [Int.zero_add]; exact hu), _, _, rfl, rfl, (by show (0 : Int) < 2147483647; decide), _, _, rfl, rfl, _, rfl, _, _, rfl, rfl, .inl ⟨by decide, by decide⟩, _, _, rfl, rfl, _, _, rfl, rfl, (by show (0 : Int) < 2147483629; decide), ?_⟩
      exact ⟨_, _, rfl, rfl⟩
    · rintro σ H' ⟨m, x, rfl, rfl⟩
      refine ⟨_, rfl, _, _, rfl, rfl, ⟨by decide, by decide, by decide⟩, _, _, rfl, rfl, _, _, rfl, _, rfl, _, _, rfl, rfl, (by show 2 ≤ sizeLine; decide), fun l hl' => ?_⟩
      exact q l _ _ hl' (by split <;> omega)
theorem ok_L_take (T : Tx w K mg A) : FnOk P w K mg base CX0 1 A.a_L_take A.d_L_take ["_law_bag_here", "_law_many"] sp_L_take := by
  refine T.F_L_take.ok sc_L_take (fun vs H Q E h => ?_) (fun cdv A' outer s H vs Q E hr h => ?_)
  · obtain ⟨l, many, rfl, ⟨b0, b1, hl, hb0⟩, h0, hbig, q⟩ := h
    rfl
  obtain ⟨l, many, rfl, ⟨b0, b1, hl, hb0⟩, h0, hbig, q⟩ := h
  refine ⟨_, (pss_cons (ps_if (pt_cmpR op_gt (pe_ix ix_list (pv 0) pe_int (fun _ _ => rfl)) pe_int (nomark _)) (pss_cons (ps_set (i := 2) sc_L_take.nd rfl (Or.inl rfl) (pe_op op_mod (pe_ix ix_list (pv 0) pe_int (fun _ _ => rfl)) (pv 1)))
    (pss_cons (ps_asg (pe_op op_fdivL (pe_ix ix_list (pv 0) pe_int (fun _ _ => rfl)) (pv 1)) (pg_sub (pv 0) pe_int set_list))
    (pss_one (ps_ret (pv 2))))) pss_nil)
    (pss_cons (ps_asg (pe_op op_mod (pe_op op_add (pe_op op_mul (pe_ix ix_list (pv 0) pe_int (fun _ _ => rfl)) pe_int) pe_int) pe_int) (pg_sub (pv 0) pe_int set_list))
    (pss_one (ps_ret (pe_op op_mod (pe_op op_mod (pe_op op_mul (pe_op op_fdivL (pe_ix ix_list (pv 0) pe_int (fun _ _ => rfl)) pe_int) pe_int) pe_int) (pv 1)))))), ?_⟩
  refine ⟨_, rfl, l, _, 0, _, rfl, rfl, SqL.of hl, rfl, _, _, rfl, rfl, _, rfl, ?_⟩
  refine ite2 (fun c => ?_) (fun c => ?_)
  · have c' : 0 < b0 := of_decide_eq_true c
    refine ⟨_, rfl, l, _, 0, _, rfl, rfl, SqL.of hl, rfl, _, rfl, _, _, rfl, rfl, h0, ?_⟩
    refine ⟨_, rfl, l, _, 0, _, rfl, rfl, SqL.of hl, rfl, _, rfl, _, _, rfl, rfl, ⟨h0, hbig⟩, _, rfl, l, _, 0, 0, rfl, rfl, hl, rfl, ?_⟩
    refine ⟨_, rfl, ?_⟩
    exact q _ _ (Int.emod_nonneg _ (by omega)) (Int.emod_lt_of_pos _ h0) (Bg.put _ _ (Int.ediv_nonneg hb0 (by omega)))
  · refine ⟨_, rfl, l, _, 1, _, rfl, rfl, SqL.of hl, rfl, _, _, rfl, rfl, .inr ⟨by decide, by decide⟩, _, _, rfl, rfl, _, _, rfl, rfl, (by show (0 : Int) < 2147483647; decide), _, rfl, l, _, 1, 1, rfl, rfl, hl, rfl, ?_⟩
    refine ⟨_, rfl, l, _, 1, _, rfl, rfl, SqL.of upd_same, rfl, _, _, rfl, rfl, ⟨by decide, by decide⟩, _, _, rfl, rfl, .inr ⟨by decide, by decide⟩, _, _, rfl, rfl, (by show (0 : Int) < 2147483629; decide), _, rfl, _, _, rfl, rfl, h0, ?_⟩
    exact q _ _ (Int.emod_nonneg _ (by omega)) (Int.emod_lt_of_pos _ h0) (Bg.put _ _ hb0)
theorem ok_L_names (T : Tx w K mg A) (G_L_take : FnOk P w K mg base CX0 1 A.a_L_take A.d_L_take ["_law_bag_here", "_law_many"] sp_L_take) : FnOk P w K mg base CX0 2 A.a_L_names A.d_L_names ["_law_bag_here"] sp_L_names := by
  refine T.F_L_names.ok sc_L_names (fun vs H Q E h => ?_) (fun cdv A' outer s H vs Q E hr h => ?_)
  · obtain ⟨l, rfl, hb, q⟩ := h
    rfl
  obtain ⟨l, rfl, hb, q⟩ := h
  conv in (defBody _) => whnf
  simp only [bigL_eq, bigT_eq]
  refine ⟨_, (pss_cons (ps_comp [0] sc_L_names.nd (i := 1) rfl (Or.inl rfl) (fun _ _ h => h) rfl (pi_range1 rfl T.range (pa_cons (pe_op op_add pe_int (pe_call G_L_take (hr.mono (by first | decide | omega)) rfl T.M_L_take T.F_L_take.kp T.B_L_take .nil pass0 (pa_cons (pv 0) (pa_cons pe_int pa_nil)))) pa_nil)) (fun _ _ _ _ => pts_nil) (fun _ _ _ _ => (pe_ix ix_str pe_str (pe_call G_L_take (hr.mono (by first | decide | omega)) rfl T.M_L_take T.F_L_take.kp T.B_L_take .nil pass0 (pa_cons (pv 1) (pa_cons pe_int pa_nil))) (fun _ _ => rfl))) rfl (show ∀ j ∈ ([0] : List Nat), j < 6 by decide) (show (["_law_k", "_law_bag_here"] : List Str).Nodup by decide +kernel) (by with_unfolding_all rfl))
    (pss_cons (ps_set (i := 2) sc_L_names.nd rfl (Or.inl rfl) (pe_call G_L_take (hr.mono (by first | decide | omega)) rfl T.M_L_take T.F_L_take.kp T.B_L_take .nil pass0 (pa_cons (pv 0) (pa_cons (pe_callB call_len rfl T.len PySem.boot_len (pa_cons (pv 1) pa_nil)) pa_nil))))
    (pss_cons (ps_set (i := 3) sc_L_names.nd rfl (Or.inl rfl) (pe_lst pa_nil))
    (pss_cons (ps_for PassesOwn.never rfl (pi_list (pe_bigL rfl)) (pg_name (i := 4) sc_L_names.nd rfl (Or.inl rfl))
        (pss_cons (ps_set (i := 5) sc_L_names.nd rfl (Or.inl rfl) (pe_op op_add_str (pe_op op_add_str (pe_bm PySem.F.plainAttrs_str PySem.F.slot_str_join PySem.F.type_str_join mt_join pe_str (pa_cons (pe_slice sl_list (pv 1) po_none (po_some (pv 2))) pa_nil)) (pv 4)) (pe_bm PySem.F.plainAttrs_str PySem.F.slot_str_join PySem.F.type_str_join mt_join pe_str (pa_cons (pe_slice sl_list (pv 1) (po_some (pe_op op_add (pv 2) pe_int)) po_none) pa_nil))))
    (pss_one (ps_expr (pe_bm PySem.F.plainAttrs_list PySem.F.slot_list_append PySem.F.type_list_append mt_append (pv 3) (pa_cons (pe_ix ix_list (pe_lst (pa_cons (pv 5) (pa_cons pe_str pa_nil))) (pe_callTy call_int1 rfl T.int PyProof.Rows.boot_int (pa_cons (pe_cmpR op_eq (pv 5) pe_str (nomark _)) pa_nil)) (fun _ _ => rfl)) pa_nil))))) (hs := by intro _; unfold bigL; rfl))
    (pss_one (ps_ret (pv 3))))))), ?_⟩
  refine ⟨_, rfl, l, 8, rfl, hb, by decide, by decide, fun d H1 d0 d1 hb1 => ?_⟩
  refine ⟨_, _, rfl, rfl, _, rfl, by omega, by omega, comp_range (lo := 0) (fun i ys H' => Bg l H H' ∧ ∃ zs : List Str, ys = zs.map V.str ∧ zs.length = i ∧ ∀ z ∈ zs, z.length = 1) ⟨hb1, [], rfl, rfl, (fun _ h => nomatch h)⟩ ?_ ?_ ?_⟩
  · rintro i ys H' hi ⟨g, zs, rfl, hl, hz⟩
    rw [List.length_map]
    exact smallL (by omega)
  · rintro i ys H' hi ⟨g, zs, rfl, hl, hz⟩
    unfold tYes
    refine iteT ⟨_, rfl, l, 26, rfl, g.2, by decide, by decide, fun e H3 e0 e1 hb3 => ?_⟩
    obtain ⟨c, hc, _⟩ := at_any (xs := ("abcdefghijklmnopqrstuvwxyz" : Str).cps.toList) e0 (show e < 26 from e1)
    refine ⟨_, _, c, rfl, rfl, (by decide), hc, ?_⟩
    refine ⟨g.trans hb3, zs ++ [⟨#[c]⟩], by rw [List.map_append]; rfl, by rw [List.length_append, hl]; rfl, fun z hz' => ?_⟩
    rcases List.mem_append.mp hz' with h | h
    · exact hz z h
    · rw [List.mem_singleton.mp h]; rfl
  · rintro ys H2 ⟨g, zs, rfl, hl, hz⟩ ps hps
    have nps : ps ≠ l := g.2.ne hps
    have g3 := g.trans (Bg.new g.2 hps (.lst (zs.map V.str)))
    have hps3 := upd_same (H := H2) (a := ps) (o := .lst (zs.map V.str))
    generalize upd H2 ps (.lst (zs.map V.str)) = H3 at g3 hps3 ⊢
    have hzl : 1 ≤ zs.length ∧ zs.length ≤ 8 := by omega
    refine ⟨_, rfl, _, rfl, _, _, rfl, .inl ⟨_, SqL.of hps3, rfl⟩, l, _, rfl, g3.2, (by rw [List.length_map]; omega), (by rw [List.length_map]; exact Int.lt_trans (show (zs.length : Int) < 100 by omega) (by decide)), fun k H4 k0 k1 hb4 => ?_⟩
    rw [List.length_map] at k1
    obtain ⟨k, rfl⟩ := Int.eq_ofNat_of_zero_le k0
    have g4 := g3.trans hb4
    have hps4 := hb4.1 ps _ nps hps3
    refine ⟨(by show 0 ≤ sizeLine; decide), fun pn hpn => ?_⟩
    have npn : pn ≠ l := hb4.2.ne hpn
    have hpnH : H pn = none := by
      cases hh : H pn with
      | none => rfl
      | some o => rw [g4.1 pn o npn hh] at hpn; cases hpn
    have g5 := g4.trans (Bg.new hb4.2 hpn (.lst []))
    have hps5 := (same_new hpn (.lst [])) _ _ hps4
    have hpn5 := upd_same (H := H4) (a := pn) (o := .lst [])
    have nspn : ps ≠ pn := ne_of_none hps4 hpn
    generalize upd H4 pn (.lst []) = H5 at g5 hps5 hpn5 ⊢
    refine ⟨(by show 6 ≤ sizeLine; decide), fun pc hpc => ?_⟩
    have npc : pc ≠ l := g5.2.ne hpc
    have ncn : pc ≠ pn := (ne_of_none hpn5 hpc).symm
    have g6 := g5.trans (Bg.new g5.2 hpc (.lst [.str "k", .str "x", .str "q", .str "z", .str "v", .str "j"]))
    have hps6 := (same_new hpc (.lst [.str "k", .str "x", .str "q", .str "z", .str "v", .str "j"])) _ _ hps5
    have hpn6 := (same_new hpc (.lst [.str "k", .str "x", .str "q", .str "z", .str "v", .str "j"])) _ _ hpn5
    have hpc6 := upd_same (H := H5) (a := pc) (o := .lst [.str "k", .str "x", .str "q", .str "z", .str "v", .str "j"])
    refine ⟨pc, rfl, ⟨_, SqL.of hpc6⟩, for_list (xs := [.str "k", .str "x", .str "q", .str "z", .str "v", .str "j"]) (fun i σ H' => ∃ (z4 z5 : Option V) (us : List Str), σ = [some (.ref l), some (.ref ps), some (.int (k : Int)), some (.ref pn), z4, z5] ∧ Bg l H H' ∧ H' ps = some (.lst (zs.map V.str)) ∧ H' pc = some (.lst [.str "k", .str "x", .str "q", .str "z", .str "v", .str "j"]) ∧ H' pn = some (.lst (us.map V.str)) ∧ us.length = i) ⟨_, _, [], rfl, g6, hps6, hpc6, hpn6, rfl⟩ ?_ ?_ ?_⟩
    · rintro i σ H' _ ⟨_, _, _, _, _, _, hc, _⟩
      exact SqL.of hc
    · rintro i x σ H' hx ⟨z4, z5, us, rfl, g, hs', hc', hn', hul⟩
      have hx' : ∃ c : Str, x = .str c ∧ c.length = 1 ∧ i < 6 := by
        match i, hx with
        | 0, hx => cases hx; exact ⟨_, rfl, rfl, by decide⟩
        | 1, hx => cases hx; exact ⟨_, rfl, rfl, by decide⟩
        | 2, hx => cases hx; exact ⟨_, rfl, rfl, by decide⟩
        | 3, hx => cases hx; exact ⟨_, rfl, rfl, by decide⟩
        | 4, hx => cases hx; exact ⟨_, rfl, rfl, by decide⟩
        | 5, hx => cases hx; exact ⟨_, rfl, rfl, by decide⟩
        | i + 6, hx => cases hx
      obtain ⟨c, rfl, hc1, hi6⟩ := hx'
      have hAl : (Txt.join "" (zs.take k)).length ≤ 8 := by
        rw [join_len]
        exact Nat.le_trans (sum_ones fun z hz' => hz z (List.mem_of_mem_take hz')) (by rw [List.length_take]; omega)
      have hBl : (Txt.join "" (zs.drop (k + 1))).length ≤ 8 := by
        rw [join_len]
        exact Nat.le_trans (sum_ones fun z hz' => hz z (List.mem_of_mem_drop hz')) (by rw [List.length_drop]; omega)
      have s1 : (zs.take k |>.map (·.length)).sum ≤ 8 := Nat.le_trans (sum_ones fun z hz' => hz z (List.mem_of_mem_take hz')) (by rw [List.length_take]; omega)
      have s2 : (zs.drop (k + 1) |>.map (·.length)).sum ≤ 8 := Nat.le_trans (sum_ones fun z hz' => hz z (List.mem_of_mem_drop hz')) (by rw [List.length_drop]; omega)
      have l1 : (zs.take k).length ≤ 8 := by rw [List.length_take]; omega
      have l2 : (zs.drop (k + 1)).length ≤ 8 := by rw [List.length_drop]; omega
      refine ⟨rfl, _, rfl, _, rfl, _, rfl, ps, _, rfl, SqL.of hs', fun p1 hp1 => ?_⟩
      rw [cut_to (by rw [List.length_map]; omega), ← List.map_take]
      have t1 := same_new hp1 (.lst ((zs.take k).map V.str))
      refine ⟨"", p1, zs.take k, rfl, rfl, SqL.of upd_same, (by show _ + _ * 0 ≤ 16777216; omega), ?_⟩
      generalize Txt.join "" (zs.take k) = AA at hAl ⊢
      refine ⟨_, rfl, _, _, rfl, rfl, small (by omega), ?_⟩
      generalize upd H' p1 (.lst ((zs.take k).map V.str)) = Ha at t1 ⊢
      refine ⟨rfl, _, rfl, _, rfl, _, _, rfl, rfl, _, rfl, ps, _, rfl, SqL.of (t1 _ _ hs'), fun p2 hp2 => ?_⟩
      have hcut : cutV (zs.map V.str) (some ((k : Int) + 1)) none = (zs.drop (k + 1)).map V.str := by
        rw [show ((k : Int) + 1) = ((k + 1 : Nat) : Int) by push_cast; rfl, cut_from (by rw [List.length_map]; omega), ← List.map_drop]
      rw [hcut]
      have t2 := t1.trans (same_new hp2 (.lst ((zs.drop (k + 1)).map V.str)))
      refine ⟨"", p2, zs.drop (k + 1), rfl, rfl, SqL.of upd_same, (by show _ + _ * 0 ≤ 16777216; omega), ?_⟩
      generalize Txt.join "" (zs.drop (k + 1)) = BB at hBl ⊢
      refine ⟨_, _, rfl, rfl, small (by rw [Str.length_append]; omega), ?_⟩
      show tSeq _ _ _ _ (upd Ha p2 (.lst ((zs.drop (k + 1)).map V.str)))
      generalize upd Ha p2 (.lst ((zs.drop (k + 1)).map V.str)) = Hb at t2 ⊢
      have gb := g.trans (g.2.same t2)
      have hsb := t2 _ _ hs'
      have hcb := t2 _ _ hc'
      have hnb := t2 _ _ hn'
      generalize AA ++ c ++ BB = nn
      refine ⟨_, rfl, .inl ⟨rfl, _, SqL.of hnb⟩, _, rfl, (by show 2 ≤ sizeLine; decide), fun p3 hp3 => ?_⟩
      have t3 := same_new hp3 (.lst [.str nn, .str "joinj"])
      have f3 := upd_same (H := Hb) (a := p3) (o := .lst [.str nn, .str "joinj"])
      generalize upd Hb p3 (.lst [.str nn, .str "joinj"]) = Hc at t3 f3 ⊢
      have hat : ∃ y : Str, atI [V.str nn, V.str "joinj"] (if decide (V.str nn = V.str "join") = true then 1 else 0) = some (.str y) := by
        split
        · exact ⟨_, rfl⟩
        · exact ⟨_, rfl⟩
      obtain ⟨y, hy⟩ := hat
      refine ⟨_, rfl, rfl, .inr ⟨_, rfl, p3, _, _, _, rfl, rfl, SqL.of f3, hy, pn, _, _, rfl, rfl, t3 _ _ hnb, smallL (by rw [List.length_map]; omega), ?_⟩⟩
      refine ⟨_, _, us ++ [y], rfl, (gb.trans (gb.2.same t3)).set hpnH npn _, ?_, ?_, ?_, by rw [List.length_append, hul]; rfl⟩
      · rw [upd_ne nspn]; exact t3 _ _ hsb
      · rw [upd_ne ncn]; exact t3 _ _ hcb
      · rw [upd_same, List.map_append]; rfl
    · rintro σ H' ⟨z4, z5, us, rfl, g, hs', hc', hn', hul⟩
      exact ⟨_, rfl, q pn us H' hul npn hpnH g hn'⟩
theorem ok_L_rooms (T : Tx w K mg A) (G_L_take : FnOk P w K mg base CX0 1 A.a_L_take A.d_L_take ["_law_bag_here", "_law_many"] sp_L_take) : FnOk P w K mg base CX0 2 A.a_L_rooms A.d_L_rooms ["_law_bag_here", "_law_room", "_law_many"] sp_L_rooms := by
  refine T.F_L_rooms.ok sc_L_rooms (fun vs H Q E h => ?_) (fun cdv A' outer s H vs Q E hr h => ?_)
  · obtain ⟨l, room, many, rfl, hb, hm0, hm3, hmr, hroom, q⟩ := h
    rfl
  obtain ⟨l, room, many, rfl, hb, hm0, hm3, hmr, hroom, q⟩ := h
  refine ⟨_, (pss_cons (ps_set (i := 3) sc_L_rooms.nd rfl (Or.inl rfl) (pe_op op_sub (pv 1) (pv 2)))
    (pss_cons (ps_set (i := 4) sc_L_rooms.nd rfl (Or.inl rfl) (pe_lst pa_nil))
    (pss_cons (ps_for PassesOwn.never rfl (pi_range1 rfl T.range (pa_cons (pv 2) pa_nil)) (pg_name (i := 5) sc_L_rooms.nd rfl (Or.inl rfl))
        (pss_cons (ps_set (i := 6) sc_L_rooms.nd rfl (Or.inl rfl) (pv 3))
    (pss_cons (ps_if (pt_cmpR op_lt (pe_op op_add (pv 5) pe_int) (pv 2) (nomark _)) (pss_one (ps_set (i := 6) sc_L_rooms.nd rfl (Or.inl rfl) (pe_call G_L_take (hr.mono (by first | decide | omega)) rfl T.M_L_take T.F_L_take.kp T.B_L_take .nil pass0 (pa_cons (pv 0) (pa_cons (pe_op op_add (pv 3) pe_int) pa_nil))))) pss_nil)
    (pss_cons (ps_expr (pe_bm PySem.F.plainAttrs_list PySem.F.slot_list_append PySem.F.type_list_append mt_append (pv 4) (pa_cons (pe_op op_add pe_int (pv 6)) pa_nil)))
    (pss_one (ps_set (i := 3) sc_L_rooms.nd rfl (Or.inl rfl) (pe_op op_sub (pv 3) (pv 6))))))))
    (pss_one (ps_ret (pv 4)))))), ?_⟩
  refine ⟨_, rfl, _, rfl, _, _, rfl, rfl, ?_⟩
  refine ⟨(by show 0 ≤ sizeLine; decide), fun p hp => ?_⟩
  have hpl : p ≠ l := hb.ne hp
  refine ⟨_, rfl, _, rfl, by omega, by omega, for_range (lo := 0) (fun i σ H' => ∃ (left : Int) (rs : List Int) (x y : Option V), σ = [some (.ref l), some (.int room), some (.int many), some (.int left), some (.ref p), x, y] ∧ 0 ≤ left ∧ left ≤ 1000 ∧ rs.length = i ∧ (∀ r ∈ rs, r ≤ 1001) ∧ Bg l H H' ∧ H' p = some (.lst (rs.map V.int))) ⟨_, [], none, none, rfl, by omega, by omega, rfl, (fun _ h => nomatch h), Bg.new hb hp _, upd_same⟩ ?_ ?_⟩
  · rintro i σ H1 hi ⟨left, rs, x, y, rfl, l0, l1, hrs, hrb, hb1, hp1⟩
    have fin : ∀ (more : Int) (H2 : Hp), 0 ≤ more → more ≤ left → Bg l H1 H2 → ∃ (left' : Int) (rs' : List Int) (x y : Option V), [some (V.ref l), some (.int room), some (.int many), some (.int (left - more)), some (.ref p), some (.int (0 + (i : Int))), some (.int more)] = [some (.ref l), some (.int room), some (.int many), some (.int left'), some (.ref p), x, y] ∧ 0 ≤ left' ∧ left' ≤ 1000 ∧ rs'.length = i + 1 ∧ (∀ r ∈ rs', r ≤ 1001) ∧ Bg l H (upd H2 p (.lst (rs.map V.int ++ [.int (1 + more)]))) ∧ (upd H2 p (.lst (rs.map V.int ++ [.int (1 + more)]))) p = some (.lst (rs'.map V.int)) := fun more H2 m0 m1 hb2 => by
      refine ⟨_, rs ++ [1 + more], _, _, rfl, by omega, by omega, by rw [List.length_append, hrs]; rfl, fun r hr => ?_, (hb1.trans hb2).set hp hpl _, by rw [upd_same, List.map_append]; rfl⟩
      rcases List.mem_append.mp hr with h | h
      · exact hrb r h
      · rw [List.mem_singleton.mp h]; omega
    have hlen : ∀ H2, Bg l H1 H2 → H2 p = some (.lst (rs.map V.int)) ∧ (rs.map V.int).length < sizeLine := fun H2 hb2 => ⟨hb2.1 p _ hpl hp1, by rw [List.length_map]; exact smallL (by omega)⟩
    refine ⟨_, rfl, ?_⟩
    refine ⟨_, rfl, _, _, rfl, rfl, _, rfl, _, _, rfl, rfl, _, rfl, ?_⟩
    refine ite2 (fun c => ?_) (fun c => ?_)
    · refine ⟨_, rfl, _, rfl, _, _, rfl, rfl, l, _, rfl, hb1.2, by omega, (by show left + 1 < bigB; exact Int.lt_trans (show left + 1 < 2000 by omega) (by decide)), fun more H2 m0 m1 hb2 => ?_⟩
      obtain ⟨hp2, hl2⟩ := hlen H2 hb2
      refine ⟨_, rfl, .inl ⟨rfl, _, SqL.of hp2⟩, _, rfl, _, _, rfl, rfl, p, _, _, rfl, rfl, hp2, hl2, ?_⟩
      refine ⟨_, rfl, _, rfl, _, _, rfl, rfl, ?_⟩
      exact fin more H2 m0 (by omega) hb2
    · obtain ⟨hp2, hl2⟩ := hlen H1 (Bg.refl hb1.2)
      refine ⟨_, rfl, .inl ⟨rfl, _, SqL.of hp2⟩, _, rfl, _, _, rfl, rfl, p, _, _, rfl, rfl, hp2, hl2, ?_⟩
      refine ⟨_, rfl, _, rfl, _, _, rfl, rfl, ?_⟩
      exact fin left H1 l0 (Int.le_refl _) (Bg.refl hb1.2)
  · rintro σ H1 ⟨left, rs, x, y, rfl, l0, l1, hrs, hrb, hb1, hp1⟩
    exact ⟨_, rfl, q p rs H1 hp hpl hb1 hp1 (by rw [hrs]; omega) hrb⟩
theorem ok_L_leaf (T : Tx w K mg A) (G_L_take : FnOk P w K mg base CX0 1 A.a_L_take A.d_L_take ["_law_bag_here", "_law_many"] sp_L_take) : FnOk P w K mg base CX0 2 A.a_L_leaf A.d_L_leaf ["_law_bag_here", "_law_names_here", "_law_widths", "_law_width"] sp_L_leaf := by
  refine T.F_L_leaf.ok sc_L_leaf (fun vs H Q E h => ?_) (fun cdv A' outer s H vs Q E hr h => ?_)
  · obtain ⟨l, nm, wd, zs, kvs, kv, w', rfl, hb, hnm, hz6, nml, hwd, kw, w1, w8, q⟩ := h
    rfl
  obtain ⟨l, nm, wd, zs, kvs, kv, w', rfl, hb, hnm, hz6, nml, hwd, kw, w1, w8, q⟩ := h
  have hu := hu_of hr
  refine ⟨_, (pss_cons (ps_comp [2, 3] sc_L_leaf.nd (i := 4) rfl (Or.inl rfl) (fun _ _ h => h) rfl (pi_list (pv 1)) (fun _ _ _ _ => (pts_one (pt_cmpR op_eq (pe_dget2 hu (pv 1) (pv 0) (pv 2) ⟨rfl, rfl, rfl, rfl⟩) (pv 2) (nomark _)))) (fun _ _ _ _ => (pv 0)) rfl (show ∀ j ∈ ([2, 3] : List Nat), j < 6 by decide) (show (["_law_name", "_law_widths", "_law_width"] : List Str).Nodup by decide +kernel) (by with_unfolding_all rfl))
    (pss_cons (ps_set (i := 5) sc_L_leaf.nd rfl (Or.inl rfl) (pe_call G_L_take (hr.mono (by first | decide | omega)) rfl T.M_L_take T.F_L_take.kp T.B_L_take .nil pass0 (pa_cons (pv 0) (pa_cons pe_int pa_nil))))
    (pss_cons (ps_if (pt_cmpR op_eq (pv 5) pe_int (nomark _)) (pss_one (ps_ret (pe_tup (pa_cons pe_str (pa_cons (pe_ix ix_list (pv 1) (pe_call G_L_take (hr.mono (by first | decide | omega)) rfl T.M_L_take T.F_L_take.kp T.B_L_take .nil pass0 (pa_cons (pv 0) (pa_cons pe_int pa_nil))) (fun _ _ => rfl)) pa_nil))))) pss_nil)
    (pss_cons (ps_if (PW.pt (pw_and (pt_cmpR op_gt (pv 5) pe_int (nomark _)) (pw_and1 (pt_cmpR op_gt (pe_callB call_len rfl T.len PySem.boot_len (pa_cons (pv 4) pa_nil)) pe_int (nomark _))))) (pss_one (ps_ret (pe_tup (pa_cons pe_str (pa_cons (pe_ix ix_list (pv 4) (pe_call G_L_take (hr.mono (by first | decide | omega)) rfl T.M_L_take T.F_L_take.kp T.B_L_take .nil pass0 (pa_cons (pv 0) (pa_cons (pe_callB call_len rfl T.len PySem.boot_len (pa_cons (pv 4) pa_nil)) pa_nil))) (fun _ _ => rfl)) pa_nil))))) pss_nil)
    (pss_one (ps_ret (pe_tup (pa_cons pe_str (pa_cons (pe_call G_L_take (hr.mono (by first | decide | omega)) rfl T.M_L_take T.F_L_take.kp T.B_L_take .nil pass0 (pa_cons (pv 0) (pa_cons (pe_op op_shl pe_int (pv 3)) pa_nil))) (pa_cons (pv 3) pa_nil)))))))))), ?_⟩
  refine ⟨_, rfl, nm, rfl, ⟨_, SqL.of hnm⟩, comp_list (xs := zs.map V.str) (fun i ys H' => H = H' ∧ ∃ us : List Str, ys = us.map V.str ∧ us.length ≤ i) ⟨rfl, [], rfl, Nat.le_refl _⟩ ?_ ?_ ?_ ?_⟩
  · rintro i ys H' _ ⟨rfl, _⟩
    exact SqL.of hnm
  · rintro i ys H' hi ⟨rfl, us, rfl, hu⟩
    rw [List.length_map] at hi ⊢
    exact smallL (by omega)
  · rintro i x ys H' hx ⟨rfl, us, rfl, hu⟩
    rw [List.getElem?_map] at hx
    obtain ⟨zz, hzz, rfl⟩ := Option.map_eq_some_iff.mp hx
    refine ⟨_, rfl, wd, rfl, .inl ⟨kvs, .inl hwd⟩, _, rfl, _, rfl, _, DGet.k (k := .inr zz) hwd, _, rfl, (by rw [kw.1 zz]; cases kv zz <;> rfl), _, rfl, ?_⟩
    refine ite2 (fun c => ?_) (fun c => ?_)
    · refine ⟨_, rfl, rfl, us ++ [zz], by rw [List.map_append]; rfl, by rw [List.length_append, List.length_singleton]; omega⟩
    · exact ⟨rfl, us, rfl, by omega⟩
  · rintro ys H' ⟨rfl, us, rfl, hu⟩ ps hps
    rw [List.length_map] at hu
    have nps : ps ≠ l := hb.ne hps
    have g1 := Bg.new hb hps (.lst (us.map V.str))
    have hnm1 := (same_new hps (.lst (us.map V.str))) _ _ hnm
    have fps := upd_same (H := H) (a := ps) (o := .lst (us.map V.str))
    generalize upd H ps (.lst (us.map V.str)) = H1 at g1 hnm1 fps ⊢
    refine ⟨_, rfl, l, 6, rfl, g1.2, by decide, by decide, fun d H2 d0 d1 hb2 => ?_⟩
    have g2 := g1.trans hb2
    have hnm2 := hb2.1 _ _ nml hnm1
    have fps2 := hb2.1 _ _ nps fps
    refine ⟨_, rfl, rfl, _, rfl, ?_⟩
    refine ite2 (fun c => ?_) (fun c => ?_)
    · refine ⟨_, rfl, _, rfl, l, 6, rfl, g2.2, by decide, by decide, fun e H3 e0 e1 hb3 => ?_⟩
      obtain ⟨e, rfl⟩ := Int.eq_ofNat_of_zero_le e0
      have he : e < zs.length := by omega
      refine ⟨nm, _, _, _, rfl, rfl, SqL.of (hb3.1 _ _ nml hnm2), atI_nat (show (zs.map V.str)[e]? = some (.str zs[e]) by rw [List.getElem?_map, List.getElem?_eq_getElem he]; rfl), (by show 2 ≤ sizeLine; decide), fun p5 hp5 => ?_⟩
      exact q (.wire zs[e]) _ _ trivial (by simp only [Say.dat]; exact Dat.tup upd_same (.cons (Dat.str _) (.cons (Dat.str _) .nil))) ((g2.trans hb3).trans (Bg.new hb3.2 hp5 _))
    · refine ⟨_, rfl, _, _, rfl, rfl, _, rfl, ?_⟩
      have num : ∀ H2, Bg l H H2 → ∀ (D : Prop), ((∀ (d : Int) (H3 : Hp), 0 ≤ d → Bg l H H3 → ∀ p, H3 p = none → Q (.ref p) (upd H3 p (.tup [.str "number", .int d, .int w']))) → D) → D := fun H2 _ D k => k fun d H3 _ g3 p hp => q (.num d w') _ _ ⟨w1, w8⟩ (by simp only [Say.dat]; exact Dat.tup upd_same (.cons (Dat.str _) (.cons (Dat.int _) (.cons (Dat.int _) .nil)))) (g3.trans (Bg.new g3.2 hp _))
      have hp2 := pow_pos2 w'.toNat
      have hp3 := pow_le2 (n := w'.toNat) (by omega)
      have hbig : (1 : Int) * 2 ^ w'.toNat < bigB := Int.lt_of_le_of_lt (by rw [Int.one_mul]; exact hp3) (by decide)
      have hpos : (0 : Int) < 1 * 2 ^ w'.toNat := by rw [Int.one_mul]; exact hp2
      refine ite2 (fun c2 => ?_) (fun c2 => ?_)
      · refine ⟨_, rfl, _, _, rfl, .inl ⟨_, SqL.of fps2, rfl⟩, _, _, rfl, rfl, _, rfl, ?_⟩
        refine ite2 (fun c3 => ?_) (fun c3 => ?_)
        · have hpl : (0 : Int) < (((us.map V.str).length : Nat) : Int) := of_decide_eq_true c3
          rw [List.length_map] at hpl
          refine ⟨_, rfl, _, rfl, _, rfl, _, _, rfl, .inl ⟨_, SqL.of fps2, rfl⟩, l, _, rfl, g2.2, (by rw [List.length_map]; exact hpl), (by rw [List.length_map]; exact Int.lt_trans (show (us.length : Int) < 100 by omega) (by decide)), fun e H3 e0 e1 hb3 => ?_⟩
          rw [List.length_map] at e1
          obtain ⟨e, rfl⟩ := Int.eq_ofNat_of_zero_le e0
          have he : e < us.length := by omega
          refine ⟨ps, _, _, _, rfl, rfl, SqL.of (hb3.1 _ _ nps fps2), atI_nat (show (us.map V.str)[e]? = some (.str us[e]) by rw [List.getElem?_map, List.getElem?_eq_getElem he]; rfl), (by show 2 ≤ sizeLine; decide), fun p5 hp5 => ?_⟩
          exact q (.wire us[e]) _ _ trivial (by simp only [Say.dat]; exact Dat.tup upd_same (.cons (Dat.str _) (.cons (Dat.str _) .nil))) ((g2.trans hb3).trans (Bg.new hb3.2 hp5 _))
        · refine ⟨_, rfl, _, rfl, _, _, rfl, rfl, ⟨by omega, by omega, by decide⟩, l, _, rfl, g2.2, hpos, hbig, fun e H3 e0 e1 hb3 => ?_⟩
          refine ⟨_, rfl, (by show 3 ≤ sizeLine; decide), fun p5 hp5 => ?_⟩
          exact num H2 g2 _ fun k => k e H3 e0 (g2.trans hb3) p5 hp5
      · refine iteF ?_
        refine ⟨_, rfl, _, rfl, _, _, rfl, rfl, ⟨by omega, by omega, by decide⟩, l, _, rfl, g2.2, hpos, hbig, fun e H3 e0 e1 hb3 => ?_⟩
        refine ⟨_, rfl, (by show 3 ≤ sizeLine; decide), fun p5 hp5 => ?_⟩
        exact num H2 g2 _ fun k => k e H3 e0 (g2.trans hb3) p5 hp5
theorem ok_L_wants (T : Tx w K mg A) (G_L_take : FnOk P w K mg base CX0 1 A.a_L_take A.d_L_take ["_law_bag_here", "_law_many"] sp_L_take) : FnOk P w K mg base CX0 2 A.a_L_wants A.d_L_wants ["_law_bag_here", "_law_word", "_law_width"] sp_L_wants := by
  refine T.F_L_wants.ok sc_L_wants (fun vs H Q E h => ?_) (fun cdv A' outer s H vs Q E hr h => ?_)
  · obtain ⟨l, z, w', rfl, hb, w1, w8, q⟩ := h
    rfl
  obtain ⟨l, z, w', rfl, hb, w1, w8, q⟩ := h
  refine ⟨_, (pss_cons (ps_if (pt_cmpR op_eq (pv 1) pe_str (nomark _)) (pss_one (ps_ret (pe_lst (pa_cons pe_int (pa_cons (pv 2) (pa_cons (pv 2) pa_nil)))))) pss_nil)
    (pss_cons (ps_if (PW.pt (pw_or (pt_cmpR op_eq (pv 1) pe_str (nomark _)) (pw_or1 (pt_cmpR op_eq (pv 1) pe_str (nomark _))))) (pss_one (ps_ret (pe_op op_rep (pe_lst (pa_cons (pe_op op_add pe_int (pe_call G_L_take (hr.mono (by first | decide | omega)) rfl T.M_L_take T.F_L_take.kp T.B_L_take .nil pass0 (pa_cons (pv 0) (pa_cons pe_int pa_nil)))) pa_nil)) pe_int))) pss_nil)
    (pss_cons (ps_if (pt_cmpR op_eq (pv 1) pe_str (nomark _)) (pss_cons (ps_set (i := 3) sc_L_wants.nd rfl (Or.inl rfl) (pe_op op_add pe_int (pe_call G_L_take (hr.mono (by first | decide | omega)) rfl T.M_L_take T.F_L_take.kp T.B_L_take .nil pass0 (pa_cons (pv 0) (pa_cons (pe_callB (call_max2 rfl) rfl T.max PyProof.Rows.boot_max (pa_cons pe_int (pa_cons (pe_op op_sub (pv 2) pe_int) pa_nil))) pa_nil)))))
    (pss_one (ps_ret (pe_lst (pa_cons (pv 3) (pa_cons (pe_callB (call_max2 rfl) rfl T.max PyProof.Rows.boot_max (pa_cons pe_int (pa_cons (pe_op op_sub (pv 2) (pv 3)) pa_nil))) pa_nil)))))) pss_nil)
    (pss_cons (ps_if (pt_cmpR op_eq (pv 1) pe_str (nomark _)) (pss_one (ps_ret (pe_lst (pa_cons (pe_op op_add (pv 2) (pe_call G_L_take (hr.mono (by first | decide | omega)) rfl T.M_L_take T.F_L_take.kp T.B_L_take .nil pass0 (pa_cons (pv 0) (pa_cons (pe_op op_sub pe_int (pv 2)) pa_nil)))) pa_nil)))) pss_nil)
    (pss_cons (ps_if (pt_cmpR op_eq (pv 1) pe_str (nomark _)) (pss_one (ps_ret (pe_lst (pa_cons (pe_op op_add pe_int (pe_call G_L_take (hr.mono (by first | decide | omega)) rfl T.M_L_take T.F_L_take.kp T.B_L_take .nil pass0 (pa_cons (pv 0) (pa_cons pe_int pa_nil)))) pa_nil)))) pss_nil)
    (pss_cons (ps_if (pt_cmpR op_in_seq (pv 1) (pe_lst (pa_consts rfl)) rfl) (pss_one (ps_ret (pe_lst (pa_cons (pv 2) pa_nil)))) pss_nil)
    (pss_one (ps_ret (pe_lst (pa_cons (pv 2) (pa_cons (pv 2) pa_nil))))))))))), ?_⟩
  refine ⟨_, rfl, rfl, _, rfl, ?_⟩
  refine ite2 (fun c => ?_) (fun c => ?_)
  · have hz : z = "choice" := by have := of_decide_eq_true c; injection this
    refine ⟨_, rfl, _, rfl, (by show 3 ≤ sizeLine; decide), fun p hp => ?_⟩
    refine q p [1, w', w'] _ hp (hb.ne hp) (Bg.new hb hp _) upd_same (by rw [hz]; rfl) (fun a ha => ?_) (fun h => by rw [hz] at h; exact absurd h (by decide)) (fun h => by rw [hz] at h; exact absurd h (by decide))
    simp only [List.mem_cons, List.not_mem_nil, or_false] at ha
    rcases ha with rfl | rfl | rfl <;> omega
  · have nz1 : z ≠ "choice" := fun h => by rw [h] at c; exact absurd c (by decide)
    have two : ∀ (H1 : Hp) (hb1 : Bg l H H1), z = "under" ∨ z = "same" → ∀ D : Prop, ((∀ (a : Int) (p : Addr) (H2 : Hp), 1 ≤ a → a ≤ 8 → H p = none → p ≠ l → Bg l H H2 → H2 p = some (.lst [.int a, .int a]) → Q (.ref p) H2) → D) → D := fun H1 hb1 hz D k => k fun a p H2 a1 a8 hp npl g2 fp => by
      refine q p [a, a] H2 hp npl g2 fp (by rcases hz with rfl | rfl <;> rfl) (fun b hb' => ?_) (fun h => by rcases hz with rfl | rfl <;> exact absurd h (by decide)) (fun h => by rcases hz with rfl | rfl <;> exact absurd h (by decide))
      simp only [List.mem_cons, List.not_mem_nil, or_false] at hb'
      rcases hb' with rfl | rfl <;> exact ⟨a1, a8⟩
    refine ⟨_, rfl, rfl, _, rfl, ?_⟩
    refine ite2 (fun c2 => ?_) (fun c2 => ?_)
    · have hz : z = "under" := by have := of_decide_eq_true c2; injection this
      refine iteT ?_
      refine ⟨_, rfl, l, 8, rfl, hb, by decide, by decide, fun d H1 d0 d1 hb1 => ?_⟩
      refine ⟨_, _, rfl, rfl, (by show 1 ≤ sizeLine; decide), fun p1 hp1 => ?_⟩
      have g1 := hb1.trans (Bg.new hb1.2 hp1 (.lst [.int (1 + d)]))
      have f1 := upd_same (H := H1) (a := p1) (o := .lst [.int (1 + d)])
      refine ⟨p1, _, _, rfl, rfl, f1, by decide, by decide, (by show 2 ≤ sizeLine; decide), fun p hp => ?_⟩
      have npl : p ≠ l := g1.2.ne hp
      have hpH : H p = none := by
        cases hh : H p with
        | none => rfl
        | some o => have := g1.1 p o npl hh; rw [this] at hp; cases hp
      exact two H1 hb1 (.inl hz) _ fun k => k (1 + d) p _ (by omega) (by omega) hpH npl (g1.trans (Bg.new g1.2 hp _)) upd_same
    · have nz2 : z ≠ "under" := fun h => by rw [h] at c2; exact absurd c2 (by decide)
      refine ⟨_, rfl, rfl, _, rfl, ?_⟩
      refine ite2 (fun c3 => ?_) (fun c3 => ?_)
      · have hz : z = "same" := by have := of_decide_eq_true c3; injection this
        refine ⟨_, rfl, l, 8, rfl, hb, by decide, by decide, fun d H1 d0 d1 hb1 => ?_⟩
        refine ⟨_, _, rfl, rfl, (by show 1 ≤ sizeLine; decide), fun p1 hp1 => ?_⟩
        have g1 := hb1.trans (Bg.new hb1.2 hp1 (.lst [.int (1 + d)]))
        have f1 := upd_same (H := H1) (a := p1) (o := .lst [.int (1 + d)])
        refine ⟨p1, _, _, rfl, rfl, f1, by decide, by decide, (by show 2 ≤ sizeLine; decide), fun p hp => ?_⟩
        have npl : p ≠ l := g1.2.ne hp
        have hpH : H p = none := by
          cases hh : H p with
          | none => rfl
          | some o => have := g1.1 p o npl hh; rw [this] at hp; cases hp
        exact two H1 hb1 (.inr hz) _ fun k => k (1 + d) p _ (by omega) (by omega) hpH npl (g1.trans (Bg.new g1.2 hp _)) upd_same
      · have nz3 : z ≠ "same" := fun h => by rw [h] at c3; exact absurd c3 (by decide)
        refine ⟨_, rfl, rfl, _, rfl, ?_⟩
        refine ite2 (fun c4 => ?_) (fun c4 => ?_)
        · have hz : z = "join" := by have := of_decide_eq_true c4; injection this
          refine ⟨_, rfl, _, rfl, _, _, rfl, rfl, _, _, rfl, l, _, rfl, hb, (by split <;> omega), (by split <;> exact Int.lt_trans (show _ < (100 : Int) by omega) (by decide)), fun d H1 d0 d1 hb1 => ?_⟩
          refine ⟨_, _, rfl, rfl, ?_⟩
          refine ⟨_, rfl, _, rfl, _, rfl, _, _, rfl, rfl, _, _, rfl, (by show 2 ≤ sizeLine; decide), fun p hp => ?_⟩
          have npl : p ≠ l := hb1.2.ne hp
          have hpH : H p = none := by
            cases hh : H p with
            | none => rfl
            | some o => rw [hb1.1 p o npl hh] at hp; cases hp
          refine q p [1 + d, if w' - (1 + d) > 1 then w' - (1 + d) else 1] _ hpH npl (hb1.trans (Bg.new hb1.2 hp _)) upd_same (by rw [hz]; rfl) (fun a ha => ?_) (fun h => by rw [hz] at h; exact absurd h (by decide)) (fun h => by rw [hz] at h; exact absurd h (by decide))
          simp only [List.mem_cons, List.not_mem_nil, or_false] at ha
          rcases ha with rfl | rfl
          · split at d1 <;> omega
          · split <;> omega
        · have nz4 : z ≠ "join" := fun h => by rw [h] at c4; exact absurd c4 (by decide)
          refine ⟨_, rfl, rfl, _, rfl, ?_⟩
          refine ite2 (fun c5 => ?_) (fun c5 => ?_)
          · have hz : z = "cut" := by have := of_decide_eq_true c5; injection this
            refine ⟨_, rfl, _, rfl, _, rfl, _, _, rfl, rfl, l, _, rfl, hb, (by show (0 : Int) < 9 - w'; omega), (by show (9 - w' : Int) < bigB; exact Int.lt_trans (show (9 - w' : Int) < 100 by omega) (by decide)), fun d H1 d0 d1 hb1 => ?_⟩
            have d2 : d < 9 - w' := d1
            refine ⟨_, _, rfl, rfl, (by show 1 ≤ sizeLine; decide), fun p hp => ?_⟩
            have npl : p ≠ l := hb1.2.ne hp
            have hpH : H p = none := by
              cases hh : H p with
              | none => rfl
              | some o => rw [hb1.1 p o npl hh] at hp; cases hp
            refine q p [w' + d] _ hpH npl (hb1.trans (Bg.new hb1.2 hp _)) upd_same (by rw [hz]; rfl) (fun a ha => ?_) (fun _ a ha => ?_) (fun h => by rw [hz] at h; exact absurd h (by decide))
            · rw [List.mem_singleton.mp ha]; omega
            · rw [List.mem_singleton.mp ha]; omega
          · have nz5 : z ≠ "cut" := fun h => by rw [h] at c5; exact absurd c5 (by decide)
            refine ⟨_, rfl, rfl, _, rfl, ?_⟩
            refine ite2 (fun c6 => ?_) (fun c6 => ?_)
            · have hz : z = "table" := by have := of_decide_eq_true c6; injection this
              refine ⟨_, rfl, l, 4, rfl, hb, by decide, by decide, fun d H1 d0 d1 hb1 => ?_⟩
              refine ⟨_, _, rfl, rfl, (by show 1 ≤ sizeLine; decide), fun p hp => ?_⟩
              have npl : p ≠ l := hb1.2.ne hp
              have hpH : H p = none := by
                cases hh : H p with
                | none => rfl
                | some o => rw [hb1.1 p o npl hh] at hp; cases hp
              refine q p [1 + d] _ hpH npl (hb1.trans (Bg.new hb1.2 hp _)) upd_same (by rw [hz]; rfl) (fun a ha => ?_) (fun h => by rw [hz] at h; exact absurd h (by decide)) (fun _ a ha => ?_)
              · rw [List.mem_singleton.mp ha]; omega
              · rw [List.mem_singleton.mp ha]; omega
            · have nz6 : z ≠ "table" := fun h => by rw [h] at c6; exact absurd c6 (by decide)
              refine ⟨_, rfl, (by show 3 ≤ sizeLine; decide), fun p1 hp1 => ?_⟩
              have g1 := Bg.new hb hp1 (.lst [.str "not", .str "up", .str "down"])
              refine ⟨p1, _, rfl, .inl (SqL.of upd_same), rfl, rfl, _, rfl, ?_⟩
              generalize upd H p1 (.lst [.str "not", .str "up", .str "down"]) = H1 at g1 ⊢
              have fresh : ∀ p, H1 p = none → p ≠ l ∧ H p = none := fun p hp => by
                have npl : p ≠ l := g1.2.ne hp
                refine ⟨npl, ?_⟩
                cases hh : H p with
                | none => rfl
                | some o => rw [g1.1 p o npl hh] at hp; cases hp
              refine ite2 (fun c7 => ?_) (fun c7 => ?_)
              · have hz : z = "not" ∨ z = "up" ∨ z = "down" := inStr3 c7
                refine ⟨_, rfl, (by show 1 ≤ sizeLine; decide), fun p hp => ?_⟩
                refine q p [w'] _ (fresh p hp).2 (fresh p hp).1 (g1.trans (Bg.new g1.2 hp _)) upd_same (by rcases hz with rfl | rfl | rfl <;> rfl) (fun a ha => ?_) (fun h => absurd h nz5) (fun h => absurd h nz6)
                rw [List.mem_singleton.mp ha]; omega
              · refine ⟨_, rfl, _, rfl, (by show 2 ≤ sizeLine; decide), fun p hp => ?_⟩
                have hno : z ≠ "not" ∧ z ≠ "up" ∧ z ≠ "down" := notStr3 (Bool.eq_false_iff.mpr c7)
                refine q p [w', w'] _ (fresh p hp).2 (fresh p hp).1 (g1.trans (Bg.new g1.2 hp _)) upd_same ?_ (fun a ha => ?_) (fun h => absurd h nz5) (fun h => absurd h nz6)
                · unfold wantN
                  rw [if_neg nz1, if_neg (by intro h; rcases h with h | h | h | h | h; exact nz5 h; exact nz6 h; exact hno.1 h; exact hno.2.1 h; exact hno.2.2 h)]
                  rfl
                · simp only [List.mem_cons, List.not_mem_nil, or_false] at ha
                  rcases ha with rfl | rfl <;> omega
theorem ok_L_any (T : Tx w K mg A) (G_L_take : FnOk P w K mg base CX0 1 A.a_L_take A.d_L_take ["_law_bag_here", "_law_many"] sp_L_take) (G_L_rooms : FnOk P w K mg base CX0 2 A.a_L_rooms A.d_L_rooms ["_law_bag_here", "_law_room", "_law_many"] sp_L_rooms) (G_L_leaf : FnOk P w K mg base CX0 2 A.a_L_leaf A.d_L_leaf ["_law_bag_here", "_law_names_here", "_law_widths", "_law_width"] sp_L_leaf) (G_L_wants : FnOk P w K mg base CX0 2 A.a_L_wants A.d_L_wants ["_law_bag_here", "_law_word", "_law_width"] sp_L_wants) (n : Nat) (G_L_any : FnOk P w K mg base CX0 (n + 2) A.a_L_any A.d_L_any ["_law_bag_here", "_law_names_here", "_law_widths", "_law_width", "_law_deep", "_law_room"] (sp_any n)) : FnOk P w K mg base CX0 (n + 3) A.a_L_any A.d_L_any ["_law_bag_here", "_law_names_here", "_law_widths", "_law_width", "_law_deep", "_law_room"] (sp_any (n + 1)) := by
  refine T.F_L_any.ok sc_L_any (fun vs H Q E h => ?_) (fun cdv A' outer s H vs Q E hr h => ?_)
  · obtain ⟨l, nm, wd, zs, kvs, kv, w0, room, rfl, n1, hb, hnm, hz6, nml, hwd, kw, w1, w8, hroom, q⟩ := h
    rfl
  obtain ⟨l, nm, wd, zs, kvs, kv, w0, room, rfl, n1, hb, hnm, hz6, nml, hwd, kw, w1, w8, hroom, q⟩ := h
  conv in (defBody _) => whnf
  simp only [bigL_eq, bigT_eq]
  refine ⟨_, (pss_cons (ps_set (i := 6) sc_L_any.nd rfl (Or.inl rfl) (pe_bigL rfl) (by unfold bigL; rfl))
    (pss_cons (ps_if (pt_cmpR op_eq (pe_call G_L_take (hr.mono (by first | decide | omega)) rfl T.M_L_take T.F_L_take.kp T.B_L_take .nil pass0 (pa_cons (pv 0) (pa_cons pe_int pa_nil))) pe_int (nomark _)) (pss_one (ps_set (i := 3) sc_L_any.nd rfl (Or.inr rfl) (pe_op op_add pe_int (pe_call G_L_take (hr.mono (by first | decide | omega)) rfl T.M_L_take T.F_L_take.kp T.B_L_take .nil pass0 (pa_cons (pv 0) (pa_cons pe_int pa_nil)))))) pss_nil)
    (pss_cons (ps_set (i := 7) sc_L_any.nd rfl (Or.inl rfl) (pe_ix ix_list (pe_op op_cat (pv 6) (pe_lst (pa_consts rfl))) (pe_call G_L_take (hr.mono (by first | decide | omega)) rfl T.M_L_take T.F_L_take.kp T.B_L_take .nil pass0 (pa_cons (pv 0) (pa_cons pe_int pa_nil))) (fun _ _ => rfl)))
    (pss_cons (ps_if (pt_cmpR op_eq (pv 7) pe_str (nomark _)) (pss_one (ps_ret (pe_call G_L_leaf (hr.mono (by first | decide | omega)) rfl T.M_L_leaf T.F_L_leaf.kp T.B_L_leaf .nil pass0 (pa_cons (pv 0) (pa_cons (pv 1) (pa_cons (pv 2) (pa_cons (pv 3) pa_nil))))))) pss_nil)
    (pss_cons (ps_set (i := 8) sc_L_any.nd rfl (Or.inl rfl) (pe_call G_L_wants (hr.mono (by first | decide | omega)) rfl T.M_L_wants T.F_L_wants.kp T.B_L_wants .nil pass0 (pa_cons (pv 0) (pa_cons (pv 7) (pa_cons (pv 3) pa_nil)))))
    (pss_cons (ps_if (PW.pt (pw_or (pt_cmpR op_eq (pv 4) pe_int (nomark _)) (pw_or1 (pt_cmpR op_le (pv 5) (pe_callB call_len rfl T.len PySem.boot_len (pa_cons (pv 8) pa_nil)) (nomark _))))) (pss_one (ps_ret (pe_call G_L_leaf (hr.mono (by first | decide | omega)) rfl T.M_L_leaf T.F_L_leaf.kp T.B_L_leaf .nil pass0 (pa_cons (pv 0) (pa_cons (pv 1) (pa_cons (pv 2) (pa_cons (pv 3) pa_nil))))))) pss_nil)
    (pss_cons (ps_set (i := 9) sc_L_any.nd rfl (Or.inl rfl) (pe_tup pa_nil))
    (pss_cons (ps_for PassesOwn.never rfl (pi_zip rfl T.zip (pa_cons (pv 8) (pa_cons (pe_call G_L_rooms (hr.mono (by first | decide | omega)) rfl T.M_L_rooms T.F_L_rooms.kp T.B_L_rooms .nil pass0 (pa_cons (pv 0) (pa_cons (pe_op op_sub (pv 5) pe_int) (pa_cons (pe_callB call_len rfl T.len PySem.boot_len (pa_cons (pv 8) pa_nil)) pa_nil)))) pa_nil))) (pg_tup rfl (pgs_cons (pg_name (i := 10) sc_L_any.nd rfl (Or.inl rfl)) (pgs_cons (pg_name (i := 11) sc_L_any.nd rfl (Or.inl rfl)) pgs_nil)))
        (pss_one (ps_set (i := 9) sc_L_any.nd rfl (Or.inl rfl) (pe_op op_catE (pv 9) (pe_tup (pa_cons (pe_call G_L_any (hr.mono (by first | decide | omega)) rfl T.M_L_any T.F_L_any.kp T.B_L_any .nil pass0 (pa_cons (pv 0) (pa_cons (pv 1) (pa_cons (pv 2) (pa_cons (pv 10) (pa_cons (pe_op op_sub (pv 4) pe_int) (pa_cons (pv 11) pa_nil))))))) pa_nil))))))
    (pss_cons (ps_if (pt_cmpR op_eq (pv 7) pe_str (nomark _)) (pss_cons (ps_set (i := 12) sc_L_any.nd rfl (Or.inl rfl) (pe_call G_L_take (hr.mono (by first | decide | omega)) rfl T.M_L_take T.F_L_take.kp T.B_L_take .nil pass0 (pa_cons (pv 0) (pa_cons (pe_op op_add pe_int (pe_callB (call_max2 rfl) rfl T.max PyProof.Rows.boot_max (pa_cons pe_int (pa_cons (pe_callB (call_min2 rfl) rfl T.min PyProof.Rows.boot_min (pa_cons pe_int (pa_cons (pe_op op_sub (pe_ix ix_list (pv 8) pe_int (fun _ _ => rfl)) (pv 3)) pa_nil))) pa_nil)))) pa_nil))))
    (pss_one (ps_ret (pe_op op_catE (pe_tup (pa_cons pe_str (pa_cons (pe_ix ix_list (pe_lst (pa_cons (pv 12) (pa_cons (pe_call G_L_take (hr.mono (by first | decide | omega)) rfl T.M_L_take T.F_L_take.kp T.B_L_take .nil pass0 (pa_cons (pv 0) (pa_cons pe_int pa_nil))) pa_nil))) (pe_callTy call_int1 rfl T.int PyProof.Rows.boot_int (pa_cons (pe_cmpR op_eq (pe_call G_L_take (hr.mono (by first | decide | omega)) rfl T.M_L_take T.F_L_take.kp T.B_L_take .nil pass0 (pa_cons (pv 0) (pa_cons pe_int pa_nil))) pe_int (nomark _)) pa_nil)) (fun _ _ => rfl)) (pa_cons (pv 3) pa_nil)))) (pv 9))))) pss_nil)
    (pss_cons (ps_if (pt_cmpR op_eq (pv 7) pe_str (nomark _)) (pss_cons (ps_set (i := 13) sc_L_any.nd rfl (Or.inl rfl) (pe_ix ix_list (pe_lst (pa_cons (pe_op op_shl pe_int (pe_ix ix_list (pv 8) pe_int (fun _ _ => rfl))) (pa_cons (pe_op op_shl pe_int (pe_call G_L_take (hr.mono (by first | decide | omega)) rfl T.M_L_take T.F_L_take.kp T.B_L_take .nil pass0 (pa_cons (pv 0) (pa_cons pe_int pa_nil)))) pa_nil))) (pe_callTy call_int1 rfl T.int PyProof.Rows.boot_int (pa_cons (pe_cmpR op_eq (pe_call G_L_take (hr.mono (by first | decide | omega)) rfl T.M_L_take T.F_L_take.kp T.B_L_take .nil pass0 (pa_cons (pv 0) (pa_cons pe_int pa_nil))) pe_int (nomark _)) pa_nil)) (fun _ _ => rfl)))
    (pss_one (ps_ret (pe_op op_catE (pe_tup (pa_cons pe_str (pa_cons (pv 3) (pa_cons (pe_callTy call_tuple_of rfl T.tuple PyProof.Rows.boot_tuple (pa_cons (pe_comp [0, 3] (fun _ _ h => h) rfl (pi_range1 rfl T.range (pa_cons (pv 13) pa_nil)) (fun _ _ _ _ => pts_nil) (fun _ _ _ _ => (pe_call G_L_take (hr.mono (by first | decide | omega)) rfl T.M_L_take T.F_L_take.kp T.B_L_take .nil pass0 (pa_cons (pv 1) (pa_cons (pe_op op_shl pe_int (pv 2)) pa_nil)))) rfl (show ∀ j ∈ ([0, 3] : List Nat), j < 14 by decide) (show (["_law_k", "_law_bag_here", "_law_width"] : List Str).Nodup by decide +kernel)) pa_nil)) pa_nil)))) (pv 9))))) pss_nil)
    (pss_cons (ps_if (PW.pt (pw_or (pt_cmpR op_eq (pv 7) pe_str (nomark _)) (pw_or1 (pt_cmpR op_eq (pv 7) pe_str (nomark _))))) (pss_one (ps_ret (pe_op op_catE (pe_tup (pa_cons (pv 7) (pa_cons (pe_call G_L_take (hr.mono (by first | decide | omega)) rfl T.M_L_take T.F_L_take.kp T.B_L_take .nil pass0 (pa_cons (pv 0) (pa_cons pe_int pa_nil))) pa_nil))) (pv 9)))) pss_nil)
    (pss_one (ps_ret (pe_op op_catE (pe_tup (pa_cons (pv 7) pa_nil)) (pv 9))))))))))))))), ?_⟩
  have nwd : wd ≠ l := fun e => by obtain ⟨b0, b1, e2, _⟩ := hb; rw [e, e2] at hwd; cases hwd
  refine ⟨(by show 14 ≤ sizeLine; decide), fun pw hpw => ?_⟩
  have nw : pw ≠ l := hb.ne hpw
  show tSeq _ _ _ _ (upd H pw (.lst (wordL.map V.str)))
  have b1 := Bg.new hb hpw (.lst (wordL.map V.str))
  have hw1 : (upd H pw (.lst (wordL.map V.str))) pw = some (.lst (wordL.map V.str)) := upd_same
  generalize upd H pw (.lst (wordL.map V.str)) = H1 at b1 hw1 ⊢
  refine ⟨_, rfl, l, 8, rfl, b1.2, by decide, by decide, fun d H2 d0 d1 hb2 => ?_⟩
  have b2 := b1.trans hb2
  have hw2 := hb2.1 pw _ nw hw1
  refine ⟨rfl, _, rfl, ?_⟩
  refine ite2 (fun c => ?_) (fun c => ?_)
  · refine ⟨_, rfl, l, 8, rfl, b2.2, by decide, by decide, fun e H3 e0 e1 hb3 => ?_⟩
    have bb := b2.trans hb3
    have hww := hb3.1 pw _ nw hw2
    refine ⟨_, _, rfl, rfl, ?_⟩
    have e18 : 1 ≤ 1 + e := by omega
    have e88 : 1 + e ≤ 8 := by omega
    show tSeq _ _ _ [some (.ref l), some (.ref nm), some (.ref wd), some (.int (1 + e)), some (.int ((n + 1 : Nat) : Int)), some (.int room), some (.ref pw), none, none, none, none, none, none, none] H3
    generalize 1 + e = we at e18 e88 ⊢
    refine ⟨_, rfl, (by show 3 ≤ sizeLine; decide), fun p3 hp3 => ?_⟩
    have b3 := bb.trans (Bg.new bb.2 hp3 (.lst [.str "", .str "", .str ""]))
    have hw3 := (same_new hp3 (.lst [.str "", .str "", .str ""])) _ _ hww
    have f3 := upd_same (H := H3) (a := p3) (o := .lst [.str "", .str "", .str ""])
    generalize upd H3 p3 (.lst [.str "", .str "", .str ""]) = H3 at b3 hw3 f3 ⊢
    refine ⟨pw, p3, _, _, rfl, rfl, hw3, f3, (by show 17 ≤ sizeLine; decide), fun p4 hp4 => ?_⟩
    have n4 : p4 ≠ l := b3.2.ne hp4
    have b4 := b3.trans (Bg.new b3.2 hp4 (.lst (wordsE.map V.str)))
    have f4 := upd_same (H := H3) (a := p4) (o := .lst (wordsE.map V.str))
    refine ⟨_, rfl, l, 17, rfl, b4.2, by decide, by decide, fun d H5 d0 d1 hb5 => ?_⟩
    have b5 := b4.trans hb5
    have f5 := hb5.1 _ _ n4 f4
    obtain ⟨k, rfl⟩ := Int.eq_ofNat_of_zero_le d0
    have hk17 : k < 17 := by omega
    refine ⟨p4, _, _, _, rfl, rfl, SqL.of f5, (show atI (wordsE.map V.str) ((k : Nat) : Int) = some (.str (wordsE.getD k "")) from atI_nat (wordsE_at hk17)), ?_⟩
    have wz := wordsE_in k hk17
    generalize wordsE.getD k "" = z at wz ⊢
    clear f5 f4 f3 hw3 b4 b3
    refine ⟨_, rfl, rfl, _, rfl, ?_⟩
    refine ite2 (fun cz => ?_) (fun cz => ?_)
    · exact ⟨_, rfl, _, rfl, _, rfl, _, rfl, l, nm, wd, zs, kvs, kv, we, rfl, b5.2, b5.1 _ _ nml hnm, hz6, nml, b5.1 _ _ nwd hwd, kw, e18, e88, fun s v H' ws hD g => q s v H' (ws.up (by omega)) hD (b5.trans g)⟩
    have hz0 : z ≠ "" := fun h => by rw [h] at cz; exact absurd cz (by decide)
    have wz := wz hz0
    refine ⟨_, rfl, _, rfl, _, rfl, l, z, we, rfl, b5.2, e18, e88, fun pa ws H6 hpa npa g6 fpa hlen hws hcut htab => ?_⟩
    have b6 := b5.trans g6
    by_cases hA : n = 0
    · refine ⟨_, rfl, rfl, _, rfl, ite_t (decide_eq_true (by rw [hA]; rfl)) ?_⟩
      refine iteT ?_
      exact ⟨_, rfl, _, rfl, _, rfl, _, rfl, l, nm, wd, zs, kvs, kv, we, rfl, b6.2, b6.1 _ _ nml hnm, hz6, nml, b6.1 _ _ nwd hwd, kw, e18, e88, fun s v H' ws hD g => q s v H' (ws.up (by omega)) hD (b6.trans g)⟩
    refine ⟨_, rfl, rfl, _, rfl, ite_f (decide_eq_false fun h => by injection h with h; omega) ?_⟩
    by_cases hC : room ≤ (ws.length : Int)
    · refine ⟨_, rfl, _, rfl, _, _, rfl, .inl ⟨_, SqL.of fpa, rfl⟩, _, _, rfl, rfl, _, rfl, ite_t (decide_eq_true (by rw [List.length_map]; exact hC)) ?_⟩
      exact ⟨_, rfl, _, rfl, _, rfl, _, rfl, l, nm, wd, zs, kvs, kv, we, rfl, b6.2, b6.1 _ _ nml hnm, hz6, nml, b6.1 _ _ nwd hwd, kw, e18, e88, fun s v H' ws hD g => q s v H' (ws.up (by omega)) hD (b6.trans g)⟩
    refine ⟨_, rfl, _, rfl, _, _, rfl, .inl ⟨_, SqL.of fpa, rfl⟩, _, _, rfl, rfl, _, rfl, ite_f (decide_eq_false (by rw [List.length_map]; exact hC)) ?_⟩
    have hw3' : 1 ≤ ws.length ∧ ws.length ≤ 3 := by rw [hlen]; exact wantN_le z
    refine ⟨(by show 0 ≤ sizeLine; decide), fun p0 hp0 => ?_⟩
    have n0 : p0 ≠ l := b6.2.ne hp0
    have b7 := b6.trans (Bg.new b6.2 hp0 (.tup []))
    have fpa7 := (same_new hp0 (.tup [])) _ _ fpa
    have f07 := upd_same (H := H6) (a := p0) (o := .tup [])
    generalize upd H6 p0 (.tup []) = H7 at b7 fpa7 f07 ⊢
    refine ⟨_, rfl, _, rfl, _, rfl, _, _, rfl, rfl, _, rfl, _, _, rfl, .inl ⟨_, SqL.of fpa7, rfl⟩, l, room - 1, (ws.length : Int), (by rw [List.length_map]; rfl), b7.2, by omega, by omega, by omega, by omega, fun pr rs H8 hpr npr g8 fpr hrl hrb => ?_⟩
    have b8 := b7.trans g8
    have fpa8 := g8.1 _ _ npa fpa7
    have f08 := g8.1 _ _ n0 f07
    refine ⟨pa, pr, rfl, ⟨_, SqL.of fpa8⟩, ⟨_, SqL.of fpr⟩, for_zip (xs := ws.map V.int) (ys := rs.map V.int) (fun i σ H' => ∃ (x10 x11 : Option V) (ss : List Say) (pp : Addr) (ps : List V), σ = [some (.ref l), some (.ref nm), some (.ref wd), some (.int we), some (.int ((n + 1 : Nat) : Int)), some (.int room), some (.ref pw), some (.str z), some (.ref pa), some (.ref pp), x10, x11, none, none] ∧ Bg l H H' ∧ H' pa = some (.lst (ws.map V.int)) ∧ H' pr = some (.lst (rs.map V.int)) ∧ H' pp = some (.tup ps) ∧ Dats H' (Say.dats ss) ps ∧ ss.length = i ∧ ∀ s ∈ ss, WS n s) ⟨_, _, [], p0, [], rfl, b8, fpa8, fpr, f08, (by simp only [Say.dats]; exact Dats.nil), rfl, fun _ h => nomatch h⟩ ?_ ?_ ?_ ?_⟩
    · rintro i σ H' ⟨_, _, _, _, _, _, _, h1, h2, _⟩
      exact ⟨SqL.of h1, SqL.of h2⟩
    · rw [List.length_map, List.length_map]; omega
    · rintro i x y pt σ H' hx hy ⟨x10, x11, ss, pp, ps, rfl, g, h1, h2, h3, h4, h5, h6⟩ hpt
      rw [List.getElem?_map] at hx hy
      obtain ⟨a, ha, rfl⟩ := Option.map_eq_some_iff.mp hx
      obtain ⟨m, hm, rfl⟩ := Option.map_eq_some_iff.mp hy
      have ha8 := hws a (List.mem_of_getElem? ha)
      have hm8 := hrb m (List.mem_of_getElem? hm)
      have hi3 : i < ws.length := (List.getElem?_eq_some_iff.mp ha).1
      refine ⟨pt, _, rfl, SqT.of upd_same, rfl, _, _, rfl, _, _, rfl, rfl, ?_⟩
      have tt := same_new hpt (.tup [.int a, .int m])
      have gt := g.trans (g.2.same tt)
      generalize upd H' pt (.tup [.int a, .int m]) = Ha at tt gt ⊢
      refine ⟨_, rfl, _, rfl, _, rfl, _, rfl, _, rfl, _, rfl, _, _, rfl, rfl, _, rfl, l, nm, wd, zs, kvs, kv, a, m, ?_, by omega, gt.2, gt.1 _ _ nml hnm, hz6, nml, gt.1 _ _ nwd hwd, kw, ha8.1, ha8.2, hm8, fun s v Hb ws' hD gb => ?_⟩
      · show [V.ref l, V.ref nm, V.ref wd, V.int a, V.int (((n + 1 : Nat) : Int) - 1), V.int m] = [V.ref l, V.ref nm, V.ref wd, V.int a, V.int n, V.int m]
        rw [show (((n + 1 : Nat) : Int) - 1) = (n : Int) by omega]
      have kt := (KeepT.same tt).trans (Bg.keepT gt.2 gb)
      have g2 := gt.trans gb
      have h1b := gb.1 _ _ npa (tt _ _ h1)
      have h2b := gb.1 _ _ npr (tt _ _ h2)
      have h3b := kt _ _ h3
      have h4b := h4.keepT kt (by rw [dats_eq]; exact noLs_all fun d hd => by obtain ⟨t, ht, rfl⟩ := List.mem_map.mp hd; exact (h6 t ht).noL)
      refine ⟨(by show 1 ≤ sizeLine; decide), fun p1 hp1 => ?_⟩
      have tc := same_new hp1 (.tup [v])
      have fc := upd_same (H := Hb) (a := p1) (o := .tup [v])
      generalize upd Hb p1 (.tup [v]) = Hc at tc fc ⊢
      have hpl := h4b.length
      rw [dats_eq, List.length_map] at hpl
      refine ⟨pp, p1, _, _, rfl, rfl, tc _ _ h3b, fc, small (by simp only [List.length_singleton]; omega), fun p' Hd td fd => ?_⟩
      have te := tc.trans td
      refine ⟨_, _, ss ++ [s], p', _, rfl, g2.trans (g2.2.same te), te _ _ h1b, te _ _ h2b, fd, ?_, by rw [List.length_append, h5]; rfl, fun t ht => ?_⟩
      · have e7 : Say.dats (ss ++ [s]) = Say.dats ss ++ [s.dat] := by rw [dats_eq, dats_eq, List.map_append]; rfl
        rw [e7]
        exact (h4b.same te).append (.cons (hD.same te) .nil)
      · rcases List.mem_append.mp ht with h | h
        · exact h6 t h
        · rw [List.mem_singleton.mp h]; exact ws'
    · rintro σ H' ⟨x10, x11, ss, pp, ps, rfl, g, h1, h2, h3, h4, h5, h6⟩
      rw [List.length_map] at h5
      have nos : noLs (Say.dats ss) = true := by rw [dats_eq]; exact noLs_all fun d hd => by obtain ⟨t, ht, rfl⟩ := List.mem_map.mp hd; exact (h6 t ht).noL
      have hpl := h4.length
      rw [dats_eq, List.length_map] at hpl
      have fin : ∀ (hd : List PyData) (hv : List V) (p8 : Addr) (H9 : Hp), KeepT H' H9 → Bg l H H9 → H9 p8 = some (.tup (.str z :: hv)) → Dats H9 hd hv → Nd z hd ws.length → hv.length ≤ 2 → rCatE (.ref p8) (.ref pp) H9 Q := fun hd hv p8 H9 kt g9 e8 hdv nd hv2 =>
        ⟨p8, pp, _, _, rfl, rfl, e8, kt _ _ h3, small (by rw [List.length_cons]; omega), fun p' H10 sm hp' => q (.node z hd ss) _ _ ⟨by rw [h5]; exact nd, h6⟩ (by simp only [Say.dat]; exact Dat.tup hp' (.cons (Dat.str _) ((hdv.same sm).append ((h4.keepT kt nos).same sm)))) (g9.trans (g9.2.same sm))⟩
      refine ⟨_, rfl, rfl, _, rfl, ?_⟩
      by_cases zc : z = "cut"
      · refine ite_t (by rw [zc]; decide) ?_
        have l1 : ws.length = 1 := by rw [hlen, zc]; rfl
        obtain ⟨a0, hws0⟩ : ∃ a0, ws = [a0] := by
          match ws, l1 with
          | [x], _ => exact ⟨x, rfl⟩
        subst hws0
        have ha0 := hws a0 List.mem_cons_self
        refine ⟨_, rfl, _, rfl, pa, _, _, _, rfl, rfl, SqL.of h1, rfl, _, rfl, _, _, rfl, rfl, _, _, rfl, _, _, rfl, _, _, rfl, rfl, l, _, rfl, g.2, ?_, ?_, fun f H9 f0 f1 hb9 => ?_⟩
        · split <;> (try split) <;> omega
        · refine Int.lt_trans (b := 100) ?_ (by decide)
          split <;> (try split) <;> omega
        have g9 := g.trans hb9
        have k9 := Bg.keepT g.2 hb9
        refine ⟨_, rfl, _, rfl, l, 8, rfl, g9.2, by decide, by decide, fun e8 H10 _ _ hb10 => ?_⟩
        have g10 := g9.trans hb10
        have k10 := k9.trans (Bg.keepT g9.2 hb10)
        refine ⟨(by show 2 ≤ sizeLine; decide), fun p9 hp9 => ?_⟩
        have n9 : p9 ≠ l := g10.2.ne hp9
        have g11 := g10.trans (Bg.new g10.2 hp9 (.lst [.int f, .int e8]))
        have k11 := k10.trans (KeepT.same (same_new hp9 (.lst [.int f, .int e8])))
        have f11 := upd_same (H := H10) (a := p9) (o := .lst [.int f, .int e8])
        generalize upd H10 p9 (.lst [.int f, .int e8]) = H11 at g11 k11 f11 ⊢
        refine ⟨_, rfl, l, 6, rfl, g11.2, by decide, by decide, fun e6 H12 _ _ hb12 => ?_⟩
        have g12 := g11.trans hb12
        have k12 := k11.trans (Bg.keepT g11.2 hb12)
        have f12 := hb12.1 _ _ n9 f11
        obtain ⟨ff, hff⟩ : ∃ ff : Int, atI [V.int f, V.int e8] (if decide (V.int e6 = V.int 5) = true then 1 else 0) = some (.int ff) := by
          split
          · exact ⟨_, rfl⟩
          · exact ⟨_, rfl⟩
        refine ⟨rfl, .inr ⟨_, rfl, p9, _, _, _, rfl, rfl, SqL.of f12, hff, _, rfl, (by show 3 ≤ sizeLine; decide), fun p8 hp8 => ?_⟩⟩
        rw [← zc]
        exact ⟨_, rfl, fin [.int ff, .int we] [.int ff, .int we] p8 _ (k12.trans (KeepT.same (same_new hp8 _))) (g12.trans (Bg.new g12.2 hp8 _)) upd_same (.cons (Dat.int _) (.cons (Dat.int _) .nil)) (by rw [zc]; exact Nd.cut ff we ⟨e18, e88⟩) (by simp)⟩
      refine ite_f (decide_eq_false fun h => zc (by injection h)) ?_
      refine ⟨_, rfl, rfl, _, rfl, ?_⟩
      by_cases zt : z = "table"
      · refine ite_t (by rw [zt]; decide) ?_
        have l1 : ws.length = 1 := by rw [hlen, zt]; rfl
        obtain ⟨a0, hws0⟩ : ∃ a0, ws = [a0] := by
          match ws, l1 with
          | [x], _ => exact ⟨x, rfl⟩
        subst hws0
        have ha0 := hws a0 List.mem_cons_self
        refine ⟨_, rfl, pa, _, _, _, rfl, rfl, SqL.of h1, rfl, _, _, rfl, rfl, ⟨by omega, by omega, by decide⟩, _, rfl, l, 4, rfl, g.2, by decide, by decide, fun e4 H9 e40 e41 hb9 => ?_⟩
        have g9 := g.trans hb9
        have k9 := Bg.keepT g.2 hb9
        refine ⟨_, _, rfl, rfl, ⟨by omega, by omega, by decide⟩, (by show 2 ≤ sizeLine; decide), fun p9 hp9 => ?_⟩
        have n9 : p9 ≠ l := hb9.2.ne hp9
        have g10 := g9.trans (Bg.new g9.2 hp9 (.lst [.int (1 * 2 ^ a0.toNat), .int (2 * 2 ^ e4.toNat)]))
        have k10 := k9.trans (KeepT.same (same_new hp9 (.lst [.int (1 * 2 ^ a0.toNat), .int (2 * 2 ^ e4.toNat)])))
        have f10 := upd_same (H := H9) (a := p9) (o := .lst [.int (1 * 2 ^ a0.toNat), .int (2 * 2 ^ e4.toNat)])
        refine ⟨_, rfl, l, 6, rfl, g10.2, by decide, by decide, fun e6 H11 _ _ hb11 => ?_⟩
        have g11 := g10.trans hb11
        have k11 := k10.trans (Bg.keepT g10.2 hb11)
        have f11 := hb11.1 _ _ n9 f10
        obtain ⟨mm, hmm, mm2, mm1000⟩ : ∃ mm : Int, atI [V.int (1 * 2 ^ a0.toNat), V.int (2 * 2 ^ e4.toNat)] (if decide (V.int e6 = V.int 5) = true then 1 else 0) = some (.int mm) ∧ 2 ≤ mm ∧ mm ≤ 1000 := by
          have q1 : (2 : Nat) ^ 1 ≤ 2 ^ a0.toNat := Nat.pow_le_pow_right (by decide) (by omega)
          have q2 : (2 : Nat) ^ a0.toNat ≤ 2 ^ 8 := Nat.pow_le_pow_right (by decide) (by omega)
          have q3 : (2 : Nat) ^ 0 ≤ 2 ^ e4.toNat := Nat.pow_le_pow_right (by decide) (by omega)
          have q4 : (2 : Nat) ^ e4.toNat ≤ 2 ^ 3 := Nat.pow_le_pow_right (by decide) (by omega)
          rw [cast_pow a0.toNat, cast_pow e4.toNat]
          generalize (2 : Nat) ^ a0.toNat = A0 at q1 q2
          generalize (2 : Nat) ^ e4.toNat = A1 at q3 q4
          split
          · exact ⟨_, rfl, by omega, by omega⟩
          · exact ⟨_, rfl, by omega, by omega⟩
        refine ⟨rfl, .inr ⟨_, rfl, p9, _, _, _, rfl, rfl, SqL.of f11, hmm, ?_⟩⟩
        have hpow := pow_pos2 (we).toNat
        have hpow2 := pow_le2 (n := (we).toNat) (by omega)
        refine ⟨_, rfl, _, rfl, _, rfl, by omega, by omega, comp_range (lo := 0) (fun i ys H'' => Bg l H11 H'' ∧ ∃ ns : List Int, ys = ns.map V.int ∧ ns.length = i) ⟨Bg.refl hb11.2, [], rfl, rfl⟩ ?_ ?_ ?_⟩
        · rintro i ys H'' hi ⟨_, ns, rfl, hl⟩
          rw [List.length_map]
          exact smallL (by omega)
        · rintro i ys H'' hi ⟨gg, ns, rfl, hl⟩
          unfold tYes
          refine iteT ⟨_, rfl, _, rfl, _, _, rfl, rfl, ⟨by omega, by omega, by decide⟩, l, _, rfl, gg.2, (by rw [Int.one_mul]; exact hpow), (by rw [Int.one_mul]; exact Int.lt_of_le_of_lt hpow2 (by decide)), fun d9 H13 _ _ hb13 => ?_⟩
          exact ⟨gg.trans hb13, ns ++ [d9], by rw [List.map_append]; rfl, by rw [List.length_append, hl]; rfl⟩
        · rintro ys H'' ⟨gg, ns, rfl, hl⟩ pl hpl
          have hns2 : 2 ≤ ns.length := by omega
          obtain ⟨n0, nr, rfl⟩ : ∃ n0 nr, ns = n0 :: nr := by
            match ns, hns2 with
            | x :: r, _ => exact ⟨x, r, rfl⟩
          have g13 := (g11.trans gg).trans (Bg.new gg.2 hpl (.lst ((n0 :: nr).map V.int)))
          have k13 := (k11.trans (Bg.keepT hb11.2 gg)).trans (KeepT.same (same_new hpl (.lst ((n0 :: nr).map V.int))))
          have f13 := upd_same (H := H'') (a := pl) (o := .lst ((n0 :: nr).map V.int))
          generalize upd H'' pl (.lst ((n0 :: nr).map V.int)) = H13 at g13 k13 f13 ⊢
          refine ⟨pl, _, rfl, .inl ⟨SqL.of f13, fun pt hpt => ?_⟩⟩
          have g14 := g13.trans (Bg.new g13.2 hpt (.tup ((n0 :: nr).map V.int)))
          have k14 := k13.trans (KeepT.same (same_new hpt (.tup ((n0 :: nr).map V.int))))
          have f14 := upd_same (H := H13) (a := pt) (o := .tup ((n0 :: nr).map V.int))
          generalize upd H13 pt (.tup ((n0 :: nr).map V.int)) = H14 at g14 k14 f14 ⊢
          refine ⟨(by show 3 ≤ sizeLine; decide), fun p8 hp8 => ?_⟩
          rw [← zt]
          exact ⟨_, rfl, fin [.int we, .tuple ((n0 :: nr).map PyData.int)] [.int we, .ref pt] p8 _ (k14.trans (KeepT.same (same_new hp8 _))) (g14.trans (Bg.new g14.2 hp8 _)) upd_same (.cons (Dat.int _) (.cons (Dat.tup ((same_new hp8 _) _ _ f14) (Dats.ints _)) .nil)) (by rw [zt]; exact Nd.table we n0 nr ⟨e18, e88⟩) (by simp)⟩
      refine ite_f (decide_eq_false fun h => zt (by injection h)) ?_
      have shifts : (z = "up" ∨ z = "down") → ∀ (e9 : Int) (H9 : Hp), Bg l H' H9 → ∀ p8, H9 p8 = none → rCatE (.ref p8) (.ref pp) (upd H9 p8 (.tup [.str z, .int e9])) Q := fun hz e9 H9 hb9 p8 hp8 => by
        have l1 : ws.length = 1 := by rcases hz with e | e <;> (rw [hlen, e]; rfl)
        refine fin [.int e9] [.int e9] p8 _ ((Bg.keepT g.2 hb9).trans (KeepT.same (same_new hp8 _))) ((g.trans hb9).trans (Bg.new hb9.2 hp8 _)) upd_same (.cons (Dat.int _) .nil) ?_ (by simp)
        rw [l1]
        rcases hz with e | e
        · rw [e]; exact Nd.up e9
        · rw [e]; exact Nd.down e9
      refine ⟨_, rfl, rfl, _, rfl, ?_⟩
      by_cases zu : z = "up"
      · refine ite_t (by rw [zu]; decide) (iteT ?_)
        refine ⟨_, rfl, _, rfl, l, 9, rfl, g.2, by decide, by decide, fun e9 H9 _ _ hb9 => ⟨(by show 2 ≤ sizeLine; decide), fun p8 hp8 => ?_⟩⟩
        exact ⟨_, rfl, shifts (.inl zu) e9 H9 hb9 p8 hp8⟩
      refine ite_f (decide_eq_false fun h => zu (by injection h)) ⟨_, rfl, rfl, _, rfl, ?_⟩
      by_cases zd : z = "down"
      · refine ite_t (by rw [zd]; decide) ?_
        refine ⟨_, rfl, _, rfl, l, 9, rfl, g.2, by decide, by decide, fun e9 H9 _ _ hb9 => ⟨(by show 2 ≤ sizeLine; decide), fun p8 hp8 => ?_⟩⟩
        exact ⟨_, rfl, shifts (.inr zd) e9 H9 hb9 p8 hp8⟩
      refine ite_f (decide_eq_false fun h => zd (by injection h)) ?_
      refine ⟨_, rfl, (by show 1 ≤ sizeLine; decide), fun p8 hp8 => ?_⟩
      exact ⟨_, rfl, fin [] [] p8 _ (KeepT.same (same_new hp8 _)) (g.trans (Bg.new g.2 hp8 _)) upd_same .nil (by rw [hlen]; exact nd_rest wz zc zt zu zd) (by simp)⟩
  · refine ⟨_, rfl, (by show 3 ≤ sizeLine; decide), fun p3 hp3 => ?_⟩
    have b3 := b2.trans (Bg.new b2.2 hp3 (.lst [.str "", .str "", .str ""]))
    have hw3 := (same_new hp3 (.lst [.str "", .str "", .str ""])) _ _ hw2
    have f3 := upd_same (H := H2) (a := p3) (o := .lst [.str "", .str "", .str ""])
    generalize upd H2 p3 (.lst [.str "", .str "", .str ""]) = H3 at b3 hw3 f3 ⊢
    refine ⟨pw, p3, _, _, rfl, rfl, hw3, f3, (by show 17 ≤ sizeLine; decide), fun p4 hp4 => ?_⟩
    have n4 : p4 ≠ l := b3.2.ne hp4
    have b4 := b3.trans (Bg.new b3.2 hp4 (.lst (wordsE.map V.str)))
    have f4 := upd_same (H := H3) (a := p4) (o := .lst (wordsE.map V.str))
    refine ⟨_, rfl, l, 17, rfl, b4.2, by decide, by decide, fun d H5 d0 d1 hb5 => ?_⟩
    have b5 := b4.trans hb5
    have f5 := hb5.1 _ _ n4 f4
    obtain ⟨k, rfl⟩ := Int.eq_ofNat_of_zero_le d0
    have hk17 : k < 17 := by omega
    refine ⟨p4, _, _, _, rfl, rfl, SqL.of f5, (show atI (wordsE.map V.str) ((k : Nat) : Int) = some (.str (wordsE.getD k "")) from atI_nat (wordsE_at hk17)), ?_⟩
    have wz := wordsE_in k hk17
    generalize wordsE.getD k "" = z at wz ⊢
    clear f5 f4 f3 hw3 b4 b3
    refine ⟨_, rfl, rfl, _, rfl, ?_⟩
    refine ite2 (fun cz => ?_) (fun cz => ?_)
    · exact ⟨_, rfl, _, rfl, _, rfl, _, rfl, l, nm, wd, zs, kvs, kv, w0, rfl, b5.2, b5.1 _ _ nml hnm, hz6, nml, b5.1 _ _ nwd hwd, kw, w1, w8, fun s v H' ws hD g => q s v H' (ws.up (by omega)) hD (b5.trans g)⟩
    have hz0 : z ≠ "" := fun h => by rw [h] at cz; exact absurd cz (by decide)
    have wz := wz hz0
    refine ⟨_, rfl, _, rfl, _, rfl, l, z, w0, rfl, b5.2, w1, w8, fun pa ws H6 hpa npa g6 fpa hlen hws hcut htab => ?_⟩
    have b6 := b5.trans g6
    by_cases hA : n = 0
    · refine ⟨_, rfl, rfl, _, rfl, ite_t (decide_eq_true (by rw [hA]; rfl)) ?_⟩
      refine iteT ?_
      exact ⟨_, rfl, _, rfl, _, rfl, _, rfl, l, nm, wd, zs, kvs, kv, w0, rfl, b6.2, b6.1 _ _ nml hnm, hz6, nml, b6.1 _ _ nwd hwd, kw, w1, w8, fun s v H' ws hD g => q s v H' (ws.up (by omega)) hD (b6.trans g)⟩
    refine ⟨_, rfl, rfl, _, rfl, ite_f (decide_eq_false fun h => by injection h with h; omega) ?_⟩
    by_cases hC : room ≤ (ws.length : Int)
    · refine ⟨_, rfl, _, rfl, _, _, rfl, .inl ⟨_, SqL.of fpa, rfl⟩, _, _, rfl, rfl, _, rfl, ite_t (decide_eq_true (by rw [List.length_map]; exact hC)) ?_⟩
      exact ⟨_, rfl, _, rfl, _, rfl, _, rfl, l, nm, wd, zs, kvs, kv, w0, rfl, b6.2, b6.1 _ _ nml hnm, hz6, nml, b6.1 _ _ nwd hwd, kw, w1, w8, fun s v H' ws hD g => q s v H' (ws.up (by omega)) hD (b6.trans g)⟩
    refine ⟨_, rfl, _, rfl, _, _, rfl, .inl ⟨_, SqL.of fpa, rfl⟩, _, _, rfl, rfl, _, rfl, ite_f (decide_eq_false (by rw [List.length_map]; exact hC)) ?_⟩
    have hw3' : 1 ≤ ws.length ∧ ws.length ≤ 3 := by rw [hlen]; exact wantN_le z
    refine ⟨(by show 0 ≤ sizeLine; decide), fun p0 hp0 => ?_⟩
    have n0 : p0 ≠ l := b6.2.ne hp0
    have b7 := b6.trans (Bg.new b6.2 hp0 (.tup []))
    have fpa7 := (same_new hp0 (.tup [])) _ _ fpa
    have f07 := upd_same (H := H6) (a := p0) (o := .tup [])
    generalize upd H6 p0 (.tup []) = H7 at b7 fpa7 f07 ⊢
    refine ⟨_, rfl, _, rfl, _, rfl, _, _, rfl, rfl, _, rfl, _, _, rfl, .inl ⟨_, SqL.of fpa7, rfl⟩, l, room - 1, (ws.length : Int), (by rw [List.length_map]; rfl), b7.2, by omega, by omega, by omega, by omega, fun pr rs H8 hpr npr g8 fpr hrl hrb => ?_⟩
    have b8 := b7.trans g8
    have fpa8 := g8.1 _ _ npa fpa7
    have f08 := g8.1 _ _ n0 f07
    refine ⟨pa, pr, rfl, ⟨_, SqL.of fpa8⟩, ⟨_, SqL.of fpr⟩, for_zip (xs := ws.map V.int) (ys := rs.map V.int) (fun i σ H' => ∃ (x10 x11 : Option V) (ss : List Say) (pp : Addr) (ps : List V), σ = [some (.ref l), some (.ref nm), some (.ref wd), some (.int w0), some (.int ((n + 1 : Nat) : Int)), some (.int room), some (.ref pw), some (.str z), some (.ref pa), some (.ref pp), x10, x11, none, none] ∧ Bg l H H' ∧ H' pa = some (.lst (ws.map V.int)) ∧ H' pr = some (.lst (rs.map V.int)) ∧ H' pp = some (.tup ps) ∧ Dats H' (Say.dats ss) ps ∧ ss.length = i ∧ ∀ s ∈ ss, WS n s) ⟨_, _, [], p0, [], rfl, b8, fpa8, fpr, f08, (by simp only [Say.dats]; exact Dats.nil), rfl, fun _ h => nomatch h⟩ ?_ ?_ ?_ ?_⟩
    · rintro i σ H' ⟨_, _, _, _, _, _, _, h1, h2, _⟩
      exact ⟨SqL.of h1, SqL.of h2⟩
    · rw [List.length_map, List.length_map]; omega
    · rintro i x y pt σ H' hx hy ⟨x10, x11, ss, pp, ps, rfl, g, h1, h2, h3, h4, h5, h6⟩ hpt
      rw [List.getElem?_map] at hx hy
      obtain ⟨a, ha, rfl⟩ := Option.map_eq_some_iff.mp hx
      obtain ⟨m, hm, rfl⟩ := Option.map_eq_some_iff.mp hy
      have ha8 := hws a (List.mem_of_getElem? ha)
      have hm8 := hrb m (List.mem_of_getElem? hm)
      have hi3 : i < ws.length := (List.getElem?_eq_some_iff.mp ha).1
      refine ⟨pt, _, rfl, SqT.of upd_same, rfl, _, _, rfl, _, _, rfl, rfl, ?_⟩
      have tt := same_new hpt (.tup [.int a, .int m])
      have gt := g.trans (g.2.same tt)
      generalize upd H' pt (.tup [.int a, .int m]) = Ha at tt gt ⊢
      refine ⟨_, rfl, _, rfl, _, rfl, _, rfl, _, rfl, _, rfl, _, _, rfl, rfl, _, rfl, l, nm, wd, zs, kvs, kv, a, m, ?_, by omega, gt.2, gt.1 _ _ nml hnm, hz6, nml, gt.1 _ _ nwd hwd, kw, ha8.1, ha8.2, hm8, fun s v Hb ws' hD gb => ?_⟩
      · show [V.ref l, V.ref nm, V.ref wd, V.int a, V.int (((n + 1 : Nat) : Int) - 1), V.int m] = [V.ref l, V.ref nm, V.ref wd, V.int a, V.int n, V.int m]
        rw [show (((n + 1 : Nat) : Int) - 1) = (n : Int) by omega]
      have kt := (KeepT.same tt).trans (Bg.keepT gt.2 gb)
      have g2 := gt.trans gb
      have h1b := gb.1 _ _ npa (tt _ _ h1)
      have h2b := gb.1 _ _ npr (tt _ _ h2)
      have h3b := kt _ _ h3
      have h4b := h4.keepT kt (by rw [dats_eq]; exact noLs_all fun d hd => by obtain ⟨t, ht, rfl⟩ := List.mem_map.mp hd; exact (h6 t ht).noL)
      refine ⟨(by show 1 ≤ sizeLine; decide), fun p1 hp1 => ?_⟩
      have tc := same_new hp1 (.tup [v])
      have fc := upd_same (H := Hb) (a := p1) (o := .tup [v])
      generalize upd Hb p1 (.tup [v]) = Hc at tc fc ⊢
      have hpl := h4b.length
      rw [dats_eq, List.length_map] at hpl
      refine ⟨pp, p1, _, _, rfl, rfl, tc _ _ h3b, fc, small (by simp only [List.length_singleton]; omega), fun p' Hd td fd => ?_⟩
      have te := tc.trans td
      refine ⟨_, _, ss ++ [s], p', _, rfl, g2.trans (g2.2.same te), te _ _ h1b, te _ _ h2b, fd, ?_, by rw [List.length_append, h5]; rfl, fun t ht => ?_⟩
      · have e7 : Say.dats (ss ++ [s]) = Say.dats ss ++ [s.dat] := by rw [dats_eq, dats_eq, List.map_append]; rfl
        rw [e7]
        exact (h4b.same te).append (.cons (hD.same te) .nil)
      · rcases List.mem_append.mp ht with h | h
        · exact h6 t h
        · rw [List.mem_singleton.mp h]; exact ws'
    · rintro σ H' ⟨x10, x11, ss, pp, ps, rfl, g, h1, h2, h3, h4, h5, h6⟩
      rw [List.length_map] at h5
      have nos : noLs (Say.dats ss) = true := by rw [dats_eq]; exact noLs_all fun d hd => by obtain ⟨t, ht, rfl⟩ := List.mem_map.mp hd; exact (h6 t ht).noL
      have hpl := h4.length
      rw [dats_eq, List.length_map] at hpl
      have fin : ∀ (hd : List PyData) (hv : List V) (p8 : Addr) (H9 : Hp), KeepT H' H9 → Bg l H H9 → H9 p8 = some (.tup (.str z :: hv)) → Dats H9 hd hv → Nd z hd ws.length → hv.length ≤ 2 → rCatE (.ref p8) (.ref pp) H9 Q := fun hd hv p8 H9 kt g9 e8 hdv nd hv2 =>
        ⟨p8, pp, _, _, rfl, rfl, e8, kt _ _ h3, small (by rw [List.length_cons]; omega), fun p' H10 sm hp' => q (.node z hd ss) _ _ ⟨by rw [h5]; exact nd, h6⟩ (by simp only [Say.dat]; exact Dat.tup hp' (.cons (Dat.str _) ((hdv.same sm).append ((h4.keepT kt nos).same sm)))) (g9.trans (g9.2.same sm))⟩
      refine ⟨_, rfl, rfl, _, rfl, ?_⟩
      by_cases zc : z = "cut"
      · refine ite_t (by rw [zc]; decide) ?_
        have l1 : ws.length = 1 := by rw [hlen, zc]; rfl
        obtain ⟨a0, hws0⟩ : ∃ a0, ws = [a0] := by
          match ws, l1 with
          | [x], _ => exact ⟨x, rfl⟩
        subst hws0
        have ha0 := hws a0 List.mem_cons_self
        refine ⟨_, rfl, _, rfl, pa, _, _, _, rfl, rfl, SqL.of h1, rfl, _, rfl, _, _, rfl, rfl, _, _, rfl, _, _, rfl, _, _, rfl, rfl, l, _, rfl, g.2, ?_, ?_, fun f H9 f0 f1 hb9 => ?_⟩
        · split <;> (try split) <;> omega
        · refine Int.lt_trans (b := 100) ?_ (by decide)
          split <;> (try split) <;> omega
        have g9 := g.trans hb9
        have k9 := Bg.keepT g.2 hb9
        refine ⟨_, rfl, _, rfl, l, 8, rfl, g9.2, by decide, by decide, fun e8 H10 _ _ hb10 => ?_⟩
        have g10 := g9.trans hb10
        have k10 := k9.trans (Bg.keepT g9.2 hb10)
        refine ⟨(by show 2 ≤ sizeLine; decide), fun p9 hp9 => ?_⟩
        have n9 : p9 ≠ l := g10.2.ne hp9
        have g11 := g10.trans (Bg.new g10.2 hp9 (.lst [.int f, .int e8]))
        have k11 := k10.trans (KeepT.same (same_new hp9 (.lst [.int f, .int e8])))
        have f11 := upd_same (H := H10) (a := p9) (o := .lst [.int f, .int e8])
        generalize upd H10 p9 (.lst [.int f, .int e8]) = H11 at g11 k11 f11 ⊢
        refine ⟨_, rfl, l, 6, rfl, g11.2, by decide, by decide, fun e6 H12 _ _ hb12 => ?_⟩
        have g12 := g11.trans hb12
        have k12 := k11.trans (Bg.keepT g11.2 hb12)
        have f12 := hb12.1 _ _ n9 f11
        obtain ⟨ff, hff⟩ : ∃ ff : Int, atI [V.int f, V.int e8] (if decide (V.int e6 = V.int 5) = true then 1 else 0) = some (.int ff) := by
          split
          · exact ⟨_, rfl⟩
          · exact ⟨_, rfl⟩
        refine ⟨rfl, .inr ⟨_, rfl, p9, _, _, _, rfl, rfl, SqL.of f12, hff, _, rfl, (by show 3 ≤ sizeLine; decide), fun p8 hp8 => ?_⟩⟩
        rw [← zc]
        exact ⟨_, rfl, fin [.int ff, .int w0] [.int ff, .int w0] p8 _ (k12.trans (KeepT.same (same_new hp8 _))) (g12.trans (Bg.new g12.2 hp8 _)) upd_same (.cons (Dat.int _) (.cons (Dat.int _) .nil)) (by rw [zc]; exact Nd.cut ff w0 ⟨w1, w8⟩) (by simp)⟩
      refine ite_f (decide_eq_false fun h => zc (by injection h)) ?_
      refine ⟨_, rfl, rfl, _, rfl, ?_⟩
      by_cases zt : z = "table"
      · refine ite_t (by rw [zt]; decide) ?_
        have l1 : ws.length = 1 := by rw [hlen, zt]; rfl
        obtain ⟨a0, hws0⟩ : ∃ a0, ws = [a0] := by
          match ws, l1 with
          | [x], _ => exact ⟨x, rfl⟩
        subst hws0
        have ha0 := hws a0 List.mem_cons_self
        refine ⟨_, rfl, pa, _, _, _, rfl, rfl, SqL.of h1, rfl, _, _, rfl, rfl, ⟨by omega, by omega, by decide⟩, _, rfl, l, 4, rfl, g.2, by decide, by decide, fun e4 H9 e40 e41 hb9 => ?_⟩
        have g9 := g.trans hb9
        have k9 := Bg.keepT g.2 hb9
        refine ⟨_, _, rfl, rfl, ⟨by omega, by omega, by decide⟩, (by show 2 ≤ sizeLine; decide), fun p9 hp9 => ?_⟩
        have n9 : p9 ≠ l := hb9.2.ne hp9
        have g10 := g9.trans (Bg.new g9.2 hp9 (.lst [.int (1 * 2 ^ a0.toNat), .int (2 * 2 ^ e4.toNat)]))
        have k10 := k9.trans (KeepT.same (same_new hp9 (.lst [.int (1 * 2 ^ a0.toNat), .int (2 * 2 ^ e4.toNat)])))
        have f10 := upd_same (H := H9) (a := p9) (o := .lst [.int (1 * 2 ^ a0.toNat), .int (2 * 2 ^ e4.toNat)])
        refine ⟨_, rfl, l, 6, rfl, g10.2, by decide, by decide, fun e6 H11 _ _ hb11 => ?_⟩
        have g11 := g10.trans hb11
        have k11 := k10.trans (Bg.keepT g10.2 hb11)
        have f11 := hb11.1 _ _ n9 f10
        obtain ⟨mm, hmm, mm2, mm1000⟩ : ∃ mm : Int, atI [V.int (1 * 2 ^ a0.toNat), V.int (2 * 2 ^ e4.toNat)] (if decide (V.int e6 = V.int 5) = true then 1 else 0) = some (.int mm) ∧ 2 ≤ mm ∧ mm ≤ 1000 := by
          have q1 : (2 : Nat) ^ 1 ≤ 2 ^ a0.toNat := Nat.pow_le_pow_right (by decide) (by omega)
          have q2 : (2 : Nat) ^ a0.toNat ≤ 2 ^ 8 := Nat.pow_le_pow_right (by decide) (by omega)
          have q3 : (2 : Nat) ^ 0 ≤ 2 ^ e4.toNat := Nat.pow_le_pow_right (by decide) (by omega)
          have q4 : (2 : Nat) ^ e4.toNat ≤ 2 ^ 3 := Nat.pow_le_pow_right (by decide) (by omega)
          rw [cast_pow a0.toNat, cast_pow e4.toNat]
          generalize (2 : Nat) ^ a0.toNat = A0 at q1 q2
          generalize (2 : Nat) ^ e4.toNat = A1 at q3 q4
          split
          · exact ⟨_, rfl, by omega, by omega⟩
          · exact ⟨_, rfl, by omega, by omega⟩
        refine ⟨rfl, .inr ⟨_, rfl, p9, _, _, _, rfl, rfl, SqL.of f11, hmm, ?_⟩⟩
        have hpow := pow_pos2 (w0).toNat
        have hpow2 := pow_le2 (n := (w0).toNat) (by omega)
        refine ⟨_, rfl, _, rfl, _, rfl, by omega, by omega, comp_range (lo := 0) (fun i ys H'' => Bg l H11 H'' ∧ ∃ ns : List Int, ys = ns.map V.int ∧ ns.length = i) ⟨Bg.refl hb11.2, [], rfl, rfl⟩ ?_ ?_ ?_⟩
        · rintro i ys H'' hi ⟨_, ns, rfl, hl⟩
          rw [List.length_map]
          exact smallL (by omega)
        · rintro i ys H'' hi ⟨gg, ns, rfl, hl⟩
          unfold tYes
          refine iteT ⟨_, rfl, _, rfl, _, _, rfl, rfl, ⟨by omega, by omega, by decide⟩, l, _, rfl, gg.2, (by rw [Int.one_mul]; exact hpow), (by rw [Int.one_mul]; exact Int.lt_of_le_of_lt hpow2 (by decide)), fun d9 H13 _ _ hb13 => ?_⟩
          exact ⟨gg.trans hb13, ns ++ [d9], by rw [List.map_append]; rfl, by rw [List.length_append, hl]; rfl⟩
        · rintro ys H'' ⟨gg, ns, rfl, hl⟩ pl hpl
          have hns2 : 2 ≤ ns.length := by omega
          obtain ⟨n0, nr, rfl⟩ : ∃ n0 nr, ns = n0 :: nr := by
            match ns, hns2 with
            | x :: r, _ => exact ⟨x, r, rfl⟩
          have g13 := (g11.trans gg).trans (Bg.new gg.2 hpl (.lst ((n0 :: nr).map V.int)))
          have k13 := (k11.trans (Bg.keepT hb11.2 gg)).trans (KeepT.same (same_new hpl (.lst ((n0 :: nr).map V.int))))
          have f13 := upd_same (H := H'') (a := pl) (o := .lst ((n0 :: nr).map V.int))
          generalize upd H'' pl (.lst ((n0 :: nr).map V.int)) = H13 at g13 k13 f13 ⊢
          refine ⟨pl, _, rfl, .inl ⟨SqL.of f13, fun pt hpt => ?_⟩⟩
          have g14 := g13.trans (Bg.new g13.2 hpt (.tup ((n0 :: nr).map V.int)))
          have k14 := k13.trans (KeepT.same (same_new hpt (.tup ((n0 :: nr).map V.int))))
          have f14 := upd_same (H := H13) (a := pt) (o := .tup ((n0 :: nr).map V.int))
          generalize upd H13 pt (.tup ((n0 :: nr).map V.int)) = H14 at g14 k14 f14 ⊢
          refine ⟨(by show 3 ≤ sizeLine; decide), fun p8 hp8 => ?_⟩
          rw [← zt]
          exact ⟨_, rfl, fin [.int w0, .tuple ((n0 :: nr).map PyData.int)] [.int w0, .ref pt] p8 _ (k14.trans (KeepT.same (same_new hp8 _))) (g14.trans (Bg.new g14.2 hp8 _)) upd_same (.cons (Dat.int _) (.cons (Dat.tup ((same_new hp8 _) _ _ f14) (Dats.ints _)) .nil)) (by rw [zt]; exact Nd.table w0 n0 nr ⟨w1, w8⟩) (by simp)⟩
      refine ite_f (decide_eq_false fun h => zt (by injection h)) ?_
      have shifts : (z = "up" ∨ z = "down") → ∀ (e9 : Int) (H9 : Hp), Bg l H' H9 → ∀ p8, H9 p8 = none → rCatE (.ref p8) (.ref pp) (upd H9 p8 (.tup [.str z, .int e9])) Q := fun hz e9 H9 hb9 p8 hp8 => by
        have l1 : ws.length = 1 := by rcases hz with e | e <;> (rw [hlen, e]; rfl)
        refine fin [.int e9] [.int e9] p8 _ ((Bg.keepT g.2 hb9).trans (KeepT.same (same_new hp8 _))) ((g.trans hb9).trans (Bg.new hb9.2 hp8 _)) upd_same (.cons (Dat.int _) .nil) ?_ (by simp)
        rw [l1]
        rcases hz with e | e
        · rw [e]; exact Nd.up e9
        · rw [e]; exact Nd.down e9
      refine ⟨_, rfl, rfl, _, rfl, ?_⟩
      by_cases zu : z = "up"
      · refine ite_t (by rw [zu]; decide) (iteT ?_)
        refine ⟨_, rfl, _, rfl, l, 9, rfl, g.2, by decide, by decide, fun e9 H9 _ _ hb9 => ⟨(by show 2 ≤ sizeLine; decide), fun p8 hp8 => ?_⟩⟩
        exact ⟨_, rfl, shifts (.inl zu) e9 H9 hb9 p8 hp8⟩
      refine ite_f (decide_eq_false fun h => zu (by injection h)) ⟨_, rfl, rfl, _, rfl, ?_⟩
      by_cases zd : z = "down"
      · refine ite_t (by rw [zd]; decide) ?_
        refine ⟨_, rfl, _, rfl, l, 9, rfl, g.2, by decide, by decide, fun e9 H9 _ _ hb9 => ⟨(by show 2 ≤ sizeLine; decide), fun p8 hp8 => ?_⟩⟩
        exact ⟨_, rfl, shifts (.inr zd) e9 H9 hb9 p8 hp8⟩
      refine ite_f (decide_eq_false fun h => zd (by injection h)) ?_
      refine ⟨_, rfl, (by show 1 ≤ sizeLine; decide), fun p8 hp8 => ?_⟩
      exact ⟨_, rfl, fin [] [] p8 _ (KeepT.same (same_new hp8 _)) (g.trans (Bg.new g.2 hp8 _)) upd_same .nil (by rw [hlen]; exact nd_rest wz zc zt zu zd) (by simp)⟩
theorem ok_L_by (T : Tx w K mg A) : FnOk P w K mg base CX0 1 A.a_L_by A.d_L_by ["_law_saying", "_law_some"] sp_L_by := by
  refine T.F_L_by.ok sc_L_by (fun vs H Q E h => ?_) (fun cdv A' outer s H vs Q E hr h => ?_)
  · obtain ⟨z, hd, subs, v, pi, rs, r, rfl, hD, fpi, hl3, hrs, hc, q⟩ := h
    rfl
  obtain ⟨z, hd, subs, v, pi, rs, r, rfl, hD, fpi, hl3, hrs, hc, q⟩ := h
  refine ⟨_, (pss_cons (ps_set (i := 2) sc_L_by.nd rfl (Or.inl rfl) (pe_ix ix_tup (pv 0) pe_int (fun _ _ => rfl)))
    (pss_cons (ps_if (pt_cmpR op_in_seq pe_int (pv 1) rfl) (pss_one (ps_ret pe_int)) pss_nil)
    (pss_cons (ps_if (pt_cmpR op_in_seq (pv 2) (pe_lst (pa_consts rfl)) rfl) (pss_one (ps_ret (pe_ix ix_list (pv 1) pe_int (fun _ _ => rfl)))) pss_nil)
    (pss_cons (ps_if (pt_cmpR op_eq (pv 2) pe_str (nomark _)) (pss_one (ps_ret (pe_ix ix_list (pe_lst (pa_cons pe_int (pa_cons (pe_op op_add (pe_ix ix_list (pv 1) pe_int (fun _ _ => rfl)) (pe_ix ix_list (pv 1) pe_int (fun _ _ => rfl))) pa_nil))) (pe_callTy call_int1 rfl T.int PyProof.Rows.boot_int (pa_cons (pe_cmpR op_lt (pe_op op_add (pe_ix ix_list (pv 1) pe_int (fun _ _ => rfl)) (pe_ix ix_list (pv 1) pe_int (fun _ _ => rfl))) pe_int (nomark _)) pa_nil)) (fun _ _ => rfl)))) pss_nil)
    (pss_cons (ps_if (pt_cmpR op_eq (pv 2) pe_str (nomark _)) (pss_one (ps_ret (pe_ix ix_list (pe_lst (pa_cons pe_int (pa_cons (pe_ix ix_tup (pv 0) pe_int (fun _ _ => rfl)) pa_nil))) (pe_callTy call_int1 rfl T.int PyProof.Rows.boot_int (pa_cons (pe_cmpR op_le (pe_op op_add (pe_ix ix_tup (pv 0) pe_int (fun _ _ => rfl)) (pe_ix ix_tup (pv 0) pe_int (fun _ _ => rfl))) (pe_ix ix_list (pv 1) pe_int (fun _ _ => rfl)) (nomark _)) pa_nil)) (fun _ _ => rfl)))) pss_nil)
    (pss_cons (ps_if (pt_cmpR op_eq (pv 2) pe_str (nomark _)) (pss_one (ps_ret (pe_ix ix_list (pe_lst (pa_cons pe_int (pa_cons (pe_ix ix_tup (pv 0) pe_int (fun _ _ => rfl)) pa_nil))) (pe_callTy call_int1 rfl T.int PyProof.Rows.boot_int (pa_cons (pe_and (pe_cmpR op_lt (pe_ix ix_list (pv 1) pe_int (fun _ _ => rfl)) pe_int (nomark _)) (pe_one (pe_cmpR op_eq (pe_op op_shl pe_int (pe_ix ix_list (pv 1) pe_int (fun _ _ => rfl))) (pe_callB call_len rfl T.len PySem.boot_len (pa_cons (pe_ix ix_tup (pv 0) pe_int (fun _ _ => rfl)) pa_nil)) (nomark _)))) pa_nil)) (fun _ _ => rfl)))) pss_nil)
    (pss_cons (ps_set (i := 3) sc_L_by.nd rfl (Or.inl rfl) (pe_cmpR op_eq (pe_ix ix_list (pv 1) (pe_op op_sub (pe_callB call_len rfl T.len PySem.boot_len (pa_cons (pv 1) pa_nil)) pe_int) (fun _ _ => rfl)) (pe_ix ix_list (pv 1) (pe_op op_sub (pe_callB call_len rfl T.len PySem.boot_len (pa_cons (pv 1) pa_nil)) pe_int) (fun _ _ => rfl)) (nomark _)))
    (pss_cons (ps_if (pt_cmpR op_eq (pv 2) pe_str (nomark _)) (pss_one (ps_ret (pe_ix ix_list (pe_lst (pa_cons pe_int (pa_cons (pe_ix ix_list (pv 1) pe_int (fun _ _ => rfl)) pa_nil))) (pe_callTy call_int1 rfl T.int PyProof.Rows.boot_int (pa_cons (pe_and (pv 3) (pe_one (pe_cmpR op_eq (pe_ix ix_list (pv 1) pe_int (fun _ _ => rfl)) pe_int (nomark _)))) pa_nil)) (fun _ _ => rfl)))) pss_nil)
    (pss_cons (ps_if (PW.pt (pw_or (pt_cmpR op_eq (pv 2) pe_str (nomark _)) (pw_or1 (pt_cmpR op_eq (pv 2) pe_str (nomark _))))) (pss_one (ps_ret (pe_callTy call_int1 rfl T.int PyProof.Rows.boot_int (pa_cons (pv 3) pa_nil)))) pss_nil)
    (pss_one (ps_ret (pe_ix ix_list (pe_lst (pa_cons pe_int (pa_cons (pe_ix ix_list (pv 1) pe_int (fun _ _ => rfl)) pa_nil))) (pe_callTy call_int1 rfl T.int PyProof.Rows.boot_int (pa_cons (pv 3) pa_nil)) (fun _ _ => rfl))))))))))))), ?_⟩
  obtain ⟨p, xs, rfl, hp, hxs⟩ := hD.tupI
  obtain ⟨x0, r0, rfl, h0, hr0⟩ := hxs.consI
  have e0 : x0 = .str z := by unfold Dat at h0; exact h0
  subst e0
  refine ⟨_, rfl, p, _, _, _, rfl, rfl, SqT.of hp, (show atI _ ((0 : Nat) : Int) = _ from atI_nat rfl), ?_⟩
  refine ⟨_, rfl, pi, _, rfl, .inl (SqL.of fpi), rfl, ?_, _, rfl, ?_⟩
  · rw [List.all_map]
    exact List.all_eq_true.mpr fun x _ => rfl
  rcases hc with ⟨hm, rfl⟩ | ⟨ws, rfl, wo⟩
  · refine ite_t ((inV_zero hrs).mpr hm) ?_
    exact q H (Same.refl H)
  · have hno : inV (V.int 0) ((ws.map some).map fun q => V.int (q.getD 0)) = false := Bool.eq_false_iff.mpr fun h => by
      have := (inV_zero hrs).mp h
      simp at this
    refine ite_f hno ?_
    have e5 : ((ws.map some).map fun q => V.int (q.getD 0)) = ws.map V.int := by rw [List.map_map]; rfl
    rw [e5] at fpi
    refine ⟨_, rfl, (by show 3 ≤ sizeLine; decide), fun p1 hp1 => ?_⟩
    have t1 := same_new hp1 (.lst [.str "not", .str "up", .str "down"])
    have hp1' := t1 _ _ hp
    have hpi1 := t1 _ _ fpi
    refine ⟨p1, _, rfl, .inl (SqL.of upd_same), rfl, rfl, _, rfl, ?_⟩
    have hwb : ∀ a ∈ ws, 1 ≤ a ∧ a ≤ 8 := fun a ha => hrs a (List.mem_map.mpr ⟨a, ha, rfl⟩)
    cases wo with
    | not => exact ite_t (by decide) ⟨_, rfl, pi, _, _, _, rfl, rfl, SqL.of hpi1, rfl, q _ t1⟩
    | up => exact ite_t (by decide) ⟨_, rfl, pi, _, _, _, rfl, rfl, SqL.of hpi1, rfl, q _ t1⟩
    | down => exact ite_t (by decide) ⟨_, rfl, pi, _, _, _, rfl, rfl, SqL.of hpi1, rfl, q _ t1⟩
    | join a b =>
      refine ite_f (by decide) ⟨_, rfl, rfl, _, rfl, ?_⟩
      refine ite_t (by decide) ?_
      refine ⟨_, rfl, pi, _, _, _, rfl, rfl, SqL.of hpi1, rfl, _, rfl, pi, _, _, _, rfl, rfl, SqL.of hpi1, rfl, _, _, rfl, rfl, (by show 2 ≤ sizeLine; decide), fun p2 hp2 => ?_⟩
      have t2 := same_new hp2 (.lst [.int 0, .int (a + b)])
      have hpi2 := t2 _ _ hpi1
      have e2 : atI [V.int 0, V.int (a + b)] (if decide (a + b < 9) = true then 1 else 0) = some (.int ((if a + b ≤ 8 then some (a + b) else none).getD 0)) := by
        by_cases h : a + b ≤ 8
        · rw [if_pos h, if_pos (decide_eq_true (by omega))]; rfl
        · rw [if_neg h, if_neg (by simp; omega)]; rfl
      exact ⟨_, rfl, pi, _, _, _, rfl, rfl, SqL.of hpi2, rfl, _, rfl, pi, _, _, _, rfl, rfl, SqL.of hpi2, rfl, _, _, rfl, rfl, _, _, rfl, rfl, .inr ⟨_, rfl, p2, _, _, _, rfl, rfl, SqL.of upd_same, e2, q _ (t1.trans t2)⟩⟩
    | cut f w' a hw =>
      obtain ⟨x1, r1, rfl, hx1, hr1⟩ := hr0.consI
      obtain ⟨x2, r2, rfl, hx2, hr2⟩ := hr1.consI
      have e1 := hx1.intI
      have e2 := hx2.intI
      subst e1 e2
      refine ite_f (by decide) ⟨_, rfl, rfl, _, rfl, ?_⟩
      refine ite_f (by decide) ⟨_, rfl, rfl, _, rfl, ?_⟩
      refine ite_t (by decide) ?_
      refine ⟨_, rfl, p, _, _, _, rfl, rfl, SqT.of hp1', (show atI _ ((2 : Nat) : Int) = _ from atI_nat rfl), (by show 2 ≤ sizeLine; decide), fun p2 hp2 => ?_⟩
      have t2 := same_new hp2 (.lst [.int 0, .int w'])
      have e3 : atI [V.int 0, V.int w'] (if decide (f + w' ≤ a) = true then 1 else 0) = some (.int ((if f + w' ≤ a then some w' else none).getD 0)) := by
        by_cases h : f + w' ≤ a
        · rw [if_pos h, if_pos (decide_eq_true h)]; rfl
        · rw [if_neg h, if_neg (by simpa using h)]; rfl
      exact ⟨_, rfl, p, _, _, _, rfl, rfl, SqT.of (t2 _ _ hp1'), (show atI _ ((1 : Nat) : Int) = _ from atI_nat rfl), _, rfl, p, _, _, _, rfl, rfl, SqT.of (t2 _ _ hp1'), (show atI _ ((2 : Nat) : Int) = _ from atI_nat rfl), _, _, rfl, rfl, _, rfl, pi, _, _, _, rfl, rfl, SqL.of (t2 _ _ hpi1), rfl, _, _, rfl, rfl, .inr ⟨_, rfl, p2, _, _, _, rfl, rfl, SqL.of upd_same, e3, q _ (t1.trans t2)⟩⟩
    | table w' n ns a hw =>
      obtain ⟨y1, r1, rfl, hy1, hr1⟩ := hr0.consI
      obtain ⟨y2, r2, rfl, hy2, hr2⟩ := hr1.consI
      obtain ⟨pt, ts, rfl, hpt, hts⟩ := hy2.tupI
      have ets : ts = (n :: ns).map V.int := dats_ints hts
      have e1 := hy1.intI
      subst ets e1
      have ha := hwb a List.mem_cons_self
      refine ite_f (by decide) ⟨_, rfl, rfl, _, rfl, ?_⟩
      refine ite_f (by decide) ⟨_, rfl, rfl, _, rfl, ?_⟩
      refine ite_f (by decide) ⟨_, rfl, rfl, _, rfl, ?_⟩
      refine ite_t (by decide) ?_
      refine ⟨_, rfl, p, _, _, _, rfl, rfl, SqT.of hp1', (show atI _ ((1 : Nat) : Int) = _ from atI_nat rfl), (by show 2 ≤ sizeLine; decide), fun p2 hp2 => ?_⟩
      have t2 := same_new hp2 (.lst [.int 0, .int w'])
      refine ⟨_, rfl, pi, _, _, _, rfl, rfl, SqL.of (t2 _ _ hpi1), rfl, _, _, rfl, rfl, _, rfl, ?_⟩
      by_cases h4 : a ≤ 4
      · refine ite_t (decide_eq_true (by omega)) ⟨_, rfl, pi, _, _, _, rfl, rfl, SqL.of (t2 _ _ hpi1), rfl, _, _, rfl, rfl, ⟨by omega, by omega, by decide⟩, _, rfl, p, _, _, _, rfl, rfl, SqT.of (t2 _ _ hp1'), (show atI _ ((2 : Nat) : Int) = _ from atI_nat rfl), _, _, rfl, .inr ⟨_, SqT.of (t2 _ _ (t1 _ _ hpt)), rfl⟩, rfl, ?_⟩
        have e3 : atI [V.int 0, V.int w'] (if decide (V.int (1 * 2 ^ a.toNat) = V.int ((((n :: ns).map V.int).length : Nat) : Int)) = true then 1 else 0) = some (.int ((if a ≤ 4 ∧ (((n :: ns).length : Nat) : Int) = 2 ^ a.toNat then some w' else none).getD 0)) := by
          rw [Int.one_mul, List.length_map]
          by_cases h : (((n :: ns).length : Nat) : Int) = 2 ^ a.toNat
          · rw [if_pos (decide_eq_true (show V.int (2 ^ a.toNat) = V.int (((n :: ns).length : Nat) : Int) by rw [h])), if_pos (show a ≤ 4 ∧ (((n :: ns).length : Nat) : Int) = 2 ^ a.toNat from ⟨h4, h⟩)]; rfl
          · rw [if_neg (show ¬ decide (V.int (2 ^ a.toNat) = V.int (((n :: ns).length : Nat) : Int)) = true by intro e; have := of_decide_eq_true e; injection this with this; exact h this.symm), if_neg (show ¬ (a ≤ 4 ∧ (((n :: ns).length : Nat) : Int) = 2 ^ a.toNat) from fun hh => h hh.2)]; rfl
        exact .inr ⟨_, rfl, p2, _, _, _, rfl, rfl, SqL.of upd_same, e3, q _ (t1.trans t2)⟩
      · have e3 : atI [V.int 0, V.int w'] (if false = true then 1 else 0) = some (.int ((if a ≤ 4 ∧ (((n :: ns).length : Nat) : Int) = 2 ^ a.toNat then some w' else none).getD 0)) := by
          rw [if_neg (show ¬ (a ≤ 4 ∧ (((n :: ns).length : Nat) : Int) = 2 ^ a.toNat) from fun hh => h4 hh.1)]; rfl
        have h5 : decide (a < 5) = false := decide_eq_false (by omega)
        rw [h5]
        exact ite_f rfl (.inr ⟨_, rfl, p2, _, _, _, rfl, rfl, SqL.of upd_same, e3, q _ (t1.trans t2)⟩)
    | choice c a b =>
      refine ite_f (by decide) ⟨_, rfl, rfl, _, rfl, ?_⟩
      refine ite_f (by decide) ⟨_, rfl, rfl, _, rfl, ?_⟩
      refine ite_f (by decide) ⟨_, rfl, rfl, _, rfl, ?_⟩
      refine ite_f (by decide) ?_
      refine ⟨_, rfl, _, rfl, _, _, rfl, .inl ⟨_, SqL.of hpi1, rfl⟩, _, _, rfl, rfl, pi, _, _, _, rfl, rfl, SqL.of hpi1, (show atI [V.int c, V.int a, V.int b] 1 = some (.int a) from rfl), _, rfl, _, rfl, _, _, rfl, .inl ⟨_, SqL.of hpi1, rfl⟩, _, _, rfl, rfl, pi, _, _, _, rfl, rfl, SqL.of hpi1, (show atI [V.int c, V.int a, V.int b] 2 = some (.int b) from rfl), rfl, ?_⟩
      refine ⟨_, rfl, rfl, _, rfl, ?_⟩
      refine ite_t (by decide) ?_
      refine ⟨_, rfl, pi, _, _, _, rfl, rfl, SqL.of hpi1, rfl, (by show 2 ≤ sizeLine; decide), fun p2 hp2 => ?_⟩
      have t2 := same_new hp2 (.lst [.int 0, .int a])
      refine ⟨_, rfl, _, rfl, ?_⟩
      by_cases hab : a = b
      · refine ite_t (decide_eq_true (by rw [hab])) ⟨_, rfl, pi, _, _, _, rfl, rfl, SqL.of (t2 _ _ hpi1), rfl, rfl, ?_⟩
        have e3 : atI [V.int 0, V.int a] (if decide (V.int c = V.int 1) = true then 1 else 0) = some (.int ((if c = 1 ∧ a = b then some a else none).getD 0)) := by
          by_cases h : c = 1
          · rw [if_pos (decide_eq_true (show V.int c = V.int 1 by rw [h])), if_pos (show c = 1 ∧ a = b from ⟨h, hab⟩)]; rfl
          · rw [if_neg (show ¬ decide (V.int c = V.int 1) = true by simp [h]), if_neg (show ¬ (c = 1 ∧ a = b) from fun hh => h hh.1)]; rfl
        exact .inr ⟨_, rfl, p2, _, _, _, rfl, rfl, SqL.of upd_same, e3, q _ (t1.trans t2)⟩
      · have h5 : decide (V.int a = V.int b) = false := by simp [hab]
        rw [h5]
        have e3 : atI [V.int 0, V.int a] (if false = true then 1 else 0) = some (.int ((if c = 1 ∧ a = b then some a else none).getD 0)) := by
          rw [if_neg (show ¬ (c = 1 ∧ a = b) from fun hh => hab hh.2)]; rfl
        exact ite_f rfl (.inr ⟨_, rfl, p2, _, _, _, rfl, rfl, SqL.of upd_same, e3, q _ (t1.trans t2)⟩)
    | and a b =>
      refine ite_f (by decide) ⟨_, rfl, rfl, _, rfl, ?_⟩
      refine ite_f (by decide) ⟨_, rfl, rfl, _, rfl, ?_⟩
      refine ite_f (by decide) ⟨_, rfl, rfl, _, rfl, ?_⟩
      refine ite_f (by decide) ?_
      have hlen : ((([a, b].map V.int).length : Nat) : Int) = 2 := rfl
      refine ⟨_, rfl, _, rfl, _, _, rfl, .inl ⟨_, SqL.of hpi1, rfl⟩, _, _, rfl, rfl, pi, _, _, _, rfl, rfl, SqL.of hpi1, (show atI [V.int a, V.int b] 0 = some (.int a) from rfl), _, rfl, _, rfl, _, _, rfl, .inl ⟨_, SqL.of hpi1, rfl⟩, _, _, rfl, rfl, pi, _, _, _, rfl, rfl, SqL.of hpi1, (show atI [V.int a, V.int b] 1 = some (.int b) from rfl), rfl, ?_⟩
      refine ⟨_, rfl, rfl, _, rfl, ?_⟩
      refine ite_f (by decide) ?_
      refine ⟨_, rfl, rfl, _, rfl, ?_⟩
      refine ite_f (by decide) ?_
      refine ⟨_, rfl, rfl, _, rfl, ?_⟩
      refine ite_f (by decide) ?_
      refine ⟨_, rfl, pi, _, _, _, rfl, rfl, SqL.of hpi1, rfl, (by show 2 ≤ sizeLine; decide), fun p2 hp2 => ?_⟩
      have t2 := t1.trans (same_new hp2 (.lst [.int 0, .int a]))
      have e2 : atI [V.int 0, V.int a] (if decide (V.int a = V.int b) = true then 1 else 0) = some (.int ((if a = b then some a else none).getD 0)) := by
        by_cases h : a = b
        · rw [if_pos h, if_pos (decide_eq_true (by rw [h]))]; rfl
        · rw [if_neg h, if_neg (by simp [h])]; rfl
      exact ⟨_, rfl, .inr ⟨_, rfl, p2, _, _, _, rfl, rfl, SqL.of upd_same, e2, q _ t2⟩⟩
    | or a b =>
      refine ite_f (by decide) ⟨_, rfl, rfl, _, rfl, ?_⟩
      refine ite_f (by decide) ⟨_, rfl, rfl, _, rfl, ?_⟩
      refine ite_f (by decide) ⟨_, rfl, rfl, _, rfl, ?_⟩
      refine ite_f (by decide) ?_
      have hlen : ((([a, b].map V.int).length : Nat) : Int) = 2 := rfl
      refine ⟨_, rfl, _, rfl, _, _, rfl, .inl ⟨_, SqL.of hpi1, rfl⟩, _, _, rfl, rfl, pi, _, _, _, rfl, rfl, SqL.of hpi1, (show atI [V.int a, V.int b] 0 = some (.int a) from rfl), _, rfl, _, rfl, _, _, rfl, .inl ⟨_, SqL.of hpi1, rfl⟩, _, _, rfl, rfl, pi, _, _, _, rfl, rfl, SqL.of hpi1, (show atI [V.int a, V.int b] 1 = some (.int b) from rfl), rfl, ?_⟩
      refine ⟨_, rfl, rfl, _, rfl, ?_⟩
      refine ite_f (by decide) ?_
      refine ⟨_, rfl, rfl, _, rfl, ?_⟩
      refine ite_f (by decide) ?_
      refine ⟨_, rfl, rfl, _, rfl, ?_⟩
      refine ite_f (by decide) ?_
      refine ⟨_, rfl, pi, _, _, _, rfl, rfl, SqL.of hpi1, rfl, (by show 2 ≤ sizeLine; decide), fun p2 hp2 => ?_⟩
      have t2 := t1.trans (same_new hp2 (.lst [.int 0, .int a]))
      have e2 : atI [V.int 0, V.int a] (if decide (V.int a = V.int b) = true then 1 else 0) = some (.int ((if a = b then some a else none).getD 0)) := by
        by_cases h : a = b
        · rw [if_pos h, if_pos (decide_eq_true (by rw [h]))]; rfl
        · rw [if_neg h, if_neg (by simp [h])]; rfl
      exact ⟨_, rfl, .inr ⟨_, rfl, p2, _, _, _, rfl, rfl, SqL.of upd_same, e2, q _ t2⟩⟩
    | odd a b =>
      refine ite_f (by decide) ⟨_, rfl, rfl, _, rfl, ?_⟩
      refine ite_f (by decide) ⟨_, rfl, rfl, _, rfl, ?_⟩
      refine ite_f (by decide) ⟨_, rfl, rfl, _, rfl, ?_⟩
      refine ite_f (by decide) ?_
      have hlen : ((([a, b].map V.int).length : Nat) : Int) = 2 := rfl
      refine ⟨_, rfl, _, rfl, _, _, rfl, .inl ⟨_, SqL.of hpi1, rfl⟩, _, _, rfl, rfl, pi, _, _, _, rfl, rfl, SqL.of hpi1, (show atI [V.int a, V.int b] 0 = some (.int a) from rfl), _, rfl, _, rfl, _, _, rfl, .inl ⟨_, SqL.of hpi1, rfl⟩, _, _, rfl, rfl, pi, _, _, _, rfl, rfl, SqL.of hpi1, (show atI [V.int a, V.int b] 1 = some (.int b) from rfl), rfl, ?_⟩
      refine ⟨_, rfl, rfl, _, rfl, ?_⟩
      refine ite_f (by decide) ?_
      refine ⟨_, rfl, rfl, _, rfl, ?_⟩
      refine ite_f (by decide) ?_
      refine ⟨_, rfl, rfl, _, rfl, ?_⟩
      refine ite_f (by decide) ?_
      refine ⟨_, rfl, pi, _, _, _, rfl, rfl, SqL.of hpi1, rfl, (by show 2 ≤ sizeLine; decide), fun p2 hp2 => ?_⟩
      have t2 := t1.trans (same_new hp2 (.lst [.int 0, .int a]))
      have e2 : atI [V.int 0, V.int a] (if decide (V.int a = V.int b) = true then 1 else 0) = some (.int ((if a = b then some a else none).getD 0)) := by
        by_cases h : a = b
        · rw [if_pos h, if_pos (decide_eq_true (by rw [h]))]; rfl
        · rw [if_neg h, if_neg (by simp [h])]; rfl
      exact ⟨_, rfl, .inr ⟨_, rfl, p2, _, _, _, rfl, rfl, SqL.of upd_same, e2, q _ t2⟩⟩
    | sum a b =>
      refine ite_f (by decide) ⟨_, rfl, rfl, _, rfl, ?_⟩
      refine ite_f (by decide) ⟨_, rfl, rfl, _, rfl, ?_⟩
      refine ite_f (by decide) ⟨_, rfl, rfl, _, rfl, ?_⟩
      refine ite_f (by decide) ?_
      have hlen : ((([a, b].map V.int).length : Nat) : Int) = 2 := rfl
      refine ⟨_, rfl, _, rfl, _, _, rfl, .inl ⟨_, SqL.of hpi1, rfl⟩, _, _, rfl, rfl, pi, _, _, _, rfl, rfl, SqL.of hpi1, (show atI [V.int a, V.int b] 0 = some (.int a) from rfl), _, rfl, _, rfl, _, _, rfl, .inl ⟨_, SqL.of hpi1, rfl⟩, _, _, rfl, rfl, pi, _, _, _, rfl, rfl, SqL.of hpi1, (show atI [V.int a, V.int b] 1 = some (.int b) from rfl), rfl, ?_⟩
      refine ⟨_, rfl, rfl, _, rfl, ?_⟩
      refine ite_f (by decide) ?_
      refine ⟨_, rfl, rfl, _, rfl, ?_⟩
      refine ite_f (by decide) ?_
      refine ⟨_, rfl, rfl, _, rfl, ?_⟩
      refine ite_f (by decide) ?_
      refine ⟨_, rfl, pi, _, _, _, rfl, rfl, SqL.of hpi1, rfl, (by show 2 ≤ sizeLine; decide), fun p2 hp2 => ?_⟩
      have t2 := t1.trans (same_new hp2 (.lst [.int 0, .int a]))
      have e2 : atI [V.int 0, V.int a] (if decide (V.int a = V.int b) = true then 1 else 0) = some (.int ((if a = b then some a else none).getD 0)) := by
        by_cases h : a = b
        · rw [if_pos h, if_pos (decide_eq_true (by rw [h]))]; rfl
        · rw [if_neg h, if_neg (by simp [h])]; rfl
      exact ⟨_, rfl, .inr ⟨_, rfl, p2, _, _, _, rfl, rfl, SqL.of upd_same, e2, q _ t2⟩⟩
    | less a b =>
      refine ite_f (by decide) ⟨_, rfl, rfl, _, rfl, ?_⟩
      refine ite_f (by decide) ⟨_, rfl, rfl, _, rfl, ?_⟩
      refine ite_f (by decide) ⟨_, rfl, rfl, _, rfl, ?_⟩
      refine ite_f (by decide) ?_
      have hlen : ((([a, b].map V.int).length : Nat) : Int) = 2 := rfl
      refine ⟨_, rfl, _, rfl, _, _, rfl, .inl ⟨_, SqL.of hpi1, rfl⟩, _, _, rfl, rfl, pi, _, _, _, rfl, rfl, SqL.of hpi1, (show atI [V.int a, V.int b] 0 = some (.int a) from rfl), _, rfl, _, rfl, _, _, rfl, .inl ⟨_, SqL.of hpi1, rfl⟩, _, _, rfl, rfl, pi, _, _, _, rfl, rfl, SqL.of hpi1, (show atI [V.int a, V.int b] 1 = some (.int b) from rfl), rfl, ?_⟩
      refine ⟨_, rfl, rfl, _, rfl, ?_⟩
      refine ite_f (by decide) ?_
      refine ⟨_, rfl, rfl, _, rfl, ?_⟩
      refine ite_f (by decide) ?_
      refine ⟨_, rfl, rfl, _, rfl, ?_⟩
      refine ite_f (by decide) ?_
      refine ⟨_, rfl, pi, _, _, _, rfl, rfl, SqL.of hpi1, rfl, (by show 2 ≤ sizeLine; decide), fun p2 hp2 => ?_⟩
      have t2 := t1.trans (same_new hp2 (.lst [.int 0, .int a]))
      have e2 : atI [V.int 0, V.int a] (if decide (V.int a = V.int b) = true then 1 else 0) = some (.int ((if a = b then some a else none).getD 0)) := by
        by_cases h : a = b
        · rw [if_pos h, if_pos (decide_eq_true (by rw [h]))]; rfl
        · rw [if_neg h, if_neg (by simp [h])]; rfl
      exact ⟨_, rfl, .inr ⟨_, rfl, p2, _, _, _, rfl, rfl, SqL.of upd_same, e2, q _ t2⟩⟩
    | under a b =>
      refine ite_f (by decide) ⟨_, rfl, rfl, _, rfl, ?_⟩
      refine ite_f (by decide) ⟨_, rfl, rfl, _, rfl, ?_⟩
      refine ite_f (by decide) ⟨_, rfl, rfl, _, rfl, ?_⟩
      refine ite_f (by decide) ?_
      have hlen : ((([a, b].map V.int).length : Nat) : Int) = 2 := rfl
      refine ⟨_, rfl, _, rfl, _, _, rfl, .inl ⟨_, SqL.of hpi1, rfl⟩, _, _, rfl, rfl, pi, _, _, _, rfl, rfl, SqL.of hpi1, (show atI [V.int a, V.int b] 0 = some (.int a) from rfl), _, rfl, _, rfl, _, _, rfl, .inl ⟨_, SqL.of hpi1, rfl⟩, _, _, rfl, rfl, pi, _, _, _, rfl, rfl, SqL.of hpi1, (show atI [V.int a, V.int b] 1 = some (.int b) from rfl), rfl, ?_⟩
      refine ⟨_, rfl, rfl, _, rfl, ?_⟩
      refine ite_f (by decide) ?_
      have e2 : (V.int (if decide (V.int a = V.int b) = true then 1 else 0)) = .int ((if a = b then some 1 else none).getD 0) := by
        by_cases h : a = b
        · rw [if_pos h, if_pos (decide_eq_true (by rw [h]))]; rfl
        · rw [if_neg h, if_neg (by simp [h])]; rfl
      refine ⟨_, rfl, rfl, _, rfl, ?_⟩
      refine ite_t (by decide) (iteT ?_)
      refine ⟨_, rfl, .inr ⟨_, rfl, ?_⟩⟩
      rw [e2]
      exact q _ t1
    | same a b =>
      refine ite_f (by decide) ⟨_, rfl, rfl, _, rfl, ?_⟩
      refine ite_f (by decide) ⟨_, rfl, rfl, _, rfl, ?_⟩
      refine ite_f (by decide) ⟨_, rfl, rfl, _, rfl, ?_⟩
      refine ite_f (by decide) ?_
      have hlen : ((([a, b].map V.int).length : Nat) : Int) = 2 := rfl
      refine ⟨_, rfl, _, rfl, _, _, rfl, .inl ⟨_, SqL.of hpi1, rfl⟩, _, _, rfl, rfl, pi, _, _, _, rfl, rfl, SqL.of hpi1, (show atI [V.int a, V.int b] 0 = some (.int a) from rfl), _, rfl, _, rfl, _, _, rfl, .inl ⟨_, SqL.of hpi1, rfl⟩, _, _, rfl, rfl, pi, _, _, _, rfl, rfl, SqL.of hpi1, (show atI [V.int a, V.int b] 1 = some (.int b) from rfl), rfl, ?_⟩
      refine ⟨_, rfl, rfl, _, rfl, ?_⟩
      refine ite_f (by decide) ?_
      have e2 : (V.int (if decide (V.int a = V.int b) = true then 1 else 0)) = .int ((if a = b then some 1 else none).getD 0) := by
        by_cases h : a = b
        · rw [if_pos h, if_pos (decide_eq_true (by rw [h]))]; rfl
        · rw [if_neg h, if_neg (by simp [h])]; rfl
      refine ⟨_, rfl, rfl, _, rfl, ?_⟩
      refine ite_f (by decide) ⟨_, rfl, rfl, _, rfl, ?_⟩
      refine ite_t (by decide) ?_
      refine ⟨_, rfl, .inr ⟨_, rfl, ?_⟩⟩
      rw [e2]
      exact q _ t1
theorem ok_L_due (T : Tx w K mg A) (G_L_by : FnOk P w K mg base CX0 1 A.a_L_by A.d_L_by ["_law_saying", "_law_some"] sp_L_by) (n : Nat) (G_L_due : FnOk P w K mg base CX0 (n + 2) A.a_L_due A.d_L_due ["_law_saying", "_law_widths"] (sp_due n)) : FnOk P w K mg base CX0 (n + 3) A.a_L_due A.d_L_due ["_law_saying", "_law_widths"] (sp_due (n + 1)) := by
  refine T.F_L_due.ok sc_L_due (fun vs H Q E h => ?_) (fun cdv A' outer s H vs Q E hr h => ?_)
  · obtain ⟨kv, s, v, wd, kvs, r, rfl, hD, hwd, kw, wr, q⟩ := h
    rfl
  obtain ⟨kv, s, v, wd, kvs, r, rfl, hD, hwd, kw, wr, q⟩ := h
  have hu := hu_of hr
  refine ⟨_, (pss_cons (ps_if (pt_cmpR op_eq (pe_ix ix_tup (pv 0) pe_int (fun _ _ => rfl)) pe_str (nomark _)) (pss_one (ps_ret (pe_dget2 hu (pv 1) (pe_ix ix_tup (pv 0) pe_int (fun _ _ => rfl)) pe_int ⟨rfl, rfl, rfl, rfl⟩))) pss_nil)
    (pss_cons (ps_if (pt_cmpR op_eq (pe_ix ix_tup (pv 0) pe_int (fun _ _ => rfl)) pe_str (nomark _)) (pss_one (ps_ret (pe_ix ix_tup (pv 0) pe_int (fun _ _ => rfl)))) pss_nil)
    (pss_cons (ps_comp [] sc_L_due.nd (i := 2) rfl (Or.inl rfl) (fun _ _ h => h) rfl (pi_tup (pv 0)) (fun _ _ _ _ => (pts_one (PW.pt (pw_and (pt_truthK (K := K) rfl (pe_callB (call_isinstK (K := K) rfl (T := "tuple")) rfl T.isinstance PyProof.Rows.boot_isinstance (pa_cons (pv 0) (pa_cons (pe_bltn (v := .ty "tuple") rfl T.tuple PyProof.Rows.boot_tuple rfl) pa_nil))) (fun _ => rfl)) (pw_and1 (pt_truthK (K := K) rfl (pe_callB (call_isinstK (K := K) rfl (T := "str")) rfl T.isinstance PyProof.Rows.boot_isinstance (pa_cons (pe_ix (ix_tupK (K := K) rfl) (pv 0) pe_int (fun _ _ => rfl)) (pa_cons (pe_bltn (v := .ty "str") rfl T.str PyProof.Rows.boot_str rfl) pa_nil))) (fun _ => rfl))))))) (fun _ _ _ _ => (pv 0)) rfl (show ∀ j ∈ ([] : List Nat), j < 3 by decide) (show (["_law_part"] : List Str).Nodup by decide +kernel) (by with_unfolding_all rfl))
    (pss_one (ps_ret (pe_call G_L_by (hr.mono (by first | decide | omega)) rfl T.M_L_by T.F_L_by.kp T.B_L_by .nil pass0 (pa_cons (pv 0) (pa_cons (pe_comp [1] (fun _ _ h => h) rfl (pi_list (pv 2)) (fun _ _ _ _ => pts_nil) (fun _ _ _ _ => (pe_call G_L_due (hr.mono (by first | decide | omega)) rfl T.M_L_due T.F_L_due.kp T.B_L_due .nil pass0 (pa_cons (pv 0) (pa_cons (pv 1) pa_nil)))) rfl (show ∀ j ∈ ([1] : List Nat), j < 3 by decide) (show (["_law_part", "_law_widths"] : List Str).Nodup by decide +kernel)) pa_nil)))))))), ?_⟩
  cases s with
  | wire x =>
    have hD1 : Dat H (.tuple [.str "wire", .str x]) v := by simpa [Say.dat] using hD
    obtain ⟨p, xs, rfl, hp, hxs⟩ := hD1.tupI
    obtain ⟨y0, t0, rfl, hy0, ht0⟩ := hxs.consI
    obtain ⟨y1, t1, rfl, hy1, ht1⟩ := ht0.consI
    have e0 : y0 = .str "wire" := by unfold Dat at hy0; exact hy0
    have e1 : y1 = .str x := by unfold Dat at hy1; exact hy1
    have e2 := ht1.nilI
    subst e0 e1 e2
    refine ⟨_, rfl, p, _, _, _, rfl, rfl, SqT.of hp, rfl, rfl, _, rfl, ?_⟩
    refine ite_t (by decide) ?_
    refine ⟨_, rfl, wd, rfl, .inl ⟨kvs, .inl hwd⟩, _, rfl, p, _, _, _, rfl, rfl, SqT.of hp, rfl, _, DGet.k (k := .inr x) hwd, ?_⟩
    rw [kw.1 x]
    have e3 : ((kv x).map V.int).getD (V.int 0) = V.int (r.getD 0) := by
      rw [show r = kv x from wr]
      cases kv x <;> rfl
    rw [e3]
    exact q H (Same.refl H)
  | num i w' =>
    have hD1 : Dat H (.tuple [.str "number", .int i, .int w']) v := by simpa [Say.dat] using hD
    obtain ⟨p, xs, rfl, hp, hxs⟩ := hD1.tupI
    obtain ⟨y0, t0, rfl, hy0, ht0⟩ := hxs.consI
    obtain ⟨y1, t1, rfl, hy1, ht1⟩ := ht0.consI
    obtain ⟨y2, t2, rfl, hy2, ht2⟩ := ht1.consI
    have e0 : y0 = .str "number" := by unfold Dat at hy0; exact hy0
    have e1 := hy1.intI
    have e2 := hy2.intI
    have e3 := ht2.nilI
    subst e0 e1 e2 e3
    refine ⟨_, rfl, p, _, _, _, rfl, rfl, SqT.of hp, rfl, rfl, _, rfl, ?_⟩
    refine ite_f (by decide) ⟨_, rfl, p, _, _, _, rfl, rfl, SqT.of hp, rfl, rfl, _, rfl, ?_⟩
    refine ite_t (by decide) ?_
    refine ⟨_, rfl, p, _, _, _, rfl, rfl, SqT.of hp, rfl, ?_⟩
    have e3 : r = some w' := wr.1
    rw [e3] at q
    exact q H (Same.refl H)
  | node z hd subs =>
    have hD1 : Dat H (.tuple (.str z :: (hd ++ Say.dats subs))) v := by simpa [Say.dat] using hD
    obtain ⟨nd, rs, hl, hrs, hc⟩ := wr
    obtain ⟨hz, hzw, hzn, hfk, hh2, k1, k3⟩ := nd.form
    have hD2 := hD1
    obtain ⟨p, xs, rfl, hp, hxs⟩ := hD1.tupI
    have hxs0 := hxs
    obtain ⟨x0, r0, rfl, h0, hr0⟩ := hxs.consI
    have e0 : x0 = .str z := by unfold Dat at h0; exact h0
    subst e0
    refine ⟨_, rfl, p, _, _, _, rfl, rfl, SqT.of hp, (show atI _ ((0 : Nat) : Int) = _ from atI_nat rfl), rfl, _, rfl, ?_⟩
    refine ite_f (decide_eq_false fun h => hzw (by injection h)) ⟨_, rfl, p, _, _, _, rfl, rfl, SqT.of hp, (show atI _ ((0 : Nat) : Int) = _ from atI_nat rfl), rfl, _, rfl, ?_⟩
    refine ite_f (decide_eq_false fun h => hzn (by injection h)) ?_
    have hxl := hxs0.length
    rw [List.length_cons, List.length_append, dats_eq, List.length_map] at hxl
    refine ⟨_, rfl, p, rfl, ⟨_, SqT.of hp⟩, comp_tup (xs := .str z :: r0) (fun i ys H' => H = H' ∧ ys = ((V.str z :: r0).take i).drop (1 + hd.length)) ⟨rfl, by simp⟩ ?_ ?_ ?_ ?_⟩
    · rintro i ys H' _ ⟨rfl, _⟩
      exact SqT.of hp
    · rintro i ys H' hi ⟨rfl, rfl⟩
      rw [List.length_drop, List.length_take]
      exact smallL (by omega)
    · rintro i x ys H' hx ⟨rfl, rfl⟩
      obtain ⟨hi, hxe⟩ := List.getElem?_eq_some_iff.mp hx
      obtain ⟨d, hd1, hdx⟩ := hxs0.get hx
      have hskip : i < 1 + hd.length → ((V.str z :: r0).take i).drop (1 + hd.length) = ((V.str z :: r0).take (i + 1)).drop (1 + hd.length) := fun h => by
        rw [List.drop_eq_nil_of_le (by rw [List.length_take]; omega), List.drop_eq_nil_of_le (by rw [List.length_take]; omega)]
      obtain ⟨t, ty, _, _, _, kT, _⟩ := hdx.ty (K := K)
      refine ⟨_, rfl, x, t, _, rfl, ty, kT, _, rfl, ?_⟩
      by_cases him : i < 1 + hd.length
      · have hcase : dTup d = false ∨ ∃ ns : List Int, ∃ n0 : Int, d = .tuple ((n0 :: ns).map PyData.int) := by
          cases i with
          | zero => cases hd1; exact .inl rfl
          | succ i =>
            have hd2 : (hd ++ Say.dats subs)[i]? = some d := hd1
            rw [List.getElem?_append_left (by omega)] at hd2
            exact nd_hd nd (List.mem_of_getElem? hd2)
        rcases hcase with hT | ⟨ns, n0, rfl⟩
        · rw [hT]
          refine ite_f rfl (ite_f rfl ⟨rfl, hskip him⟩)
        · obtain ⟨pp, qs, rfl, hpp, hqs⟩ := hdx.tupI
          have eqs : qs = (n0 :: ns).map V.int := dats_ints hqs
          subst eqs
          refine ite_t rfl ?_
          refine ⟨_, rfl, pp, _, _, _, rfl, rfl, SqT.of hpp, (show atI _ ((0 : Nat) : Int) = some (V.int n0) from atI_nat rfl), _, _, false, rfl, TyOf.int _, rfl, _, rfl, ?_⟩
          exact ite_f rfl ⟨rfl, hskip him⟩
      · have hsub : ∃ s', subs[i - (1 + hd.length)]? = some s' ∧ d = s'.dat := by
          cases i with
          | zero => omega
          | succ i =>
            have hd2 : (hd ++ Say.dats subs)[i]? = some d := hd1
            rw [List.getElem?_append_right (by omega), dats_eq, List.getElem?_map] at hd2
            obtain ⟨s', hs1, hs2⟩ := Option.map_eq_some_iff.mp hd2
            exact ⟨s', by rw [show i + 1 - (1 + hd.length) = i - hd.length by omega]; exact hs1, hs2.symm⟩
        obtain ⟨s', _, rfl⟩ := hsub
        obtain ⟨ww, rest, hdat⟩ := dat_tup s'
        rw [hdat] at hdx ⊢
        obtain ⟨pp, qs, rfl, hpp, hqs⟩ := hdx.tupI
        obtain ⟨y0, yr, rfl, hy0, _⟩ := hqs.consI
        have ey : y0 = .str ww := by unfold Dat at hy0; exact hy0
        subst ey
        refine ite_t rfl ?_
        refine ⟨_, rfl, pp, _, _, _, rfl, rfl, SqT.of hpp, (show atI _ ((0 : Nat) : Int) = _ from atI_nat rfl), _, _, true, rfl, TyOf.str _, rfl, _, rfl, ?_⟩
        refine ite_t rfl ?_
        refine ⟨_, rfl, rfl, ?_⟩
        rw [List.take_add_one, hx, List.drop_append_of_le_length (by rw [List.length_take]; omega)]
        rfl
    · rintro ys H' ⟨rfl, rfl⟩ pl hpl
      have etk : ((V.str z :: r0).take (V.str z :: r0).length).drop (1 + hd.length) = r0.drop hd.length := by
        rw [List.take_length, Nat.add_comm]
        rfl
      rw [etk]
      have t1 := same_new hpl (.lst (r0.drop hd.length))
      have fl := upd_same (H := H) (a := pl) (o := .lst (r0.drop hd.length))
      generalize upd H pl (.lst (r0.drop hd.length)) = H1 at t1 fl ⊢
      have hys : Dats H1 (Say.dats subs) (r0.drop hd.length) := by
        have := (hr0.same t1).drop hd.length
        rw [List.drop_left] at this
        exact this
      have hyl := hys.length
      rw [dats_eq, List.length_map] at hyl
      generalize r0.drop hd.length = ys at fl hys hyl
      refine ⟨_, rfl, _, rfl, pl, rfl, ⟨_, SqL.of fl⟩, comp_list (xs := ys) (fun i zs H' => Same H1 H' ∧ zs = (rs.take i).map fun q => V.int (q.getD 0)) ⟨Same.refl _, rfl⟩ ?_ ?_ ?_ ?_⟩
      · rintro i zs H' _ ⟨s', _⟩
        exact SqL.of (s' _ _ fl)
      · rintro i zs H' hi ⟨s', rfl⟩
        rw [List.length_map, List.length_take]
        exact smallL (by omega)
      · rintro i x zs H' hx ⟨s', rfl⟩
        obtain ⟨d, hd', hdx⟩ := hys.get hx
        rw [dats_eq, List.getElem?_map] at hd'
        obtain ⟨t, hsi, rfl⟩ := Option.map_eq_some_iff.mp hd'
        obtain ⟨qq, hq1, hq2⟩ := hrs i t hsi
        unfold tYes
        refine iteT ⟨_, rfl, _, rfl, kv, t, x, wd, kvs, qq, rfl, hdx.same s', (t1.trans s') _ _ hwd, kw, hq2, fun H3 s3 => ?_⟩
        refine ⟨s'.trans s3, ?_⟩
        rw [List.take_add_one, hq1, List.map_append]
        rfl
      · rintro zs H' ⟨s', rfl⟩ pi hpi
        have htk : rs.take ys.length = rs := by rw [← hyl, ← hl]; exact List.take_length
        rw [htk]
        have t4 := same_new hpi (.lst (rs.map fun q => V.int (q.getD 0)))
        refine ⟨z, hd, Say.dats subs, _, pi, rs, r, rfl, hD2.same ((t1.trans s').trans t4), upd_same, by omega, fun w' hw' => ?_, hc, fun H5 s5 => q H5 (((t1.trans s').trans t4).trans s5)⟩
        obtain ⟨i, hi, ei⟩ := List.getElem_of_mem hw'
        obtain ⟨qq, hq1, hq2⟩ := hrs i subs[i] (List.getElem?_eq_getElem (by omega))
        rw [List.getElem?_eq_getElem hi, ei] at hq1
        exact hq2.bound kw.2 w' (Option.some.inj hq1).symm
theorem ok_L_good (T : Tx w K mg A) : FnOk P w K mg base CX0 1 A.a_L_good A.d_L_good ["_law_found", "_law_due_here"] sp_L_good := by
  refine T.F_L_good.ok sc_L_good (fun vs H Q E h => ?_) (fun cdv A' outer s H vs Q E hr h => ?_)
  · obtain ⟨r, rfl, hr1, q⟩ := h
    rfl
  obtain ⟨r, rfl, hr1, q⟩ := h
  refine ⟨_, (pss_cons (ps_if (pt_cmpR op_eq (pv 1) pe_int (nomark _)) (pss_one (ps_ret (pe_cmpR op_isN (pv 0) pe_non (nomark _)))) pss_nil)
    (pss_one (ps_ret (pe_and (pe_callB (call_isinst (T := "int")) rfl T.isinstance PyProof.Rows.boot_isinstance (pa_cons (pv 0) (pa_cons (pe_bltn (v := .ty "int") rfl T.int PyProof.Rows.boot_int rfl) pa_nil))) (pe_and (pe_not (pe_callB (call_isinst (T := "bool")) rfl T.isinstance PyProof.Rows.boot_isinstance (pa_cons (pv 0) (pa_cons (pe_bltn (v := .ty "bool") rfl T.bool PyProof.Rows.boot_bool rfl) pa_nil)))) (pe_one (pe_cmpR op_eq (pv 0) (pv 1) (nomark _)))))))), ?_⟩
  refine ⟨_, rfl, rfl, _, rfl, ?_⟩
  cases r with
  | none =>
    refine ite_t (by decide) ?_
    refine ⟨_, rfl, rfl, ?_⟩
    rw [show decide (vO none = V.non) = true from rfl]
    exact q
  | some w =>
    have hw := hr1 w rfl
    refine ite_f (decide_eq_false (by intro e; injection e with e; have e' : w = 0 := e; omega)) ?_
    refine ⟨_, rfl, _, _, true, rfl, TyOf.int _, rfl, _, rfl, ?_⟩
    refine iteT ⟨_, rfl, _, _, false, rfl, TyOf.int _, rfl, _, rfl, _, rfl, ?_⟩
    refine iteT ⟨_, rfl, _, rfl, rfl, ?_⟩
    rw [show decide (vO (some w) = V.int ((some w).getD 0)) = true from decide_eq_true rfl]
    exact q
theorem ok_law (T : Tx w K mg A) (G_L_bag : FnOk P w K mg base CX0 1 A.a_L_bag A.d_L_bag ["_law_script", "_law_at"] (sp_L_bag K)) (G_L_names : FnOk P w K mg base CX0 2 A.a_L_names A.d_L_names ["_law_bag_here"] sp_L_names) (G_L_any : FnOk P w K mg base CX0 9 A.a_L_any A.d_L_any ["_law_bag_here", "_law_names_here", "_law_widths", "_law_width", "_law_deep", "_law_room"] (sp_any 6)) (G_L_take : FnOk P w K mg base CX0 1 A.a_L_take A.d_L_take ["_law_bag_here", "_law_many"] sp_L_take) (G_L_good : FnOk P w K mg base CX0 1 A.a_L_good A.d_L_good ["_law_found", "_law_due_here"] sp_L_good) (G_width_of : FnOk P w K mg base CX0 9 A.a_width_of A.d_width_of ["saying", "widths"] (sp_width 6)) (G_L_due : FnOk P w K mg base CX0 9 A.a_L_due A.d_L_due ["_law_saying", "_law_widths"] (sp_due 6)) : FnOk P w K mg base CX0 10 A.a_law A.d_law ["_law_script"] (sp_law K) := by
  refine T.F_law.ok sc_law (fun vs H Q E h => ?_) (fun cdv A' outer s H vs Q E hr h => ?_)
  · obtain ⟨a, ns, rfl, hS, h63, q⟩ := h
    rfl
  obtain ⟨a, ns, rfl, hS, h63, q⟩ := h
  have hu := hu_of hr
  refine ⟨_, (pss_cons (ps_for PassesOwn.never rfl (pi_range1 rfl T.range (pa_cons (pe_callB (call_max2 rfl) rfl T.max PyProof.Rows.boot_max (pa_cons pe_int (pa_cons (pe_callB (call_min2 rfl) rfl T.min PyProof.Rows.boot_min (pa_cons (pe_callB call_len rfl T.len PySem.boot_len (pa_cons (pv 0) pa_nil)) (pa_cons pe_int pa_nil))) pa_nil))) pa_nil)) (pg_name (i := 1) sc_law.nd rfl (Or.inl rfl))
        (pss_cons (ps_set (i := 2) sc_law.nd rfl (Or.inl rfl) (pe_call G_L_bag (hr.mono (by first | decide | omega)) rfl T.M_L_bag T.F_L_bag.kp T.B_L_bag .nil pass0 (pa_cons (pv 0) (pa_cons (pv 1) pa_nil))))
    (pss_cons (ps_set (i := 3) sc_law.nd rfl (Or.inl rfl) (pe_call G_L_names (hr.mono (by first | decide | omega)) rfl T.M_L_names T.F_L_names.kp T.B_L_names .nil pass0 (pa_cons (pv 2) pa_nil)))
    (pss_cons (ps_set (i := 4) sc_law.nd rfl (Or.inl rfl) pe_dnewK)
    (pss_cons (ps_for PassesOwn.never rfl (pi_list (pe_slice sl_list (pv 3) po_none (po_some pe_int))) (pg_name (i := 5) sc_law.nd rfl (Or.inl rfl))
        (pss_one (ps_dput hu (pv 4) (pv 5) (pe_op op_add pe_int (pe_call G_L_take (hr.mono (by first | decide | omega)) rfl T.M_L_take T.F_L_take.kp T.B_L_take .nil pass0 (pa_cons (pv 2) (pa_cons pe_int pa_nil)))) rfl)))
    (pss_cons (ps_set (i := 6) sc_law.nd rfl (Or.inl rfl) (pe_call G_L_any (hr.mono (by first | decide | omega)) rfl T.M_L_any T.F_L_any.kp T.B_L_any .nil pass0 (pa_cons (pv 2) (pa_cons (pv 3) (pa_cons (pv 4) (pa_cons (pe_op op_add pe_int (pe_call G_L_take (hr.mono (by first | decide | omega)) rfl T.M_L_take T.F_L_take.kp T.B_L_take .nil pass0 (pa_cons (pv 2) (pa_cons pe_int pa_nil)))) (pa_cons pe_int (pa_cons pe_int pa_nil))))))))
    (pss_one (ps_for PassesOwn.never rfl (pi_range1 rfl T.range (pa_cons pe_int pa_nil)) (pg_name (i := 7) sc_law.nd rfl (Or.inl rfl))
        (pss_cons (ps_set (i := 8) sc_law.nd rfl (Or.inl rfl) (pe_callTy call_dict_of rfl T.dict PyProof.Rows.boot_dict (pa_cons (pv 4) pa_nil)))
    (pss_cons (ps_if (PW.pt (pw_or (pt_not (pt_truth (pe_call G_L_good (hr.mono (by first | decide | omega)) rfl T.M_L_good T.F_L_good.kp T.B_L_good .nil pass0 (pa_cons (pe_call G_width_of (hr.mono (by first | decide | omega)) rfl T.M_width_of T.F_width_of.kp T.B_width_of .nil pass0 (pa_cons (pv 6) (pa_cons (pv 8) pa_nil))) (pa_cons (pe_call G_L_due (hr.mono (by first | decide | omega)) rfl T.M_L_due T.F_L_due.kp T.B_L_due .nil pass0 (pa_cons (pv 6) (pa_cons (pv 4) pa_nil))) pa_nil))) (fun _ => rfl))) (pw_or1 (pt_cmpR (op_neDict hu) (pv 8) (pv 4) (nomark _))))) (pss_one (ps_ret pe_bl)) pss_nil)
    (pss_one (ps_dput hu (pv 4) (pe_ix ix_list (pv 3) pe_int (fun _ _ => rfl)) (pe_op op_add pe_int (pe_call G_L_take (hr.mono (by first | decide | omega)) rfl T.M_L_take T.F_L_take.kp T.B_L_take .nil pass0 (pa_cons (pv 2) (pa_cons pe_int pa_nil)))) rfl))))))))))))
    (pss_one (ps_ret pe_bl))), ?_⟩
  have hl : (ns.map V.int).length = ns.length := List.length_map _
  refine ⟨_, rfl, _, _, rfl, .inl ⟨_, hS, rfl⟩, _, _, rfl, _, _, rfl, _, rfl, ?_, ?_, for_range (lo := 0) (fun i σ H' => ∃ (x1 x2 x3 x4 x5 x6 x7 x8 : Option V), σ = [some (.ref a), x1, x2, x3, x4, x5, x6, x7, x8] ∧ Same H H') ⟨_, _, _, _, _, _, _, _, rfl, Same.refl H⟩ ?_ ?_⟩
  · split <;> split <;> omega
  · split <;> split <;> omega
  · rintro i σ H1 hi ⟨x1, x2, x3, x4, x5, x6, x7, x8, rfl, s1⟩
    refine ⟨_, rfl, _, rfl, a, ns, _, rfl, s1.seq hS, h63, by omega, fun l b0 b1 hl1 hb0 => ?_⟩
    have s2 := s1.trans (same_new hl1 (.lst [.int b0, .int b1]))
    have bag2 : Bag (upd H1 l (.lst [.int b0, .int b1])) l := ⟨b0, b1, upd_same, hb0⟩
    have hlH := s1.free hl1
    generalize upd H1 l (.lst [.int b0, .int b1]) = H2 at s2 bag2 ⊢
    refine ⟨_, rfl, l, rfl, bag2, fun pn zs H3 hz6 npl hpn g3 fn => ?_⟩
    refine fun wd hwd => ?_
    have nwl : wd ≠ l := g3.2.ne hwd
    have nwn : pn ≠ wd := ne_of_none fn hwd
    have hwd2 : H2 wd = none := by
      cases hh : H2 wd with
      | none => rfl
      | some o => rw [g3.1 wd o nwl hh] at hwd; cases hwd
    have g4 := g3.trans (Bg.new g3.2 hwd (.dK []))
    have fn4 := (same_new hwd (.dK [])) _ _ fn
    have fw4 := upd_same (H := H3) (a := wd) (o := .dK [])
    generalize upd H3 wd (.dK []) = H4 at g4 fn4 fw4 ⊢
    refine ⟨_, rfl, _, rfl, pn, _, rfl, SqL.of fn4, fun p5 hp5 => ?_⟩
    have hcut : cutV (zs.map V.str) none (some 5) = (zs.take 5).map V.str := by
      rw [show (5 : Int) = ((5 : Nat) : Int) from rfl, cut_to (by rw [List.length_map]; omega), List.map_take]
    rw [hcut]
    have n5l : p5 ≠ l := g4.2.ne hp5
    have n5w : p5 ≠ wd := (ne_of_none fw4 hp5).symm
    have g5 := g4.trans (Bg.new g4.2 hp5 (.lst ((zs.take 5).map V.str)))
    have fn5 := (same_new hp5 (.lst ((zs.take 5).map V.str))) _ _ fn4
    have fw5 := (same_new hp5 (.lst ((zs.take 5).map V.str))) _ _ fw4
    have f5 := upd_same (H := H4) (a := p5) (o := .lst ((zs.take 5).map V.str))
    generalize upd H4 p5 (.lst ((zs.take 5).map V.str)) = H5 at g5 fn5 fw5 f5 ⊢
    refine ⟨p5, rfl, ⟨_, SqL.of f5⟩, for_list (xs := (zs.take 5).map V.str) (fun j σ H' => ∃ (y5 : Option V) (kvs : List (Key × V)), σ = [some (.ref a), some (.int (0 + (i : Int))), some (.ref l), some (.ref pn), some (.ref wd), y5, x6, x7, x8] ∧ Bg l H2 H' ∧ H' pn = some (.lst (zs.map V.str)) ∧ H' p5 = some (.lst ((zs.take 5).map V.str)) ∧ H' wd = some (.dK kvs) ∧ GoodD kvs j) ⟨_, [], rfl, g5, fn5, f5, fw5, GoodD.nil⟩ ?_ ?_ ?_⟩
    · rintro j σ H' _ ⟨_, _, _, _, _, h, _⟩
      exact SqL.of h
    · rintro j x σ H' hx ⟨y5, kvs, rfl, g, hn, h5, hw, gd⟩
      rw [List.getElem?_map] at hx
      obtain ⟨zz, hzz, rfl⟩ := Option.map_eq_some_iff.mp hx
      have hj := (List.getElem?_eq_some_iff.mp hzz).1
      rw [List.length_take] at hj
      have hkl := gd.2.2
      refine ⟨_, rfl, l, 8, rfl, g.2, by decide, by decide, fun d H7 d0 d1 hb7 => ?_⟩
      have hw7 := hb7.1 _ _ nwl hw
      refine ⟨_, _, rfl, rfl, _, rfl, _, rfl, wd, _, rfl, DPut.k (k := .inr zz) hw7 (smallL (by omega)), ?_⟩
      refine ⟨_, _, rfl, (g.trans hb7).set hwd2 nwl _, ?_, ?_, upd_same, gd.put (by omega) (by omega)⟩
      · rw [upd_ne nwn]; exact hb7.1 _ _ npl hn
      · rw [upd_ne n5w]; exact hb7.1 _ _ n5l h5
    · rintro σ H6 ⟨y5, kvs, rfl, g6, fn6, _, fw6, gd⟩
      rw [List.length_map, List.length_take] at gd
      obtain ⟨kv, kw⟩ := gd.kw
      refine ⟨_, rfl, _, rfl, _, rfl, _, rfl, l, 8, rfl, g6.2, by decide, by decide, fun d H7 d0 d1 hb7 => ?_⟩
      have g7 := g6.trans hb7
      refine ⟨_, _, rfl, rfl, l, pn, wd, zs, kvs, kv, 1 + d, 40, rfl, by decide, g7.2, hb7.1 _ _ npl fn6, hz6, npl, hb7.1 _ _ nwl fw6, kw, by omega, by omega, by decide, fun s v H8 ws hD g8 => ?_⟩
      have g28 := g7.trans g8
      have fn8 := g8.1 _ _ npl (hb7.1 _ _ npl fn6)
      have fw8 := g8.1 _ _ nwl (hb7.1 _ _ nwl fw6)
      refine ⟨_, rfl, by decide, by decide, for_range (lo := 0) (fun j σ H' => ∃ (y7 y8 : Option V) (kvs : List (Key × V)), σ = [some (.ref a), some (.int (0 + (i : Int))), some (.ref l), some (.ref pn), some (.ref wd), y5, some v, y7, y8] ∧ Bg l H2 H' ∧ H' pn = some (.lst (zs.map V.str)) ∧ H' wd = some (.dK kvs) ∧ GoodD kvs (6 + j) ∧ Dat H' s.dat v) ⟨_, _, kvs, rfl, g28, fn8, fw8, gd.up (by omega), hD⟩ ?_ ?_⟩
      · rintro j σ H9 hj ⟨y7, y8, kvs, rfl, g9, fn9, fw9, gd, hD⟩
        have hj2 : j < 2 := hj
        obtain ⟨kv, kw⟩ := gd.kw
        obtain ⟨r, wr⟩ := ws.ex (kv := kv)
        have hkl := gd.2.2
        refine ⟨_, rfl, wd, kvs, rfl, fw9, fun ph hph => ?_⟩
        have t10 := same_new hph (.dK kvs)
        have fh := upd_same (H := H9) (a := ph) (o := .dK kvs)
        generalize upd H9 ph (.dK kvs) = H10 at t10 fh ⊢
        refine ⟨_, rfl, _, rfl, kv, s, v, ph, kvs, r, rfl, hD.same t10, fh, kw, wr, fun H11 t11 => ?_⟩
        have s11 := t10.trans t11
        refine ⟨_, rfl, _, rfl, kv, s, v, wd, kvs, r, rfl, hD.same s11, s11 _ _ fw9, kw, wr, fun H12 t12 => ?_⟩
        have s12 := s11.trans t12
        refine ⟨r, rfl, fun w' hw' => (wr.bound kw.2 w' hw').1, _, rfl, ?_⟩
        refine ite_f (by decide) ?_
        refine ⟨_, rfl, _, rfl, ph, wd, kvs, rfl, rfl, (t11.trans t12) _ _ fh, s12 _ _ fw9, fun kv' h' => ?_, gd.2.1, _, rfl, ?_⟩
        · obtain ⟨x', i', e', _⟩ := gd.1 kv' h'
          exact ⟨i', by rw [e']⟩
        refine ite_f (by decide) ?_
        have g12 := g9.trans (g9.2.same s12)
        refine ⟨_, rfl, l, 8, rfl, g12.2, by decide, by decide, fun d2 H13 d20 d21 hb13 => ?_⟩
        have fw13 := hb13.1 _ _ nwl (s12 _ _ fw9)
        have fn13 := hb13.1 _ _ npl (s12 _ _ fn9)
        have hD13 := (hD.same s12).keepT (Bg.keepT g12.2 hb13) ws.noL
        refine ⟨_, _, rfl, rfl, _, rfl, _, rfl, pn, _, _, _, rfl, rfl, SqL.of fn13, (show atI (zs.map V.str) ((5 : Nat) : Int) = some (.str zs[5]) from atI_nat (by rw [List.getElem?_map, List.getElem?_eq_getElem (by omega)]; rfl)), wd, _, rfl, DPut.k (k := .inr zs[5]) fw13 (smallL (by omega)), ?_⟩
        refine ⟨_, _, _, rfl, (g12.trans hb13).set hwd2 nwl _, ?_, upd_same, (gd.put (by omega) (by omega)).up (by omega), hD13.keepT (KeepT.dict fw13 _) ws.noL⟩
        rw [upd_ne nwn]
        exact fn13
      · rintro σ H9 ⟨y7, y8, kvs, rfl, g9, _⟩
        exact ⟨_, _, _, _, _, _, _, _, rfl, Bg.same hlH s2 g9⟩
  · rintro σ H1 ⟨x1, x2, x3, x4, x5, x6, x7, x8, rfl, s1⟩
    exact q _
end
theorem width_all {P : Program} {w : World} {K : PySem.W.Frag} {mg : Str → Option Value} {base : Heap} {A : Ad} (T : Tx w K mg A) (G_sayings_in : FnOk P w K mg base CX0 1 A.a_sayings_in A.d_sayings_in ["saying"] sp_sayings_in) (G_width_over : FnOk P w K mg base CX0 2 A.a_width_over A.d_width_over ["saying", "inner"] sp_over) : ∀ n, FnOk P w K mg base CX0 (n + 2) A.a_width_of A.d_width_of ["saying", "widths"] (sp_width n)
  | 0 => fn_none fun vs H Q E h => by
    obtain ⟨_, _, _, _, _, _, _, _, _, _, h1, _⟩ := h
    exact h1
  | n + 1 => ok_width_of T G_sayings_in G_width_over n (width_all T G_sayings_in G_width_over n)
theorem due_all {P : Program} {w : World} {K : PySem.W.Frag} {mg : Str → Option Value} {base : Heap} {A : Ad} (T : Tx w K mg A) (G_L_by : FnOk P w K mg base CX0 1 A.a_L_by A.d_L_by ["_law_saying", "_law_some"] sp_L_by) : ∀ n, FnOk P w K mg base CX0 (n + 2) A.a_L_due A.d_L_due ["_law_saying", "_law_widths"] (sp_due n)
  | 0 => fn_none fun vs H Q E h => by
    obtain ⟨_, _, _, _, _, _, _, _, _, _, h1, _⟩ := h
    exact h1
  | n + 1 => ok_L_due T G_L_by n (due_all T G_L_by n)
theorem any_all {P : Program} {w : World} {K : PySem.W.Frag} {mg : Str → Option Value} {base : Heap} {A : Ad} (T : Tx w K mg A) (G_L_take : FnOk P w K mg base CX0 1 A.a_L_take A.d_L_take ["_law_bag_here", "_law_many"] sp_L_take) (G_L_rooms : FnOk P w K mg base CX0 2 A.a_L_rooms A.d_L_rooms ["_law_bag_here", "_law_room", "_law_many"] sp_L_rooms) (G_L_leaf : FnOk P w K mg base CX0 2 A.a_L_leaf A.d_L_leaf ["_law_bag_here", "_law_names_here", "_law_widths", "_law_width"] sp_L_leaf) (G_L_wants : FnOk P w K mg base CX0 2 A.a_L_wants A.d_L_wants ["_law_bag_here", "_law_word", "_law_width"] sp_L_wants) : ∀ n, FnOk P w K mg base CX0 (n + 2) A.a_L_any A.d_L_any ["_law_bag_here", "_law_names_here", "_law_widths", "_law_width", "_law_deep", "_law_room"] (sp_any n)
  | 0 => fn_none fun vs H Q E h => by
    obtain ⟨_, _, _, _, _, _, _, _, _, h1, _⟩ := h
    omega
  | n + 1 => ok_L_any T G_L_take G_L_rooms G_L_leaf G_L_wants n (any_all T G_L_take G_L_rooms G_L_leaf G_L_wants n)


theorem all_ok {P : Program} {w : World} {K : PySem.W.Frag} {mg : Str → Option Value} {base : Heap} {A : Ad} (T : Tx w K mg A) : FnOk P w K mg base CX0 10 A.a_law A.d_law ["_law_script"] (sp_law K) := by
  have G_two_to := ok_two_to (P := P) (base := base) T
  have G_sayings_in := ok_sayings_in (P := P) (base := base) T
  have G_width_over := ok_width_over (P := P) (base := base) T G_two_to
  have G_width_of := (width_all (P := P) (base := base) T G_sayings_in G_width_over 6).mono (show 8 ≤ 9 by decide)
  have G_L_bag := ok_L_bag (P := P) (base := base) T
  have G_L_take := ok_L_take (P := P) (base := base) T
  have G_L_names := ok_L_names (P := P) (base := base) T G_L_take
  have G_L_rooms := ok_L_rooms (P := P) (base := base) T G_L_take
  have G_L_leaf := ok_L_leaf (P := P) (base := base) T G_L_take
  have G_L_wants := ok_L_wants (P := P) (base := base) T G_L_take
  have G_L_any := (any_all (P := P) (base := base) T G_L_take G_L_rooms G_L_leaf G_L_wants 6).mono (show 8 ≤ 9 by decide)
  have G_L_by := ok_L_by (P := P) (base := base) T
  have G_L_due := (due_all (P := P) (base := base) T G_L_by 6).mono (show 8 ≤ 9 by decide)
  have G_L_good := ok_L_good (P := P) (base := base) T
  exact ok_law T G_L_bag G_L_names G_L_any G_L_take G_L_good G_width_of G_L_due
theorem all_mk {w : World} {K : PySem.W.Frag} {h : Heap} {mg : Str → Option Value} {fa : Addr} (X : K.In h) (G : h.Ns mainGlobals mg) (hfa : mg "law" = some (.ref fa))
    {f0 f1 f2 f3 f4 f5 f6 f7 f8 f9 f10 f11 f12 f13 f14 : Addr} {od0 an0 od1 an1 od2 an2 od3 an3 od4 an4 od5 an5 od6 an6 od7 an7 od8 an8 od9 an9 od10 an10 od11 an11 od12 an12 od13 an13 od14 an14 : Option Addr} {sl0 sl1 sl2 sl3 sl4 sl5 sl6 sl7 sl8 sl9 sl10 sl11 sl12 sl13 sl14 : Array (Option Value)} {oc0 kV0 dc0 pm0 cd0 ct0 oc1 kV1 dc1 pm1 cd1 ct1 oc2 kV2 dc2 pm2 cd2 ct2 oc3 kV3 dc3 pm3 cd3 ct3 oc4 kV4 dc4 pm4 cd4 ct4 oc5 kV5 dc5 pm5 cd5 ct5 oc6 kV6 dc6 pm6 cd6 ct6 oc7 kV7 dc7 pm7 cd7 ct7 oc8 kV8 dc8 pm8 cd8 ct8 oc9 kV9 dc9 pm9 cd9 ct9 oc10 kV10 dc10 pm10 cd10 ct10 oc11 kV11 dc11 pm11 cd11 ct11 oc12 kV12 dc12 pm12 cd12 ct12 oc13 kV13 dc13 pm13 cd13 ct13 oc14 kV14 dc14 pm14 cd14 ct14 : Value}
    (a0 : PySem.W.nsIn K mainGlobals "two_to" = some (some (.ref f0))) (l0 : K.lookup f0 = some ⟨oc0, od0, .func (PySem.W.fnOf "two_to" "two_to" (defArgs s_two_to) (defBody s_two_to) (defScope s_two_to) .none kV0 dc0 pm0 an0 cd0 ct0), sl0⟩) (c0 : PySem.W.codeIn K cd0 "two_to" = true) (k0 : PySem.W.keepIn K (.ref f0) = true)
    (a1 : PySem.W.nsIn K mainGlobals "sayings_in" = some (some (.ref f1))) (l1 : K.lookup f1 = some ⟨oc1, od1, .func (PySem.W.fnOf "sayings_in" "sayings_in" (defArgs s_sayings_in) (defBody s_sayings_in) (defScope s_sayings_in) .none kV1 dc1 pm1 an1 cd1 ct1), sl1⟩) (c1 : PySem.W.codeIn K cd1 "sayings_in" = true) (k1 : PySem.W.keepIn K (.ref f1) = true)
    (a2 : PySem.W.nsIn K mainGlobals "width_of" = some (some (.ref f2))) (l2 : K.lookup f2 = some ⟨oc2, od2, .func (PySem.W.fnOf "width_of" "width_of" (defArgs s_width_of) (defBody s_width_of) (defScope s_width_of) .none kV2 dc2 pm2 an2 cd2 ct2), sl2⟩) (c2 : PySem.W.codeIn K cd2 "width_of" = true) (k2 : PySem.W.keepIn K (.ref f2) = true)
    (a3 : PySem.W.nsIn K mainGlobals "width_over" = some (some (.ref f3))) (l3 : K.lookup f3 = some ⟨oc3, od3, .func (PySem.W.fnOf "width_over" "width_over" (defArgs s_width_over) (defBody s_width_over) (defScope s_width_over) .none kV3 dc3 pm3 an3 cd3 ct3), sl3⟩) (c3 : PySem.W.codeIn K cd3 "width_over" = true) (k3 : PySem.W.keepIn K (.ref f3) = true)
    (a4 : PySem.W.nsIn K mainGlobals "_law_bag" = some (some (.ref f4))) (l4 : K.lookup f4 = some ⟨oc4, od4, .func (PySem.W.fnOf "_law_bag" "_law_bag" (defArgs s_L_bag) (defBody s_L_bag) (defScope s_L_bag) .none kV4 dc4 pm4 an4 cd4 ct4), sl4⟩) (c4 : PySem.W.codeIn K cd4 "_law_bag" = true) (k4 : PySem.W.keepIn K (.ref f4) = true)
    (a5 : PySem.W.nsIn K mainGlobals "_law_take" = some (some (.ref f5))) (l5 : K.lookup f5 = some ⟨oc5, od5, .func (PySem.W.fnOf "_law_take" "_law_take" (defArgs s_L_take) (defBody s_L_take) (defScope s_L_take) .none kV5 dc5 pm5 an5 cd5 ct5), sl5⟩) (c5 : PySem.W.codeIn K cd5 "_law_take" = true) (k5 : PySem.W.keepIn K (.ref f5) = true)
    (a6 : PySem.W.nsIn K mainGlobals "_law_names" = some (some (.ref f6))) (l6 : K.lookup f6 = some ⟨oc6, od6, .func (PySem.W.fnOf "_law_names" "_law_names" (defArgs s_L_names) (defBody s_L_names) (defScope s_L_names) .none kV6 dc6 pm6 an6 cd6 ct6), sl6⟩) (c6 : PySem.W.codeIn K cd6 "_law_names" = true) (k6 : PySem.W.keepIn K (.ref f6) = true)
    (a7 : PySem.W.nsIn K mainGlobals "_law_rooms" = some (some (.ref f7))) (l7 : K.lookup f7 = some ⟨oc7, od7, .func (PySem.W.fnOf "_law_rooms" "_law_rooms" (defArgs s_L_rooms) (defBody s_L_rooms) (defScope s_L_rooms) .none kV7 dc7 pm7 an7 cd7 ct7), sl7⟩) (c7 : PySem.W.codeIn K cd7 "_law_rooms" = true) (k7 : PySem.W.keepIn K (.ref f7) = true)
    (a8 : PySem.W.nsIn K mainGlobals "_law_leaf" = some (some (.ref f8))) (l8 : K.lookup f8 = some ⟨oc8, od8, .func (PySem.W.fnOf "_law_leaf" "_law_leaf" (defArgs s_L_leaf) (defBody s_L_leaf) (defScope s_L_leaf) .none kV8 dc8 pm8 an8 cd8 ct8), sl8⟩) (c8 : PySem.W.codeIn K cd8 "_law_leaf" = true) (k8 : PySem.W.keepIn K (.ref f8) = true)
    (a9 : PySem.W.nsIn K mainGlobals "_law_wants" = some (some (.ref f9))) (l9 : K.lookup f9 = some ⟨oc9, od9, .func (PySem.W.fnOf "_law_wants" "_law_wants" (defArgs s_L_wants) (defBody s_L_wants) (defScope s_L_wants) .none kV9 dc9 pm9 an9 cd9 ct9), sl9⟩) (c9 : PySem.W.codeIn K cd9 "_law_wants" = true) (k9 : PySem.W.keepIn K (.ref f9) = true)
    (a10 : PySem.W.nsIn K mainGlobals "_law_any" = some (some (.ref f10))) (l10 : K.lookup f10 = some ⟨oc10, od10, .func (PySem.W.fnOf "_law_any" "_law_any" (defArgs s_L_any) (defBody s_L_any) (defScope s_L_any) .none kV10 dc10 pm10 an10 cd10 ct10), sl10⟩) (c10 : PySem.W.codeIn K cd10 "_law_any" = true) (k10 : PySem.W.keepIn K (.ref f10) = true)
    (a11 : PySem.W.nsIn K mainGlobals "_law_by" = some (some (.ref f11))) (l11 : K.lookup f11 = some ⟨oc11, od11, .func (PySem.W.fnOf "_law_by" "_law_by" (defArgs s_L_by) (defBody s_L_by) (defScope s_L_by) .none kV11 dc11 pm11 an11 cd11 ct11), sl11⟩) (c11 : PySem.W.codeIn K cd11 "_law_by" = true) (k11 : PySem.W.keepIn K (.ref f11) = true)
    (a12 : PySem.W.nsIn K mainGlobals "_law_due" = some (some (.ref f12))) (l12 : K.lookup f12 = some ⟨oc12, od12, .func (PySem.W.fnOf "_law_due" "_law_due" (defArgs s_L_due) (defBody s_L_due) (defScope s_L_due) .none kV12 dc12 pm12 an12 cd12 ct12), sl12⟩) (c12 : PySem.W.codeIn K cd12 "_law_due" = true) (k12 : PySem.W.keepIn K (.ref f12) = true)
    (a13 : PySem.W.nsIn K mainGlobals "_law_good" = some (some (.ref f13))) (l13 : K.lookup f13 = some ⟨oc13, od13, .func (PySem.W.fnOf "_law_good" "_law_good" (defArgs s_L_good) (defBody s_L_good) (defScope s_L_good) .none kV13 dc13 pm13 an13 cd13 ct13), sl13⟩) (c13 : PySem.W.codeIn K cd13 "_law_good" = true) (k13 : PySem.W.keepIn K (.ref f13) = true)
    (a14 : PySem.W.nsIn K mainGlobals "law" = some (some (.ref f14))) (l14 : K.lookup f14 = some ⟨oc14, od14, .func (PySem.W.fnOf "law" "law" (defArgs s_law) (defBody s_law) (defScope s_law) .none kV14 dc14 pm14 an14 cd14 ct14), sl14⟩) (c14 : PySem.W.codeIn K cd14 "law" = true) (k14 : PySem.W.keepIn K (.ref f14) = true)
    (z0 : PySem.W.nsIn K mainGlobals "abs" = some none)
    (z1 : PySem.W.nsIn K mainGlobals "bool" = some none)
    (z2 : PySem.W.nsIn K mainGlobals "dict" = some none)
    (z3 : PySem.W.nsIn K mainGlobals "int" = some none)
    (z4 : PySem.W.nsIn K mainGlobals "isinstance" = some none)
    (z5 : PySem.W.nsIn K mainGlobals "len" = some none)
    (z6 : PySem.W.nsIn K mainGlobals "max" = some none)
    (z7 : PySem.W.nsIn K mainGlobals "min" = some none)
    (z8 : PySem.W.nsIn K mainGlobals "range" = some none)
    (z9 : PySem.W.nsIn K mainGlobals "str" = some none)
    (z10 : PySem.W.nsIn K mainGlobals "tuple" = some none)
    (z11 : PySem.W.nsIn K mainGlobals "zip" = some none)
    {t_MOST_WIDTH : Tok} (g_MOST_WIDTH : PySem.W.nsIn K mainGlobals "MOST_WIDTH" = some (some (.int 8 t_MOST_WIDTH)))
    {d_FORMS : Addr} (g_FORMS : PySem.W.nsIn K mainGlobals "FORMS" = some (some (.ref d_FORMS)))
    {es : Array DictEntry} {n_F : Nat} (l_FORMS : K.lookup d_FORMS = some ⟨.type "dict", none, .dict es n_F, #[]⟩) (kF : PySem.W.KeysLit w.params es.toList) (lo_F : (d_FORMS == sysModules) = false) {h0 h1 h2 h3 h4 h5 h6 h7 h8 h9 h10 h11 h12 h13 h14 h15 : Int} {t0 t1 t2 t3 t4 t5 t6 t7 t8 t9 t10 t11 t12 t13 t14 t15 : Tok} {p0 p1 p2 p3 p4 p5 p6 p7 p8 p9 p10 p11 p12 p13 p14 p15 : Addr} (eF : es.toList = [⟨h0, .str "wire" t0, .ref p0⟩, ⟨h1, .str "number" t1, .ref p1⟩, ⟨h2, .str "not" t2, .ref p2⟩, ⟨h3, .str "and" t3, .ref p3⟩, ⟨h4, .str "or" t4, .ref p4⟩, ⟨h5, .str "odd" t5, .ref p5⟩, ⟨h6, .str "sum" t6, .ref p6⟩, ⟨h7, .str "less" t7, .ref p7⟩, ⟨h8, .str "under" t8, .ref p8⟩, ⟨h9, .str "same" t9, .ref p9⟩, ⟨h10, .str "choice" t10, .ref p10⟩, ⟨h11, .str "up" t11, .ref p11⟩, ⟨h12, .str "down" t12, .ref p12⟩, ⟨h13, .str "join" t13, .ref p13⟩, ⟨h14, .str "cut" t14, .ref p14⟩, ⟨h15, .str "table" t15, .ref p15⟩]) {uF0 : Option Addr} {nF0 : Nat} {wF0 : Array (Option Value)} {xF0 yF0 : Tok} (lF0 : K.lookup p0 = some ⟨.type "tuple", uF0, .seq #[.int 2 xF0, .int 2 yF0] nF0, wF0⟩) {uF1 : Option Addr} {nF1 : Nat} {wF1 : Array (Option Value)} {xF1 yF1 : Tok} (lF1 : K.lookup p1 = some ⟨.type "tuple", uF1, .seq #[.int 3 xF1, .int 3 yF1] nF1, wF1⟩) {uF2 : Option Addr} {nF2 : Nat} {wF2 : Array (Option Value)} {xF2 yF2 : Tok} (lF2 : K.lookup p2 = some ⟨.type "tuple", uF2, .seq #[.int 2 xF2, .int 1 yF2] nF2, wF2⟩) {uF3 : Option Addr} {nF3 : Nat} {wF3 : Array (Option Value)} {xF3 yF3 : Tok} (lF3 : K.lookup p3 = some ⟨.type "tuple", uF3, .seq #[.int 3 xF3, .int 1 yF3] nF3, wF3⟩) {uF4 : Option Addr} {nF4 : Nat} {wF4 : Array (Option Value)} {xF4 yF4 : Tok} (lF4 : K.lookup p4 = some ⟨.type "tuple", uF4, .seq #[.int 3 xF4, .int 1 yF4] nF4, wF4⟩) {uF5 : Option Addr} {nF5 : Nat} {wF5 : Array (Option Value)} {xF5 yF5 : Tok} (lF5 : K.lookup p5 = some ⟨.type "tuple", uF5, .seq #[.int 3 xF5, .int 1 yF5] nF5, wF5⟩) {uF6 : Option Addr} {nF6 : Nat} {wF6 : Array (Option Value)} {xF6 yF6 : Tok} (lF6 : K.lookup p6 = some ⟨.type "tuple", uF6, .seq #[.int 3 xF6, .int 1 yF6] nF6, wF6⟩) {uF7 : Option Addr} {nF7 : Nat} {wF7 : Array (Option Value)} {xF7 yF7 : Tok} (lF7 : K.lookup p7 = some ⟨.type "tuple", uF7, .seq #[.int 3 xF7, .int 1 yF7] nF7, wF7⟩) {uF8 : Option Addr} {nF8 : Nat} {wF8 : Array (Option Value)} {xF8 yF8 : Tok} (lF8 : K.lookup p8 = some ⟨.type "tuple", uF8, .seq #[.int 3 xF8, .int 1 yF8] nF8, wF8⟩) {uF9 : Option Addr} {nF9 : Nat} {wF9 : Array (Option Value)} {xF9 yF9 : Tok} (lF9 : K.lookup p9 = some ⟨.type "tuple", uF9, .seq #[.int 3 xF9, .int 1 yF9] nF9, wF9⟩) {uF10 : Option Addr} {nF10 : Nat} {wF10 : Array (Option Value)} {xF10 yF10 : Tok} (lF10 : K.lookup p10 = some ⟨.type "tuple", uF10, .seq #[.int 4 xF10, .int 1 yF10] nF10, wF10⟩) {uF11 : Option Addr} {nF11 : Nat} {wF11 : Array (Option Value)} {xF11 yF11 : Tok} (lF11 : K.lookup p11 = some ⟨.type "tuple", uF11, .seq #[.int 3 xF11, .int 2 yF11] nF11, wF11⟩) {uF12 : Option Addr} {nF12 : Nat} {wF12 : Array (Option Value)} {xF12 yF12 : Tok} (lF12 : K.lookup p12 = some ⟨.type "tuple", uF12, .seq #[.int 3 xF12, .int 2 yF12] nF12, wF12⟩) {uF13 : Option Addr} {nF13 : Nat} {wF13 : Array (Option Value)} {xF13 yF13 : Tok} (lF13 : K.lookup p13 = some ⟨.type "tuple", uF13, .seq #[.int 3 xF13, .int 1 yF13] nF13, wF13⟩) {uF14 : Option Addr} {nF14 : Nat} {wF14 : Array (Option Value)} {xF14 yF14 : Tok} (lF14 : K.lookup p14 = some ⟨.type "tuple", uF14, .seq #[.int 4 xF14, .int 3 yF14] nF14, wF14⟩) {uF15 : Option Addr} {nF15 : Nat} {wF15 : Array (Option Value)} {xF15 yF15 : Tok} (lF15 : K.lookup p15 = some ⟨.type "tuple", uF15, .seq #[.int 4 xF15, .int 3 yF15] nF15, wF15⟩)
    {t_MOST_TABLE_WIDTH : Tok} (g_MOST_TABLE_WIDTH : PySem.W.nsIn K mainGlobals "MOST_TABLE_WIDTH" = some (some (.int 4 t_MOST_TABLE_WIDTH)))
    : ∃ A : Ad, A.a_law = fa ∧ (∀ (s : Shared) (v : Value), BindsTo s A.d_law ⟨[v], []⟩ [("_law_script", v)]) ∧ Tx w K mg A := by
  have e := hfa.symm.trans (PySem.W.mg_of X G a14)
  cases e
  have F0 := fun_mk (st := s_two_to) l0 c0 k0
  have F1 := fun_mk (st := s_sayings_in) l1 c1 k1
  have F2 := fun_mk (st := s_width_of) l2 c2 k2
  have F3 := fun_mk (st := s_width_over) l3 c3 k3
  have F4 := fun_mk (st := s_L_bag) l4 c4 k4
  have F5 := fun_mk (st := s_L_take) l5 c5 k5
  have F6 := fun_mk (st := s_L_names) l6 c6 k6
  have F7 := fun_mk (st := s_L_rooms) l7 c7 k7
  have F8 := fun_mk (st := s_L_leaf) l8 c8 k8
  have F9 := fun_mk (st := s_L_wants) l9 c9 k9
  have F10 := fun_mk (st := s_L_any) l10 c10 k10
  have F11 := fun_mk (st := s_L_by) l11 c11 k11
  have F12 := fun_mk (st := s_L_due) l12 c12 k12
  have F13 := fun_mk (st := s_L_good) l13 c13 k13
  have F14 := fun_mk (st := s_law) l14 c14 k14
  refine ⟨⟨f0, PySem.W.fnOf "two_to" "two_to" (defArgs s_two_to) (defBody s_two_to) (defScope s_two_to) .none kV0 dc0 pm0 an0 cd0 ct0, f1, PySem.W.fnOf "sayings_in" "sayings_in" (defArgs s_sayings_in) (defBody s_sayings_in) (defScope s_sayings_in) .none kV1 dc1 pm1 an1 cd1 ct1, f2, PySem.W.fnOf "width_of" "width_of" (defArgs s_width_of) (defBody s_width_of) (defScope s_width_of) .none kV2 dc2 pm2 an2 cd2 ct2, f3, PySem.W.fnOf "width_over" "width_over" (defArgs s_width_over) (defBody s_width_over) (defScope s_width_over) .none kV3 dc3 pm3 an3 cd3 ct3, f4, PySem.W.fnOf "_law_bag" "_law_bag" (defArgs s_L_bag) (defBody s_L_bag) (defScope s_L_bag) .none kV4 dc4 pm4 an4 cd4 ct4, f5, PySem.W.fnOf "_law_take" "_law_take" (defArgs s_L_take) (defBody s_L_take) (defScope s_L_take) .none kV5 dc5 pm5 an5 cd5 ct5, f6, PySem.W.fnOf "_law_names" "_law_names" (defArgs s_L_names) (defBody s_L_names) (defScope s_L_names) .none kV6 dc6 pm6 an6 cd6 ct6, f7, PySem.W.fnOf "_law_rooms" "_law_rooms" (defArgs s_L_rooms) (defBody s_L_rooms) (defScope s_L_rooms) .none kV7 dc7 pm7 an7 cd7 ct7, f8, PySem.W.fnOf "_law_leaf" "_law_leaf" (defArgs s_L_leaf) (defBody s_L_leaf) (defScope s_L_leaf) .none kV8 dc8 pm8 an8 cd8 ct8, f9, PySem.W.fnOf "_law_wants" "_law_wants" (defArgs s_L_wants) (defBody s_L_wants) (defScope s_L_wants) .none kV9 dc9 pm9 an9 cd9 ct9, f10, PySem.W.fnOf "_law_any" "_law_any" (defArgs s_L_any) (defBody s_L_any) (defScope s_L_any) .none kV10 dc10 pm10 an10 cd10 ct10, f11, PySem.W.fnOf "_law_by" "_law_by" (defArgs s_L_by) (defBody s_L_by) (defScope s_L_by) .none kV11 dc11 pm11 an11 cd11 ct11, f12, PySem.W.fnOf "_law_due" "_law_due" (defArgs s_L_due) (defBody s_L_due) (defScope s_L_due) .none kV12 dc12 pm12 an12 cd12 ct12, f13, PySem.W.fnOf "_law_good" "_law_good" (defArgs s_L_good) (defBody s_L_good) (defScope s_L_good) .none kV13 dc13 pm13 an13 cd13 ct13, fa, PySem.W.fnOf "law" "law" (defArgs s_law) (defBody s_law) (defScope s_law) .none kV14 dc14 pm14 an14 cd14 ct14, d_FORMS⟩, rfl, fun s v => .of_eq rfl, ?_⟩
  exact ⟨PySem.W.mg_none_of X G z0, PySem.W.mg_none_of X G z1, PySem.W.mg_none_of X G z2, PySem.W.mg_none_of X G z3, PySem.W.mg_none_of X G z4, PySem.W.mg_none_of X G z5, PySem.W.mg_none_of X G z6, PySem.W.mg_none_of X G z7, PySem.W.mg_none_of X G z8, PySem.W.mg_none_of X G z9, PySem.W.mg_none_of X G z10, PySem.W.mg_none_of X G z11, ⟨_, PySem.W.mg_of X G g_MOST_WIDTH⟩, PySem.W.mg_of X G g_FORMS, ⟨[("wire", .ref p0), ("number", .ref p1), ("not", .ref p2), ("and", .ref p3), ("or", .ref p4), ("odd", .ref p5), ("sum", .ref p6), ("less", .ref p7), ("under", .ref p8), ("same", .ref p9), ("choice", .ref p10), ("up", .ref p11), ("down", .ref p12), ("join", .ref p13), ("cut", .ref p14), ("table", .ref p15)], ⟨⟨es, n_F, l_FORMS, kF, by rw [eF]; repeat (first | exact .nil | refine .cons ⟨⟨_, rfl⟩, rfl⟩ ?_)⟩, lo_F⟩, fun z hz => by
    simp only [words, List.mem_cons, List.not_mem_nil, or_false] at hz
    rcases hz with rfl | rfl | rfl | rfl | rfl | rfl | rfl | rfl | rfl | rfl | rfl | rfl | rfl | rfl | rfl | rfl
    · exact ⟨p0, rfl, fun H => .inr ⟨_, _, _, lF0, rfl, rfl, (by show 2 ≤ sizeLine; decide), .cons ⟨_, rfl⟩ (.cons ⟨_, rfl⟩ .nil)⟩⟩
    · exact ⟨p1, rfl, fun H => .inr ⟨_, _, _, lF1, rfl, rfl, (by show 2 ≤ sizeLine; decide), .cons ⟨_, rfl⟩ (.cons ⟨_, rfl⟩ .nil)⟩⟩
    · exact ⟨p2, rfl, fun H => .inr ⟨_, _, _, lF2, rfl, rfl, (by show 2 ≤ sizeLine; decide), .cons ⟨_, rfl⟩ (.cons ⟨_, rfl⟩ .nil)⟩⟩
    · exact ⟨p3, rfl, fun H => .inr ⟨_, _, _, lF3, rfl, rfl, (by show 2 ≤ sizeLine; decide), .cons ⟨_, rfl⟩ (.cons ⟨_, rfl⟩ .nil)⟩⟩
    · exact ⟨p4, rfl, fun H => .inr ⟨_, _, _, lF4, rfl, rfl, (by show 2 ≤ sizeLine; decide), .cons ⟨_, rfl⟩ (.cons ⟨_, rfl⟩ .nil)⟩⟩
    · exact ⟨p5, rfl, fun H => .inr ⟨_, _, _, lF5, rfl, rfl, (by show 2 ≤ sizeLine; decide), .cons ⟨_, rfl⟩ (.cons ⟨_, rfl⟩ .nil)⟩⟩
    · exact ⟨p6, rfl, fun H => .inr ⟨_, _, _, lF6, rfl, rfl, (by show 2 ≤ sizeLine; decide), .cons ⟨_, rfl⟩ (.cons ⟨_, rfl⟩ .nil)⟩⟩
    · exact ⟨p7, rfl, fun H => .inr ⟨_, _, _, lF7, rfl, rfl, (by show 2 ≤ sizeLine; decide), .cons ⟨_, rfl⟩ (.cons ⟨_, rfl⟩ .nil)⟩⟩
    · exact ⟨p8, rfl, fun H => .inr ⟨_, _, _, lF8, rfl, rfl, (by show 2 ≤ sizeLine; decide), .cons ⟨_, rfl⟩ (.cons ⟨_, rfl⟩ .nil)⟩⟩
    · exact ⟨p9, rfl, fun H => .inr ⟨_, _, _, lF9, rfl, rfl, (by show 2 ≤ sizeLine; decide), .cons ⟨_, rfl⟩ (.cons ⟨_, rfl⟩ .nil)⟩⟩
    · exact ⟨p10, rfl, fun H => .inr ⟨_, _, _, lF10, rfl, rfl, (by show 2 ≤ sizeLine; decide), .cons ⟨_, rfl⟩ (.cons ⟨_, rfl⟩ .nil)⟩⟩
    · exact ⟨p11, rfl, fun H => .inr ⟨_, _, _, lF11, rfl, rfl, (by show 2 ≤ sizeLine; decide), .cons ⟨_, rfl⟩ (.cons ⟨_, rfl⟩ .nil)⟩⟩
    · exact ⟨p12, rfl, fun H => .inr ⟨_, _, _, lF12, rfl, rfl, (by show 2 ≤ sizeLine; decide), .cons ⟨_, rfl⟩ (.cons ⟨_, rfl⟩ .nil)⟩⟩
    · exact ⟨p13, rfl, fun H => .inr ⟨_, _, _, lF13, rfl, rfl, (by show 2 ≤ sizeLine; decide), .cons ⟨_, rfl⟩ (.cons ⟨_, rfl⟩ .nil)⟩⟩
    · exact ⟨p14, rfl, fun H => .inr ⟨_, _, _, lF14, rfl, rfl, (by show 2 ≤ sizeLine; decide), .cons ⟨_, rfl⟩ (.cons ⟨_, rfl⟩ .nil)⟩⟩
    · exact ⟨p15, rfl, fun H => .inr ⟨_, _, _, lF15, rfl, rfl, (by show 2 ≤ sizeLine; decide), .cons ⟨_, rfl⟩ (.cons ⟨_, rfl⟩ .nil)⟩⟩⟩, ⟨_, PySem.W.mg_of X G g_MOST_TABLE_WIDTH⟩, F0, F0.binds fun _ _ _ _ _ _ us hl => match us, hl with | [_], _ => rfl, PySem.W.mg_of X G a0, F1, F1.binds fun _ _ _ _ _ _ us hl => match us, hl with | [_], _ => rfl, PySem.W.mg_of X G a1, F2, F2.binds fun _ _ _ _ _ _ us hl => match us, hl with | [_, _], _ => rfl, PySem.W.mg_of X G a2, F3, F3.binds fun _ _ _ _ _ _ us hl => match us, hl with | [_, _], _ => rfl, PySem.W.mg_of X G a3, F4, F4.binds fun _ _ _ _ _ _ us hl => match us, hl with | [_, _], _ => rfl, PySem.W.mg_of X G a4, F5, F5.binds fun _ _ _ _ _ _ us hl => match us, hl with | [_, _], _ => rfl, PySem.W.mg_of X G a5, F6, F6.binds fun _ _ _ _ _ _ us hl => match us, hl with | [_], _ => rfl, PySem.W.mg_of X G a6, F7, F7.binds fun _ _ _ _ _ _ us hl => match us, hl with | [_, _, _], _ => rfl, PySem.W.mg_of X G a7, F8, F8.binds fun _ _ _ _ _ _ us hl => match us, hl with | [_, _, _, _], _ => rfl, PySem.W.mg_of X G a8, F9, F9.binds fun _ _ _ _ _ _ us hl => match us, hl with | [_, _, _], _ => rfl, PySem.W.mg_of X G a9, F10, F10.binds fun _ _ _ _ _ _ us hl => match us, hl with | [_, _, _, _, _, _], _ => rfl, PySem.W.mg_of X G a10, F11, F11.binds fun _ _ _ _ _ _ us hl => match us, hl with | [_, _], _ => rfl, PySem.W.mg_of X G a11, F12, F12.binds fun _ _ _ _ _ _ us hl => match us, hl with | [_, _], _ => rfl, PySem.W.mg_of X G a12, F13, F13.binds fun _ _ _ _ _ _ us hl => match us, hl with | [_, _], _ => rfl, PySem.W.mg_of X G a13, F14, F14.binds fun _ _ _ _ _ _ us hl => match us, hl with | [_], _ => rfl, PySem.W.mg_of X G a14⟩
theorem walk {l : PySem.W.OpenLaw} {q : Program} {loose : List Str} {XP : (Str → Option Value) → Heap → Prop} {YP : World → Heap → Prop} {d : DefRec} {K : Params → PySem.W.Frag} (hn : l.most = some 63) (hdf : d.params.defaults = []) (hnm : d.name = "law")
    (hY : ∀ (w : World) (h : Heap), YP w h → (K w.params).In h)
    (F : ∀ (w : World) (mg : Str → Option Value) (fa : Addr) (h : Heap), (K w.params).In h → h.Ns mainGlobals mg → mg "law" = some (.ref fa) →
      ∃ A : Ad, A.a_law = fa ∧ (∀ (s : Shared) (v : Value), BindsTo s A.d_law ⟨[v], []⟩ [("_law_script", v)]) ∧ Tx w (K w.params) mg A) :
    PySem.W.WalkO q loose XP YP l.row.toRowW d [] (fun f vs => PySem.call f vs) := by
  refine L2.walk_of (n := 63) (k := 10) (x := "_law_script") (CX := fun _ => CX0) (sp := fun w => sp_law (K w.params)) hn (by decide) hdf ⟨rfl, by decide, by decide⟩ hY (fun w mg fa h k1 k2 k3 => ?_) (fun _ _ a ns hl _ hS => ⟨a, ns, rfl, hS, hl, fun _ => rfl⟩) fun _ _ _ _ _ z => z
  obtain ⟨A, rfl, hb, T⟩ := F w mg fa h k1 k2 (by rw [← hnm]; exact k3)
  exact ⟨A.d_law, hb, fun base _ _ => all_ok T⟩
end K04
open PySem PySem.W PyProof.Rows
set_option maxRecDepth 100000 in
set_option maxHeartbeats 0 in
theorem PySem.Challenge.cw_lampforge_k04_widths_holds : PySem.Challenge.rw_lampforge_k04_widths.Holds := by
  w_on; o_law; k_head; (case hw => w_witness2)
  k_fill
  refine K04.walk (l := PySem.Challenge.rw_lampforge_k04_widths) rfl rfl rfl (fun w h Y => PySem.W.kIn_of Y) ?F
  case F =>
    intro w mg fa h KX G hmg
    refine' K04.all_mk KX G hmg ?a0 ?l0 ?c0 ?k0 ?a1 ?l1 ?c1 ?k1 ?a2 ?l2 ?c2 ?k2 ?a3 ?l3 ?c3 ?k3 ?a4 ?l4 ?c4 ?k4 ?a5 ?l5 ?c5 ?k5 ?a6 ?l6 ?c6 ?k6 ?a7 ?l7 ?c7 ?k7 ?a8 ?l8 ?c8 ?k8 ?a9 ?l9 ?c9 ?k9 ?a10 ?l10 ?c10 ?k10 ?a11 ?l11 ?c11 ?k11 ?a12 ?l12 ?c12 ?k12 ?a13 ?l13 ?c13 ?k13 ?a14 ?l14 ?c14 ?k14 ?z0 ?z1 ?z2 ?z3 ?z4 ?z5 ?z6 ?z7 ?z8 ?z9 ?z10 ?z11 ?g_MOST_WIDTH ?g_FORMS ?l_FORMS ?kF ?lo_F ?eF ?lF0 ?lF1 ?lF2 ?lF3 ?lF4 ?lF5 ?lF6 ?lF7 ?lF8 ?lF9 ?lF10 ?lF11 ?lF12 ?lF13 ?lF14 ?lF15 ?g_MOST_TABLE_WIDTH
    (case a0 => k_is)
    (case l0 => k_is)
    (case c0 => k_is)
    (case k0 => k_is)
    (case a1 => k_is)
    (case l1 => k_is)
    (case c1 => k_is)
    (case k1 => k_is)
    (case a2 => k_is)
    (case l2 => k_is)
    (case c2 => k_is)
    (case k2 => k_is)
    (case a3 => k_is)
    (case l3 => k_is)
    (case c3 => k_is)
    (case k3 => k_is)
    (case a4 => k_is)
    (case l4 => k_is)
    (case c4 => k_is)
    (case k4 => k_is)
    (case a5 => k_is)
    (case l5 => k_is)
    (case c5 => k_is)
    (case k5 => k_is)
    (case a6 => k_is)
    (case l6 => k_is)
    (case c6 => k_is)
    (case k6 => k_is)
    (case a7 => k_is)
    (case l7 => k_is)
    (case c7 => k_is)
    (case k7 => k_is)
    (case a8 => k_is)
    (case l8 => k_is)
    (case c8 => k_is)
    (case k8 => k_is)
    (case a9 => k_is)
    (case l9 => k_is)
    (case c9 => k_is)
    (case k9 => k_is)
    (case a10 => k_is)
    (case l10 => k_is)
    (case c10 => k_is)
    (case k10 => k_is)
    (case a11 => k_is)
    (case l11 => k_is)
    (case c11 => k_is)
    (case k11 => k_is)
    (case a12 => k_is)
    (case l12 => k_is)
    (case c12 => k_is)
    (case k12 => k_is)
    (case a13 => k_is)
    (case l13 => k_is)
    (case c13 => k_is)
    (case k13 => k_is)
    (case a14 => k_is)
    (case l14 => k_is)
    (case c14 => k_is)
    (case k14 => k_is)
    (case z0 => k_is)
    (case z1 => k_is)
    (case z2 => k_is)
    (case z3 => k_is)
    (case z4 => k_is)
    (case z5 => k_is)
    (case z6 => k_is)
    (case z7 => k_is)
    (case z8 => k_is)
    (case z9 => k_is)
    (case z10 => k_is)
    (case z11 => k_is)
    (case g_MOST_WIDTH => k_is)
    (case g_FORMS => k_is)
    (case l_FORMS => k_is)
    (case kF => k_keys)
    (case lo_F => decide)
    (case eF => rfl)
    (case lF0 => k_is)
    (case lF1 => k_is)
    (case lF2 => k_is)
    (case lF3 => k_is)
    (case lF4 => k_is)
    (case lF5 => k_is)
    (case lF6 => k_is)
    (case lF7 => k_is)
    (case lF8 => k_is)
    (case lF9 => k_is)
    (case lF10 => k_is)
    (case lF11 => k_is)
    (case lF12 => k_is)
    (case lF13 => k_is)
    (case lF14 => k_is)
    (case lF15 => k_is)
    (case g_MOST_TABLE_WIDTH => k_is)

