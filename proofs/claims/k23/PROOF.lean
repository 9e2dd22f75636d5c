import PyProof.Rows.All
import Wide.All
import OpenK.AllK
import Wide.FinOn
import Lean
import PyProof.EqAt
import PyProof.EqKinds
import PyProof.TupleCall
import KE.BitLaws
import KE.KMinKey
import PySem.Challenge.RW_lampforge_k23_ways_down
set_option Elab.async false
set_option linter.all false
set_option maxRecDepth 100000
/-! THE HAND LAYER, for ints, bools, texts, own classes, LISTS and tuples (index, slices, in, append, pop ..), calls, loops. Paste it whole ahead of your own text; what your proof does not reach may be deleted. -/
namespace L2
open PySem PySem.Spec PyProof.Rows

/-- a key: an int or a str -/
abbrev Key := Sum Int Str
def keyIs : Key → Value → Bool
  | .inl k, v => Value.isInt k v
  | .inr x, v => Value.isStrOf x v
def keyH (w : World) : Key → Int
  | .inl k => hashInt k
  | .inr x => hashStr w x
theorem keyIs_shape : ∀ {k : Key} {v : Value}, keyIs k v = true → (∃ i t, k = Sum.inl i ∧ v = Value.int i t) ∨ (∃ x t, k = Sum.inr x ∧ v = Value.str x t)
  | .inl i, v, h => by
    obtain ⟨t, e⟩ := Value.isInt_shape (k := i) (v := v) h
    exact .inl ⟨i, t, rfl, e⟩
  | .inr x, v, h => by
    obtain ⟨t, e⟩ := Value.isStrOf_shape (x := x) (v := v) h
    exact .inr ⟨x, t, rfl, e⟩
theorem key_ll (a b : Int) : decide ((Sum.inl a : Key) = Sum.inl b) = (a == b) := by
  by_cases e : a = b
  · subst e; simp
  · have h : ¬ (Sum.inl a : Key) = Sum.inl b := fun q => e (Sum.inl.inj q)
    rw [decide_eq_false h]
    exact (beq_eq_false_iff_ne.mpr e).symm
theorem key_rr (a b : Str) : decide ((Sum.inr a : Key) = Sum.inr b) = decide (a = b) := by
  by_cases e : a = b
  · subst e; simp
  · have h : ¬ (Sum.inr a : Key) = Sum.inr b := fun q => e (Sum.inr.inj q)
    rw [decide_eq_false h, decide_eq_false e]
theorem key_lr (a : Int) (b : Str) : decide ((Sum.inl a : Key) = Sum.inr b) = false := decide_eq_false (fun q => nomatch q)
theorem key_rl (a : Str) (b : Int) : decide ((Sum.inr a : Key) = Sum.inl b) = false := decide_eq_false (fun q => nomatch q)

def mixKind (prog : Program) (w : World) : PySem.KeyKind prog w Key where
  is := keyIs
  hash := keyH w
  inj := fun v a b ha hb => by
    rcases keyIs_shape ha with ⟨i, t, rfl, rfl⟩ | ⟨x, t, rfl, rfl⟩
    · rcases keyIs_shape hb with ⟨j, u, rfl, e⟩ | ⟨y, u, rfl, e⟩
      · injection e with e1 _; rw [e1]
      · exact nomatch e
    · rcases keyIs_shape hb with ⟨j, u, rfl, e⟩ | ⟨y, u, rfl, e⟩
      · exact nomatch e
      · injection e with e1 _; rw [e1]
  byValue := fun k v h => by
    rcases keyIs_shape h with ⟨i, t, rfl, rfl⟩ | ⟨x, t, rfl, rfl⟩ <;> rfl
  pyHash := fun hv h => by
    rcases keyIs_shape hv with ⟨i, t, rfl, rfl⟩ | ⟨x, t, rfl, rfl⟩
    · exact wpAny_pyHash_int h
    · exact wpAny_pyHash_str h
  eqBool := fun hu hv h => by
    rcases keyIs_shape hu with ⟨i, t, rfl, rfl⟩ | ⟨x, t, rfl, rfl⟩
    · rcases keyIs_shape hv with ⟨j, u, rfl, rfl⟩ | ⟨y, u, rfl, rfl⟩
      · rw [key_ll] at h; exact wpAny_eqBool_int h
      · rw [key_lr] at h; exact SeqAt.EqAt.int_str i t y u _ _ _ _ h
    · rcases keyIs_shape hv with ⟨j, u, rfl, rfl⟩ | ⟨y, u, rfl, rfl⟩
      · rw [key_rl] at h; exact SeqAt.EqAt.str_int x t j u _ _ _ _ h
      · rw [key_rr] at h; exact wpAny_eqBool_str h
  «strs» := fun k x t v h => by
    rcases keyIs_shape h with ⟨i, u, rfl, e⟩ | ⟨y, u, rfl, e⟩
    · exact nomatch e
    · injection e with e1 _
      subst e1
      cases v <;> rfl

end L2

namespace L2
open PySem PySem.Spec PyProof.Rows

/-- a value, without the heap -/
inductive V where
  | non | bl (b : Bool) | int (i : Int) | str (x : Str) | byt (b : Array UInt8) | flt (b : UInt64) | ref (a : Addr) | ty (n : String)
  deriving DecidableEq

def RelV : V → Value → Prop
  | .non, u => u = Value.none
  | .bl b, u => u = Value.bool b
  | .int i, u => ∃ t, u = Value.int i t
  | .str x, u => ∃ t, u = Value.str x t
  | .byt b, u => ∃ t, u = Value.bytes b t
  | .flt b, u => ∃ t, u = Value.float b t
  | .ref a, u => u = Value.ref a
  | .ty n, u => u = Value.type n

abbrev Vals : List V → List Value → Prop := Paired RelV
theorem Vals.length {xs : List V} {us : List Value} (r : Vals xs us) : xs.length = us.length := Paired.length r
theorem Vals.get : ∀ {xs : List V} {us : List Value} {i : Nat} {x : V}, Vals xs us → xs[i]? = some x → ∃ u, us[i]? = some u ∧ RelV x u
  | _, _, _, _, .nil, e => by simp at e
  | _, _, 0, _, .cons r _, e => by simp at e; subst e; exact ⟨_, rfl, r⟩
  | _, _, i + 1, x, .cons _ t, e => by
    obtain ⟨u, h1, h2⟩ := Vals.get (i := i) (x := x) t (by simpa using e)
    exact ⟨u, by simpa using h1, h2⟩
theorem Vals.append : ∀ {xs ys : List V} {us ws : List Value}, Vals xs us → Vals ys ws → Vals (xs ++ ys) (us ++ ws)
  | _, _, _, _, .nil, s => s
  | _, _, _, _, .cons r t, s => .cons r (Vals.append t s)
theorem Vals.take : ∀ {xs : List V} {us : List Value} (n : Nat), Vals xs us → Vals (xs.take n) (us.take n)
  | _, _, 0, _ => .nil
  | _, _, _ + 1, .nil => .nil
  | _, _, n + 1, .cons r t => .cons r (Vals.take n t)
theorem Vals.drop : ∀ {xs : List V} {us : List Value} (n : Nat), Vals xs us → Vals (xs.drop n) (us.drop n)
  | _, _, 0, r => r
  | _, _, _ + 1, .nil => .nil
  | _, _, n + 1, .cons _ t => Vals.drop n t
def RelO : Option V → Option Value → Prop
  | some v, some u => RelV v u
  | none, none => True
  | _, _ => False
def KV {κ : Type} : List (κ × V) → List (κ × Value) → Prop := Paired fun (p : κ × V) (q : κ × Value) => p.1 = q.1 ∧ RelV p.2 q.2

/-- a key of a dict (00_mix): an int or a text -/
def kV : Key → V
  | .inl i => .int i
  | .inr x => .str x

/-- what stands at a tracked address -/
inductive HO where
  /-- a list -/
  | lst (xs : List V)
  /-- a tuple (never changes) -/
  | tup (xs : List V)
  /-- a dict whose keys are ints and texts; one whose keys are tuples of ints and texts (the empty one is both) -/
  | dK (kvs : List (Key × V)) | dT (kvs : List (List Key × V))
  /-- a set of ints: its members, its size -/
  | set (S : Int → Bool) (n : Nat)
  /-- an instance of the class at C, its dict at dx, its attributes -/
  | ins (C dx : Addr) (fs : List (Str × V))
  /-- the dict of the instance at x -/
  | own (x : Addr)
  /-- the dict of an exception -/
  | xd (fs : List (Str × V))
  /-- a bound method, f of x -/
  | met (f x : Addr)
  /-- a range object lo, lo + 1, .. below hi -/
  | rng (lo hi : Int)
  /-- a thing that is known to the object (the script; a dict while a loop walks it): read, never written while it is so -/
  | frz (o : Obj) (u : HO)
  /-- a code object's table -/
  | tbl (pos : Pos) (qual : Str)
  /-- any other thing, by what is true of its one object (a def of one's own: SetO a S n := HO.ext fun h => ..) -/
  | ext (φ : Heap → Prop)

abbrev Hp := Addr → Option HO
def upd (H : Hp) (a : Addr) (o : HO) : Hp := fun b => if b = a then some o else H b
theorem upd_same {H : Hp} {a : Addr} {o : HO} : upd H a o a = some o := by unfold upd; rw [if_pos rfl]
theorem upd_ne {H : Hp} {a b : Addr} {o : HO} (h : b ≠ a) : upd H a o b = H b := by unfold upd; rw [if_neg h]
theorem ne_of_none {H : Hp} {a b : Addr} {o : HO} (h : H a = some o) (h' : H b = none) : a ≠ b := by
  intro e; subst e; rw [h] at h'; cases h'

section
variable (P : Program) (w : World)
def ObjOk (H : Hp) (h : Heap) (a : Addr) : HO → Prop
  | .lst xs => xs.length ≤ sizeLine ∧ ∃ (its : List Value) (n : Nat), Vals xs its ∧ h.get? a = some { cls := .type "list", data := .seq its.toArray n }
  | .tup xs => xs.length ≤ sizeLine ∧ ∃ its : List Value, Vals xs its ∧ IsTup h a its.toArray
  | .dK kvs => kvs.length ≤ sizeLine ∧ (a == sysModules) = false ∧ ∃ vs, KV kvs vs ∧ h.DictOf (mixKind P w) a vs
  | .dT kvs => kvs.length ≤ sizeLine ∧ (a == sysModules) = false ∧ ∃ xs : List (List Key × Addr × Value),
      Paired (fun (p : List Key × V) (q : List Key × Addr × Value) => p.1 = q.1 ∧ H q.2.1 = some (.tup (p.1.map kV)) ∧ RelV p.2 q.2.2) kvs xs ∧
      ∃ o es ep, h.get? a = some o ∧ o.ExactDict ∧ o.data = .dict es ep ∧ es.toList = xs.map (entryOfKey (tupleKind (mixKind P w))) ∧ (xs.map (·.1)).Nodup
  | .set S n => h.SetOf (intKind P w) a S n
  | .ins C dx fs => H dx = some (.own a) ∧ fs.length ≤ 1000 ∧ dx ≠ a ∧ h.get? a = some (PySem.W.instObj C dx) ∧
      ∃ mA, h.Ns1 dx mA ∧ (∀ f, RelO (fs.lookup f) (mA f)) ∧ PySem.Within mA (fs.map (·.1))
  | .own _ => ∃ o, h.get? a = some o
  | .xd fs => ∃ mA, h.Ns1 a mA ∧ ∀ f, RelO (fs.lookup f) (mA f)
  | .rng lo hi => ∃ t u v, h.get? a = some { cls := .type "range", data := .fields #[.int lo t, .int hi u, .int 1 v] }
  | .frz o u => h.get? a = some o ∧ ObjOk H h a u
  | .tbl pos qual => ∃ ps : Array Value, h.get? a = some { cls := .none, data := .fields ps } ∧ TriplesOk ps.toList ∧ (codeAmong pos ps.toList = none ∨ ∃ c oc vs tq, codeAmong pos ps.toList = some (.ref c) ∧ H c = some (.frz oc (.own a)) ∧ oc.data = .fields vs ∧ vs[1]? = some (.str qual tq))
  | .met f x => h.get? a = some (PySem.W.methodObj (.ref f) (.ref x))
  | .ext φ => φ h ∧ (∃ o, h.get? a = some o) ∧ ∀ h1 h2 : Heap, φ h1 → (∀ o, h1.get? a = some o → h2.get? a = some o) → φ h2
/-- the abstract heap is held -/
def HOk (H : Hp) (h : Heap) : Prop := ∀ a o, H a = some o → ObjOk P w H h a o
end

section
variable {P : Program} {w : World} {H H' : Hp} {h h' : Heap} {a : Addr} {o : HO}
theorem ObjOk.lt (x : ObjOk P w H h a o) : a < h.objs.size := by
  cases o with
  | lst xs => obtain ⟨_, _, _, _, e⟩ := x; exact Heap.lt_size e
  | tup xs => obtain ⟨_, _, _, p⟩ := x; exact p.lt
  | dK kvs => obtain ⟨_, _, _, _, o, _, _, e, _⟩ := x; exact Heap.lt_size e
  | dT kvs => obtain ⟨_, _, _, _, o, _, _, e, _⟩ := x; exact Heap.lt_size e
  | set S n => obtain ⟨o, _, _, _, e, _⟩ := x; exact Heap.lt_size e
  | ins C dx fs => obtain ⟨_, _, _, e, _⟩ := x; exact Heap.lt_size e
  | own y => obtain ⟨_, e⟩ := x; exact Heap.lt_size e
  | xd fs => obtain ⟨_, ⟨_, _, _, e, _⟩, _⟩ := x; exact Heap.lt_size e
  | rng lo hi => obtain ⟨_, _, _, e⟩ := x; exact Heap.lt_size e
  | frz ob u => obtain ⟨e, _⟩ := x; exact Heap.lt_size e
  | tbl pos qual => obtain ⟨_, e, _⟩ := x; exact Heap.lt_size e
  | met f y => exact Heap.lt_size (show h.get? a = some _ from x)
  | ext φ => obtain ⟨_, ⟨_, e⟩, _⟩ := x; exact Heap.lt_size e
theorem Paired.mapP {α β : Type} {F G : α → β → Prop} : ∀ {l₁ : List α} {l₂ : List β}, Paired F l₁ l₂ → (∀ a b, F a b → G a b) → Paired G l₁ l₂
  | _, _, .nil, _ => .nil
  | _, _, .cons r t, f => .cons (f _ _ r) (Paired.mapP t f)
/-- what an object's description leans on: its own object, its own dict, the tuples -/
theorem ObjOk.stay (x : ObjOk P w H h a o) (k : ∀ b u, (b = a ∨ H b = some (.own a)) → h.get? b = some u → h'.get? b = some u)
    (ho : ∀ b, H b = some (.own a) → H' b = some (.own a)) (ht : ∀ b xs, H b = some (.tup xs) → H' b = some (.tup xs)) (hz : ∀ b o u, H b = some (.frz o u) → H' b = some (.frz o u)) : ObjOk P w H' h' a o := by
  induction o with
  | lst xs => obtain ⟨z, its, n, r, e⟩ := x; exact ⟨z, its, n, r, k _ _ (.inl rfl) e⟩
  | tup xs => obtain ⟨z, its, r, ob, e, c⟩ := x; exact ⟨z, its, r, ob, k _ _ (.inl rfl) e, c⟩
  | dK kvs => obtain ⟨z, y, vs, r, ob, es, ep, e, c⟩ := x; exact ⟨z, y, vs, r, ob, es, ep, k _ _ (.inl rfl) e, c⟩
  | dT kvs =>
    obtain ⟨z, y, xs, r, ob, es, ep, e, c⟩ := x
    exact ⟨z, y, xs, Paired.mapP r fun p q z => ⟨z.1, ht _ _ z.2.1, z.2.2⟩, ob, es, ep, k _ _ (.inl rfl) e, c⟩
  | set S n => obtain ⟨ob, es, ep, t, e, c⟩ := x; exact ⟨ob, es, ep, t, k _ _ (.inl rfl) e, c⟩
  | ins C dx fs =>
    obtain ⟨d, z, ne, e, mA, ⟨od, es, ep, e2, c⟩, r⟩ := x
    exact ⟨ho _ d, z, ne, k _ _ (.inl rfl) e, mA, ⟨od, es, ep, k _ _ (.inr d) e2, c⟩, r⟩
  | own y => obtain ⟨ob, e⟩ := x; exact ⟨ob, k _ _ (.inl rfl) e⟩
  | xd fs => obtain ⟨mA, ⟨od, es, ep, e, c⟩, r⟩ := x; exact ⟨mA, ⟨od, es, ep, k _ _ (.inl rfl) e, c⟩, r⟩
  | rng lo hi => obtain ⟨t, u, v, e⟩ := x; exact ⟨t, u, v, k _ _ (.inl rfl) e⟩
  | frz ob u ih => obtain ⟨e, q⟩ := x; exact ⟨k _ _ (.inl rfl) e, ih q⟩
  | tbl pos qual =>
    obtain ⟨ps, e, t, c⟩ := x
    refine ⟨ps, k a _ (.inl rfl) e, t, ?_⟩
    rcases c with c | ⟨c, oc, vs, tq, c1, c2, c3⟩
    · exact .inl c
    · exact .inr ⟨c, oc, vs, tq, c1, hz _ _ _ c2, c3⟩
  | met f y =>
    have e : h.get? a = some (PySem.W.methodObj (.ref f) (.ref y)) := x
    show h'.get? a = some (PySem.W.methodObj (.ref f) (.ref y))
    exact k a _ (.inl rfl) e
  | ext φ => obtain ⟨p, ⟨o, e⟩, st⟩ := x; exact ⟨st _ _ p fun o q => k _ _ (.inl rfl) q, ⟨o, k _ _ (.inl rfl) e⟩, st⟩
theorem HOk.lt (x : HOk P w H h) (e : H a = some o) : a < h.objs.size := (x a o e).lt
theorem HOk.fresh (x : HOk P w H h) (e : h.objs.size ≤ a) : H a = none := by
  cases q : H a with
  | none => rfl
  | some u => exact absurd (Nat.lt_of_lt_of_le (x.lt q) e) (Nat.lt_irrefl _)
/-- every object of the heap is kept -/
theorem HOk.kept (x : HOk P w H h) (k : ∀ b u, h.get? b = some u → h'.get? b = some u) : HOk P w H h' := fun a o e =>
  (x a o e).stay (fun b u _ q => k b u q) (fun _ q => q) (fun _ _ q => q) fun _ _ _ q => q
/-- a new object is laid and tracked -/
theorem HOk.laid (x : HOk P w H h) (k : ∀ b u, h.get? b = some u → h'.get? b = some u) (hp : h.objs.size ≤ a) (new : ObjOk P w (upd H a o) h' a o) : HOk P w (upd H a o) h' := fun b u e => by
  have hn := x.fresh hp
  by_cases hb : b = a
  · subst hb; rw [upd_same] at e; cases e; exact new
  · rw [upd_ne hb] at e
    exact (x b u e).stay (fun c v _ q => k c v q) (fun c q => by rw [upd_ne (ne_of_none q hn)]; exact q) (fun c xs q => by rw [upd_ne (ne_of_none q hn)]; exact q) fun c ob xs q => by rw [upd_ne (ne_of_none q hn)]; exact q
end

/-- what may be read as u: it is u, or a known u -/
def Rd (H : Hp) (a : Addr) (u : HO) : Prop := H a = some u ∨ ∃ o, H a = some (.frz o u)
theorem Rd.ok {P : Program} {w : World} {H : Hp} {h : Heap} {a : Addr} {u : HO} (r : Rd H a u) (x : HOk P w H h) : ObjOk P w H h a u := by
  rcases r with r | ⟨o, r⟩
  · exact x a u r
  · obtain ⟨_, q⟩ := x a _ r
    exact q
/-- what may be written -/
def Mut : Option HO → Prop
  | some (.lst _) => True
  | some (.dK _) => True
  | some (.dT _) => True
  | some (.set _ _) => True
  | some (.ins _ _ _) => True
  | some (.ext _) => True
  | _ => False
section
variable {P : Program} {w : World} {H : Hp} {h h' : Heap} {x e : Addr} {o' : HO}
/-- the object at e is changed: x itself, or the dict of the instance x -/
theorem HOk.write (ok : HOk P w H h) (mu : Mut (H x)) (he : e = x ∨ H e = some (.own x)) (k : ∀ b u, b ≠ e → h.get? b = some u → h'.get? b = some u) (heo : ∃ u, h'.get? e = some u)
    (new : ObjOk P w (upd H x o') h' x o') : HOk P w (upd H x o') h' := fun b u q => by
  have nown : ∀ c y, H c = some (.own y) → c ≠ x := fun c y r z => by subst z; rw [r] at mu; exact mu
  have ntup : ∀ c xs, H c = some (.tup xs) → c ≠ x := fun c xs r z => by subst z; rw [r] at mu; exact mu
  by_cases hb : b = x
  · subst hb; rw [upd_same] at q; cases q; exact new
  · rw [upd_ne hb] at q
    by_cases hbe : b = e
    · have q' : H b = some (.own x) := by
        rcases he with z | z
        · exact absurd (hbe.trans z) hb
        · rw [hbe]; exact z
      rw [q] at q'; cases q'
      obtain ⟨v, hv⟩ := heo
      exact ⟨v, by rw [hbe]; exact hv⟩
    · refine (ok b u q).stay (fun c v hc r => k c v ?_ r) (fun c r => by rw [upd_ne (nown c b r)]; exact r) (fun c xs r => by rw [upd_ne (ntup c xs r)]; exact r) fun c ob xs r => by rw [upd_ne (fun z => by subst z; rw [r] at mu; exact mu)]; exact r
      rcases hc with rfl | hc
      · exact hbe
      · rintro rfl
        rcases he with z | z
        · exact nown c b hc z
        · rw [hc] at z; cases z; exact hb rfl
end

/-! ### kept unless tracked; of the frames at fs (the callers') the slots may change (an exception that passes writes there); of the records at ex (iterators) nothing is said -/
structure Un (fs ex : List Addr) (H H' : Hp) (h h' : Heap) : Prop where
  keep : ∀ b o, h.get? b = some o → H b = none → b ∉ fs → b ∉ ex → h'.get? b = some o
  slot : ∀ b o, h.get? b = some o → H b = none → b ∈ fs → b ∉ ex → ∃ sl, h'.get? b = some { o with slots := sl }
  free : ∀ b o, h.get? b = some o → H b = none → b ∉ ex → H' b = none
  there : ∀ b o, h.get? b = some o → b ∉ ex → ∃ o', h'.get? b = some o'
  tups : ∀ b xs, H b = some (.tup xs) → H' b = some (.tup xs)
  frzs : ∀ b o u, H b = some (.frz o u) → H' b = some (.frz o u)
  tbls : ∀ b p q, H b = some (.tbl p q) → H' b = some (.tbl p q)
section
variable {fs fs' ex ex' : List Addr} {H H1 H2 : Hp} {h h1 h2 h' : Heap} {a x e : Addr} {o : HO}
theorem Un.any (u : Un fs ex H H1 h h1) {b : Addr} {ob : Obj} (q : h.get? b = some ob) (n : H b = none) (hx : b ∉ ex) : ∃ sl, h1.get? b = some { ob with slots := sl } := by
  by_cases hb : b ∈ fs
  · exact u.slot b ob q n hb hx
  · exact ⟨ob.slots, u.keep b ob q n hb hx⟩
theorem Un.kept (k : ∀ b u, h.get? b = some u → h'.get? b = some u) : Un fs ex H H h h' :=
  ⟨fun b ob q _ _ _ => k b ob q, fun b ob q _ _ _ => ⟨ob.slots, k b ob q⟩, fun _ _ _ n _ => n, fun b ob q _ => ⟨ob, k b ob q⟩, fun _ _ q => q, fun _ _ _ q => q, fun _ _ _ q => q⟩
theorem Un.refl : Un fs ex H H h h := Un.kept fun _ _ q => q
theorem Un.laid (k : ∀ b u, h.get? b = some u → h'.get? b = some u) (hp : h.objs.size ≤ a) (hn : H a = none) : Un fs ex H (upd H a o) h h' where
  keep := fun b u q _ _ _ => k b u q
  slot := fun b u q _ _ _ => ⟨u.slots, k b u q⟩
  free := fun b u q n _ => by rw [upd_ne (Nat.ne_of_lt (Nat.lt_of_lt_of_le (Heap.lt_size q) hp))]; exact n
  there := fun b u q _ => ⟨u, k b u q⟩
  tups := fun b xs q => by rw [upd_ne (ne_of_none q hn)]; exact q
  frzs := fun b u xs q => by rw [upd_ne (ne_of_none q hn)]; exact q
  tbls := fun b p q z => by rw [upd_ne (ne_of_none z hn)]; exact z
theorem Un.write (mu : Mut (H x)) (he : e = x ∨ H e = some (.own x)) (k : ∀ b u, b ≠ e → h.get? b = some u → h'.get? b = some u) (heo : ∃ u, h'.get? e = some u) : Un fs ex H (upd H x o) h h' := by
  have hx : ∀ b, H b = none → b ≠ x := fun b n z => by subst z; rw [n] at mu; exact mu
  have hb : ∀ b, H b = none → b ≠ e := fun b n z => by
    subst z
    rcases he with r | r
    · exact hx b n r
    · rw [n] at r; cases r
  have hm : ∀ b u, H b = some u → ¬ Mut (some u) → b ≠ x := fun b u q nm z => by subst z; rw [q] at mu; exact nm mu
  refine ⟨fun b u q n _ _ => k b u (hb b n) q, fun b u q n _ _ => ⟨u.slots, k b u (hb b n) q⟩, fun b u q n _ => by rw [upd_ne (hx b n)]; exact n, fun b u q _ => ?_,
    fun b xs q => by rw [upd_ne (hm b _ q fun z => z)]; exact q, fun b u xs q => by rw [upd_ne (hm b _ q fun z => z)]; exact q, fun b p q z => by rw [upd_ne (hm b _ z fun y => y)]; exact z⟩
  by_cases hbe : b = e
  · subst hbe; exact heo
  · exact ⟨u, k b u hbe q⟩
end

/-! ### the heap without what is tracked -/
def trk (h : Heap) (H : Hp) : List Addr := (List.range h.objs.size).filter fun a => (H a).isSome
def hidT (h : Heap) (H : Hp) : Heap := PySem.W.hideAll h (trk h H)
theorem hidT_size (h : Heap) (H : Hp) : (hidT h H).objs.size = h.objs.size := PySem.W.hideAll_size _ _
theorem hidT_get {h : Heap} {H : Hp} {b : Addr} {o : Obj} (e : h.get? b = some o) (n : H b = none) : (hidT h H).get? b = some o :=
  PySem.W.hideAll_get _ e fun hm => by
    have q : (H b).isSome = true := (List.mem_filter.mp hm).2
    rw [n] at q; simp at q
theorem of_hidT {h : Heap} {H : Hp} {b : Addr} {o : Obj} (e : (hidT h H).get? b = some o) : h.get? b = some o ∧ H b = none := by
  have e' : h.get? b = some o := PySem.W.of_hideAll (trk h H) e
  refine ⟨e', ?_⟩
  cases q : H b with
  | none => rfl
  | some x =>
    have hm : b ∈ trk h H := List.mem_filter.mpr ⟨List.mem_range.mpr (Heap.lt_size e'), by simp [q]⟩
    have z : (hidT h H).get? b = none := PySem.W.hideAll_none (trk h H) hm
    rw [z] at e; cases e

/-! ### OpenK's ledger, filled with every new object but one -/
def allNews (g h : Heap) (L : Addr) : List (Addr × Obj) := (List.range h.objs.size).filterMap fun a => if a = L ∨ (g.get? a).isSome = true then none else (h.get? a).map fun o => (a, o)
def rest (g h : Heap) (L d : Addr) : List (Addr × Obj) := (allNews g h L).filter fun p => decide (p.1 ≠ d)
end L2

namespace L2
open PySem PySem.Spec PyProof.Rows

/-- the module's facts, over the base: the heap at the law's entry without what is tracked there -/
structure Mod (K : PySem.W.Frag) (mg : Str → Option Value) (base : Heap) : Prop where
  kin : K.In base
  glob : base.Ns mainGlobals mg
  blt : ∃ mb, base.Ns builtinsNs mb ∧ ∀ x : Str, x ≠ "__name__" → mb x = bootBuiltins x
  nolimit : base.NoLimit

/-- the context: a def's body (or a comprehension's block) running. base: fixed through the whole law; s₀, H₀: the entry; outer: the frames whose slots others may change (a def's callers); stack: all frames that run;
   ex: iterators that were made ahead of the entry and are walked here (a comprehension's); fn: the names whose cells were made at the entry (a def: all; a comprehension's block: its own); calm: not within an except suite; pn: pins that every state bears; xe: what is wanted of an exception that leaves the code -/
structure Cx where
  prog : Program
  w : World
  K : PySem.W.Frag
  mg : Str → Option Value
  base : Heap
  A : Around
  N : List Str
  s₀ : Shared
  H₀ : Hp
  env : Env
  outer : List Env
  stack : List Env
  ex : List Addr
  fn : Str → Bool
  calm : Bool
  pn : List (Addr × Obj)
  xe : Value → Shared → Prop
/-- the callers' frames -/
def frs (l : List Env) : List Addr := l.filterMap (·.frame)
abbrev Cx.fs (X : Cx) : List Addr := frs X.outer

def Vis (sc : Scope) (x : Str) : Prop := sc.names.lookup x = some .local ∨ sc.names.lookup x = some .cell ∨ sc.names.lookup x = some .free
def Loc (sc : Scope) (x : Str) : Prop := sc.names.lookup x = some .local ∨ sc.names.lookup x = some .cell
def Look (env : Env) (h : Heap) (m : Str → Option Value) (x : Str) (u : Value) : Prop :=
  (env.kindOf x = some .local ∧ m x = some u) ∨ ((env.kindOf x = some .cell ∨ env.kindOf x = some .free) ∧ ∃ c, env.cells.lookup x = some c ∧ h.IsCell c (some u))

structure Cx.Ok (X : Cx) : Prop where
  mod : Mod X.K X.mg X.base
  kind : X.env.scope.kind = .function
  glob : X.env.globals = mainGlobals
  blt : X.env.builtins = builtinsNs
  above : X.s₀.heap.objs.size ≤ X.env.locals
  inj : ∀ x y c, X.env.cells.lookup x = some c → X.env.cells.lookup y = some c → x = y
  has : ∀ x, (X.env.kindOf x = some .cell ∨ X.env.kindOf x = some .free) → ∃ c, X.env.cells.lookup x = some c
  cab : ∀ x c, X.fn x = true → X.env.cells.lookup x = some c → X.s₀.heap.objs.size ≤ c
  hd : X.calm = true → X.A.handled = none
  frames : X.A.frames = some X.stack
  stk : X.stack = X.outer ∨ (X.stack = X.env :: X.outer ∧ X.env.frame = some X.env.locals)
  exf : ∀ b ∈ X.ex, b ≠ X.env.locals ∧ ∀ x c, X.env.cells.lookup x = some c → c ≠ b
  bs : ∀ b o, X.base.get? b = some o → X.s₀.heap.get? b = some o ∧ X.H₀ b = none
  bsz : X.base.objs.size ≤ X.s₀.heap.objs.size
  noex : ∀ b o, X.base.get? b = some o → b ∉ X.ex
  exfs : ∀ b ∈ X.ex, b ∉ X.fs
  funs : X.s₀.heap.FunFrames X.base X.outer
  frf : ∀ b ∈ X.fs, X.H₀ b = none

structure Inv (X : Cx) (pins : List (Addr × Obj)) (σ : List (Option V)) (H : Hp) (s : Shared) : Prop where
  ok : X.Ok
  os : s.os = X.s₀.os
  bare : AllBare s.gens
  base : Un X.fs X.ex X.H₀ H X.s₀.heap s.heap
  loc : ∃ m, s.heap.Ns X.env.locals m ∧ ∀ (i : Nat) (x : Str) (v : V), X.N[i]? = some x → σ[i]? = some (some v) → Vis X.env.scope x → ∃ u, RelV v u ∧ Look X.env s.heap m x u
  cell : ∀ x c, X.env.cells.lookup x = some c → ∃ v, s.heap.IsCell c v
  free : H X.env.locals = none
  freeC : ∀ x c, X.env.cells.lookup x = some c → H c = none
  pin : ∀ p ∈ X.pn ++ pins, s.heap.get? p.1 = some p.2 ∧ H p.1 = none ∧ p.1 ≠ X.env.locals ∧ p.1 ∉ X.fs ∧ ∀ v, p.2.data ≠ .cell v
  hok : HOk X.prog X.w H s.heap
  len : σ.length = X.N.length

section
variable {X : Cx} {pins : List (Addr × Obj)} {σ : List (Option V)} {H H' : Hp} {s : Shared} {h' : Heap}

theorem Cx.Ok.nofr (ok : X.Ok) {b : Addr} {o : Obj} (e : X.base.get? b = some o) : b ∉ X.fs := fun hb => by
  have := (ok.funs.mem hb).1
  rw [e] at this; cases this
theorem Inv.bs (I : Inv X pins σ H s) : ∀ b o, X.base.get? b = some o → s.heap.get? b = some o ∧ H b = none := fun b o e =>
  ⟨I.base.keep b o (I.ok.bs b o e).1 (I.ok.bs b o e).2 (I.ok.nofr e) (I.ok.noex b o e), I.base.free b o (I.ok.bs b o e).1 (I.ok.bs b o e).2 (I.ok.noex b o e)⟩
theorem Inv.bk (I : Inv X pins σ H s) : ∀ b o, X.base.get? b = some o → s.heap.get? b = some o := fun b o e => (I.bs b o e).1
theorem Inv.mod (I : Inv X pins σ H s) : Mod X.K X.mg X.base := I.ok.mod
theorem Inv.kIn (I : Inv X pins σ H s) : X.K.In s.heap := I.ok.mod.kin.keeps I.bk
theorem Inv.nolimit (I : Inv X pins σ H s) : s.heap.NoLimit := I.ok.mod.nolimit.keeps I.bk
theorem Inv.lt (I : Inv X pins σ H s) : X.env.locals < s.heap.objs.size := let ⟨_, hn, _⟩ := I.loc; hn.lt
theorem Inv.sz (I : Inv X pins σ H s) : X.s₀.heap.objs.size ≤ s.heap.objs.size := Nat.le_trans I.ok.above (Nat.le_of_lt I.lt)
theorem Inv.nofs (I : Inv X pins σ H s) {a : Addr} (h : s.heap.objs.size ≤ a) : a ∉ X.fs := fun hb => by
  obtain ⟨_, o, ho, _⟩ := I.ok.funs.mem hb
  exact absurd (Nat.lt_of_lt_of_le (Heap.lt_size ho) (Nat.le_trans I.sz h)) (Nat.lt_irrefl _)
theorem Inv.cne (I : Inv X pins σ H s) : ∀ x c, X.env.cells.lookup x = some c → c ≠ X.env.locals := fun x c e z => by
  obtain ⟨v, o, ho, hd⟩ := I.cell x c e
  obtain ⟨m, ⟨o', es, ep, ho', hd', _⟩, _⟩ := I.loc
  rw [z, ho'] at ho; cases ho; rw [hd'] at hd; cases hd
theorem Inv.funs (I : Inv X pins σ H s) : s.heap.FunFrames X.base X.outer := by
  have all : ∀ (l : List Env), (∀ b ∈ frs l, b ∈ X.fs) → X.s₀.heap.FunFrames X.base l → s.heap.FunFrames X.base l := by
    intro l
    induction l with
    | nil => intro _ _; trivial
    | cons env r ih =>
      intro hs hl
      obtain ⟨hk, ⟨L, o, hf, hn, ho, hd⟩, hr⟩ := hl
      have hL : L ∈ X.fs := hs L (by unfold frs; rw [List.filterMap_cons, hf]; exact List.mem_cons_self)
      obtain ⟨sl, e⟩ := I.base.slot L o ho (I.ok.frf L hL) hL fun z => I.ok.exfs L z hL
      exact ⟨hk, ⟨L, _, hf, hn, e, hd⟩, ih (fun b hb => hs b (by unfold frs; rw [List.filterMap_cons, hf]; exact List.mem_cons_of_mem _ hb)) hr⟩
  exact all X.outer (fun _ hb => hb) I.ok.funs

/-- the frames that run, for a call -/
theorem Inv.stack (I : Inv X pins σ H s) : s.heap.FunFrames X.base X.stack := by
  rcases I.ok.stk with e | ⟨e, hf⟩
  · rw [e]; exact I.funs
  · rw [e]
    obtain ⟨m, hn, _⟩ := I.loc
    refine .cons (by rw [I.ok.kind]; decide) hf hn ?_ I.funs
    exact Heap.get?_none_of_le (Nat.le_trans I.ok.bsz I.ok.above)
theorem Inv.stkSub (I : Inv X pins σ H s) : ∀ b ∈ frs X.stack, b ∈ X.env.locals :: X.fs := fun b hb => by
  rcases I.ok.stk with e | ⟨e, hf⟩
  · rw [e] at hb; exact List.mem_cons_of_mem _ hb
  · rw [e] at hb
    unfold frs at hb
    rw [List.filterMap_cons, hf] at hb
    exact hb
theorem Inv.stkFree (I : Inv X pins σ H s) : ∀ b ∈ frs X.stack, H b = none := fun b hb => by
  rcases List.mem_cons.mp (I.stkSub b hb) with e | hb
  · rw [e]; exact I.free
  · obtain ⟨_, o, ho, _⟩ := I.ok.funs.mem hb
    exact I.base.free b o ho (I.ok.frf b hb) fun z => I.ok.exfs b z hb

/-- THE STEP: the untracked objects but the frame and the records at ch are kept (the callers' frames up to slots), the frame's map is kept, the new abstract heap is held -/
theorem Inv.step {g' : Array GenState} {t' : Nat} {d' : Drawn} {ch : List Addr} (I : Inv X pins σ H s)
    (hch : ∀ b ∈ ch, (b ∈ X.ex ∨ X.s₀.heap.objs.size ≤ b) ∧ b ≠ X.env.locals ∧ (∀ x c, X.env.cells.lookup x = some c → c ≠ b) ∧ ∀ p ∈ X.pn ++ pins, p.1 ≠ b)
    (keep : ∀ b o, b ≠ X.env.locals → b ∉ X.fs → b ∉ ch → s.heap.get? b = some o → H b = none → h'.get? b = some o)
    (slot : ∀ b o, b ≠ X.env.locals → b ∈ X.fs → b ∉ ch → s.heap.get? b = some o → H b = none → ∃ sl, h'.get? b = some { o with slots := sl }) (free : ∀ b o, b ∉ ch → s.heap.get? b = some o → H b = none → H' b = none)
    (there : ∀ b o, b ∉ ch → s.heap.get? b = some o → ∃ o', h'.get? b = some o')
    (tups : ∀ b xs, H b = some (.tup xs) → H' b = some (.tup xs)) (frzs : ∀ b o u, H b = some (.frz o u) → H' b = some (.frz o u)) (tbls : ∀ b p q, H b = some (.tbl p q) → H' b = some (.tbl p q))
    (ns : ∀ m, s.heap.Ns X.env.locals m → h'.Ns X.env.locals m) (hok : HOk X.prog X.w H' h') (hg : AllBare g') :
    Inv X pins σ H' { s with heap := h', gens := g', drawn := d', toks := t' } := by
  have neL : ∀ b o, X.s₀.heap.get? b = some o → b ≠ X.env.locals := fun b o e => Nat.ne_of_lt (Nat.lt_of_lt_of_le (Heap.lt_size e) I.ok.above)
  have neC : ∀ b o, X.s₀.heap.get? b = some o → b ∉ X.ex → b ∉ ch := fun b o e hx hb => by
    rcases (hch b hb).1 with z | z
    · exact hx z
    · exact absurd (Nat.lt_of_lt_of_le (Heap.lt_size e) z) (Nat.lt_irrefl _)
  have cellK : ∀ x c, X.env.cells.lookup x = some c → ∀ v, s.heap.IsCell c v → h'.IsCell c v := fun x c e v ⟨o, ho, hd⟩ => by
    have nch : c ∉ ch := fun z => (hch c z).2.2.1 x c e rfl
    by_cases hc : c ∈ X.fs
    · obtain ⟨sl, q⟩ := slot c o (I.cne x c e) hc nch ho (I.freeC x c e)
      exact ⟨_, q, hd⟩
    · exact ⟨o, keep c o (I.cne x c e) hc nch ho (I.freeC x c e), hd⟩
  refine ⟨I.ok, I.os, hg, ⟨fun b o e n hb hx => ?_, fun b o e n hb hx => ?_, fun b o e n hx => ?_, fun b o e hx => ?_, fun b xs e => tups b xs (I.base.tups b xs e), fun b o xs e => frzs b o xs (I.base.frzs b o xs e), fun b p q e => tbls b p q (I.base.tbls b p q e)⟩, ?_, fun x c e => ?_, ?_, fun x c e => ?_, fun p hp => ?_, hok, I.len⟩
  · exact keep b o (neL b o e) hb (neC b o e hx) (I.base.keep b o e n hb hx) (I.base.free b o e n hx)
  · obtain ⟨sl, e1⟩ := I.base.slot b o e n hb hx
    obtain ⟨sl', e2⟩ := slot b _ (neL b o e) hb (neC b o e hx) e1 (I.base.free b o e n hx)
    exact ⟨sl', e2⟩
  · obtain ⟨o', e1⟩ := I.base.there b o e hx
    exact free b o' (neC b o e hx) e1 (I.base.free b o e n hx)
  · obtain ⟨o', e1⟩ := I.base.there b o e hx
    exact there b o' (neC b o e hx) e1
  · obtain ⟨m, hn, hl⟩ := I.loc
    refine ⟨m, ns m hn, fun i x v e1 e2 e3 => ?_⟩
    obtain ⟨u, r, l⟩ := hl i x v e1 e2 e3
    refine ⟨u, r, ?_⟩
    rcases l with l | ⟨k, c, e, z⟩
    · exact .inl l
    · exact .inr ⟨k, c, e, cellK x c e _ z⟩
  · obtain ⟨v, z⟩ := I.cell x c e
    exact ⟨v, cellK x c e v z⟩
  · obtain ⟨m, ⟨o, _, _, ho, _⟩, _⟩ := I.loc
    exact free _ o (fun z => (hch _ z).2.1 rfl) ho I.free
  · obtain ⟨v, o, ho, hd⟩ := I.cell x c e
    exact free c o (fun z => (hch c z).2.2.1 x c e rfl) ho (I.freeC x c e)
  · obtain ⟨e, n, ne, nf, d⟩ := I.pin p hp
    have nch : p.1 ∉ ch := fun z => (hch p.1 z).2.2.2 p hp rfl
    exact ⟨keep p.1 p.2 ne nf nch e n, free p.1 p.2 nch e n, ne, nf, d⟩
/-- .. where the frame's own object is kept too -/
theorem Inv.un {t' : Nat} (I : Inv X pins σ H s) (u : Un X.fs [] H H' s.heap h') (hok : HOk X.prog X.w H' h') : Inv X pins σ H' { s with heap := h', toks := t' } := by
  obtain ⟨m, ⟨o, es, ep, ho, r⟩, _⟩ := id I.loc
  obtain ⟨sl, hL⟩ := u.any ho I.free (by simp)
  exact I.step (g' := s.gens) (d' := s.drawn) (ch := []) (fun _ z => nomatch z) (fun b o _ hb _ e n => u.keep b o e n hb (by simp)) (fun b o _ hb _ e n => u.slot b o e n hb (by simp)) (fun b o _ e n => u.free b o e n (by simp)) (fun b o _ e => u.there b o e (by simp)) u.tups u.frzs u.tbls (fun m' hm => by
    obtain ⟨o', es', ep', ho', r'⟩ := hm
    rw [ho] at ho'; cases ho'
    exact ⟨_, es', ep', hL, r'⟩) hok I.bare
/-- behind a call (or a comprehension's block): the slots of this frame may have changed too, the records at ch may have turned -/
theorem Inv.call {g' : Array GenState} {t' : Nat} {d' : Drawn} {ch : List Addr} (I : Inv X pins σ H s) (u : Un (frs X.stack) ch H H' s.heap h') (hok : HOk X.prog X.w H' h') (hg : AllBare g')
    (hch : ∀ b ∈ ch, (b ∈ X.ex ∨ X.s₀.heap.objs.size ≤ b) ∧ b ≠ X.env.locals ∧ (∀ x c, X.env.cells.lookup x = some c → c ≠ b) ∧ ∀ p ∈ X.pn ++ pins, p.1 ≠ b) :
    Inv X pins σ H' { s with heap := h', gens := g', drawn := d', toks := t' } := by
  obtain ⟨m, ⟨o, es, ep, ho, r⟩, _⟩ := id I.loc
  obtain ⟨sl, hL⟩ := u.any ho I.free fun z => (hch _ z).2.1 rfl
  exact I.step (ch := ch) hch (fun b o hL hb hc e n => u.keep b o e n (fun z => (List.mem_cons.mp (I.stkSub b z)).elim hL hb) hc) (fun b o _ _ hc e n => u.any e n hc) (fun b o hc e n => u.free b o e n hc) (fun b o hc e => u.there b o e hc) u.tups u.frzs u.tbls (fun m' hm => by
    obtain ⟨o', es', ep', ho', r'⟩ := hm
    rw [ho] at ho'; cases ho'
    exact ⟨_, es', ep', hL, r'⟩) hok hg
/-- an untracked record of ours (an iterator) has turned -/
theorem Inv.turned {t' : Nat} {it : Addr} (I : Inv X pins σ H s) (k : ∀ b o, b ≠ it → s.heap.get? b = some o → h'.get? b = some o) (hn : H it = none) (hL : it ≠ X.env.locals)
    (h1 : it ∈ X.ex ∨ X.s₀.heap.objs.size ≤ it) (h2 : ∀ x c, X.env.cells.lookup x = some c → c ≠ it) (h3 : ∀ p ∈ X.pn ++ pins, p.1 ≠ it) : Inv X pins σ H { s with heap := h', toks := t' } := by
  have nit : ∀ b u, H b = some u → b ≠ it := fun b u e z => by rw [z, hn] at e; cases e
  refine I.step (g' := s.gens) (d' := s.drawn) (ch := [it]) (fun b hb => ?_) (fun b o _ _ hc e _ => k b o (fun z => hc (by simp [z])) e) (fun b o _ _ hc e _ => ⟨o.slots, k b o (fun z => hc (by simp [z])) e⟩) (fun _ _ _ _ n => n)
    (fun b o hc e => ⟨o, k b o (fun z => hc (by simp [z])) e⟩) (fun _ _ e => e) (fun _ _ _ e => e) (fun _ _ _ e => e) (fun m hm => ?_) (fun b u e => ?_) I.bare
  · have e : b = it := by simpa using hb
    subst e
    exact ⟨h1, hL, h2, h3⟩
  · obtain ⟨o, es, ep, ho, r⟩ := hm
    exact ⟨o, es, ep, k _ o (Ne.symm hL) ho, r⟩
  · refine (I.hok b u e).stay (fun c v hc q => k c v ?_ q) (fun _ q => q) (fun _ _ q => q) fun _ _ _ q => q
    rcases hc with z | z
    · rw [z]; exact nit b u e
    · exact nit c _ z
theorem Inv.tok (I : Inv X pins σ H s) (t : Nat) : Inv X pins σ H { s with toks := t } := I.un (h' := s.heap) (t' := t) Un.refl I.hok
/-- all objects kept -/
theorem Inv.kept {t' : Nat} (I : Inv X pins σ H s) (k : ∀ b u, s.heap.get? b = some u → h'.get? b = some u) : Inv X pins σ H { s with heap := h', toks := t' } := I.un (Un.kept k) (I.hok.kept k)
/-- a new object laid and tracked -/
theorem Inv.laid {a : Addr} {o : HO} {t' : Nat} (I : Inv X pins σ H s) (k : ∀ b u, s.heap.get? b = some u → h'.get? b = some u) (hp : s.heap.objs.size ≤ a) (new : ObjOk X.prog X.w (upd H a o) h' a o) :
    Inv X pins σ (upd H a o) { s with heap := h', toks := t' } := I.un (Un.laid k hp (I.hok.fresh hp)) (I.hok.laid k hp new)
/-- an object written -/
theorem Inv.write {x e : Addr} {o : HO} {t' : Nat} (I : Inv X pins σ H s) (mu : Mut (H x)) (he : e = x ∨ H e = some (.own x)) (k : ∀ b u, b ≠ e → s.heap.get? b = some u → h'.get? b = some u) (heo : ∃ u, h'.get? e = some u)
    (new : ObjOk X.prog X.w (upd H x o) h' x o) : Inv X pins σ (upd H x o) { s with heap := h', toks := t' } := I.un (Un.write mu he k heo) (I.hok.write mu he k heo new)
theorem Inv.pins_of {pins' : List (Addr × Obj)} (I : Inv X pins σ H s) (h : ∀ p ∈ pins', s.heap.get? p.1 = some p.2 ∧ H p.1 = none ∧ p.1 ≠ X.env.locals ∧ p.1 ∉ X.fs ∧ ∀ v, p.2.data ≠ .cell v) : Inv X pins' σ H s :=
  ⟨I.ok, I.os, I.bare, I.base, I.loc, I.cell, I.free, I.freeC, fun p hp => (List.mem_append.mp hp).elim (fun z => I.pin p (List.mem_append_left _ z)) (h p), I.hok, I.len⟩

theorem nodup_ix {N : List Str} (hN : N.Nodup) {i j : Nat} {x : Str} (a : N[i]? = some x) (b : N[j]? = some x) : i = j := by
  obtain ⟨h1, e1⟩ := List.getElem?_eq_some_iff.mp a
  obtain ⟨h2, e2⟩ := List.getElem?_eq_some_iff.mp b
  exact (List.getElem_inj hN).mp (e1.trans e2.symm)

/-- a name is stored; what changed -/
theorem store_ok2 {M : Model} {A : Around} {E : Value → Shared → Prop} {i : Nat} {x : Str} {v : V} {u : Value} {Q : Unit → Shared → Prop} (I : Inv X pins σ H s) (hN : X.N.Nodup) (hi : X.N[i]? = some x) (hx : Loc X.env.scope x) (r : RelV v u)
    (h : ∀ s', Inv X pins (σ.set i (some v)) H s' → (∃ a, Heap.SameBut a s.heap s'.heap ∧ (a = X.env.locals ∨ X.env.cells.lookup x = some a)) → Q () s') (hf : X.fn x = true ∨ X.env.scope.names.lookup x = some .local := by first | exact .inl rfl | exact .inr rfl | assumption) : wpAny M A (storeName X.env x u) Q E s := by
  obtain ⟨m, hn, hl⟩ := id I.loc
  have hcls : (X.env.scope.kind == .class || (X.env.scope.kind == .module && X.env.locals != X.env.globals)) = false := by rw [I.ok.kind]; rfl
  have hiσ : i < σ.length := by rw [I.len]; exact (List.getElem?_eq_some_iff.mp hi).1
  have cne := I.cne
  have tracked : ∀ {a : Addr} {h' : Heap}, (∃ o, s.heap.get? a = some o ∧ H a = none) → Heap.SameBut a s.heap h' → HOk X.prog X.w H h' := fun {a h'} ha hs b ob e => by
    obtain ⟨_, _, hfree⟩ := ha
    refine (I.hok b ob e).stay (fun c w' hc q => (hs.2 c ?_).trans q) (fun _ q => q) (fun _ _ q => q) fun _ _ _ q => q
    rintro rfl
    rcases hc with rfl | hc
    · rw [hfree] at e; cases e
    · rw [hfree] at hc; cases hc
  rcases hx with hk | hk
  · refine wpAny_storeName_local hk hn (fun h' hn' hs => ?_) hcls
    obtain ⟨oL, _, _, hoL, _⟩ := id hn
    refine h _ ⟨I.ok, I.os, I.bare, ⟨fun b o e n hb hx => ?_, fun b o e n hb hx => ?_, I.base.free, fun b o e hx => ?_, I.base.tups, I.base.frzs, I.base.tbls⟩, ⟨_, hn', fun j y v' e1 e2 e3 => ?_⟩, fun y c e => ?_, I.free, I.freeC, fun p hp => ?_, tracked ⟨oL, hoL, I.free⟩ hs, by simpa using I.len⟩ ⟨_, hs, .inl rfl⟩
    · exact (hs.2 b (Nat.ne_of_lt (Nat.lt_of_lt_of_le (Heap.lt_size e) I.ok.above))).trans (I.base.keep b o e n hb hx)
    · obtain ⟨sl, e1⟩ := I.base.slot b o e n hb hx
      exact ⟨sl, (hs.2 b (Nat.ne_of_lt (Nat.lt_of_lt_of_le (Heap.lt_size e) I.ok.above))).trans e1⟩
    · obtain ⟨o', e1⟩ := I.base.there b o e hx
      exact ⟨o', (hs.2 b (Nat.ne_of_lt (Nat.lt_of_lt_of_le (Heap.lt_size e) I.ok.above))).trans e1⟩
    · by_cases hj : j = i
      · subst hj
        rw [hi] at e1; cases e1
        rw [List.getElem?_set_self hiσ] at e2
        cases e2
        exact ⟨u, r, .inl ⟨hk, by simp⟩⟩
      · rw [List.getElem?_set_ne (Ne.symm hj)] at e2
        obtain ⟨u', r', q⟩ := hl j y v' e1 e2 e3
        refine ⟨u', r', ?_⟩
        rcases q with ⟨k, e⟩ | ⟨k, c, e, z⟩
        · refine .inl ⟨k, ?_⟩
          have : y ≠ x := fun e => hj (nodup_ix hN e1 (e ▸ hi))
          simp [this, e]
        · exact .inr ⟨k, c, e, z.sameBut hs (cne y c e)⟩
    · obtain ⟨w', z⟩ := I.cell y c e
      exact ⟨w', z.sameBut hs (cne y c e)⟩
    · obtain ⟨e, n, ne, nf, d⟩ := I.pin p hp
      exact ⟨(hs.2 p.1 ne).trans e, n, ne, nf, d⟩
  · have hfn : X.fn x = true := by
      rcases hf with z | z
      · exact z
      · rw [z] at hk; cases hk
    obtain ⟨c, hc⟩ := I.ok.has x (.inl hk)
    obtain ⟨w', z⟩ := I.cell x c hc
    refine wpAny_storeName_cell I.ok.kind hk hc z (fun h' hc' hs => ?_)
    obtain ⟨oc, hoc, hocd⟩ := id z
    refine h { s with heap := h' } ⟨I.ok, I.os, I.bare, ⟨fun b o e n hb hx => ?_, fun b o e n hb hx => ?_, I.base.free, fun b o e hx => ?_, I.base.tups, I.base.frzs, I.base.tbls⟩, ⟨m, hn.sameBut hs (Ne.symm (cne x c hc)), fun j y v' e1 e2 e3 => ?_⟩, fun y c' e => ?_, I.free, I.freeC, fun p hp => ?_, tracked ⟨oc, hoc, I.freeC x c hc⟩ hs, by simpa using I.len⟩ ⟨c, hs, .inr hc⟩
    · exact (hs.2 b (Nat.ne_of_lt (Nat.lt_of_lt_of_le (Heap.lt_size e) (I.ok.cab x c hfn hc)))).trans (I.base.keep b o e n hb hx)
    · obtain ⟨sl, e1⟩ := I.base.slot b o e n hb hx
      exact ⟨sl, (hs.2 b (Nat.ne_of_lt (Nat.lt_of_lt_of_le (Heap.lt_size e) (I.ok.cab x c hfn hc)))).trans e1⟩
    · obtain ⟨o', e1⟩ := I.base.there b o e hx
      exact ⟨o', (hs.2 b (Nat.ne_of_lt (Nat.lt_of_lt_of_le (Heap.lt_size e) (I.ok.cab x c hfn hc)))).trans e1⟩
    · by_cases hj : j = i
      · subst hj
        rw [hi] at e1; cases e1
        rw [List.getElem?_set_self hiσ] at e2
        cases e2
        exact ⟨u, r, .inr ⟨.inl hk, c, hc, hc'⟩⟩
      · rw [List.getElem?_set_ne (Ne.symm hj)] at e2
        obtain ⟨u', r', q⟩ := hl j y v' e1 e2 e3
        refine ⟨u', r', ?_⟩
        rcases q with q | ⟨k, c', e, z'⟩
        · exact .inl q
        · refine .inr ⟨k, c', e, z'.sameBut hs ?_⟩
          rintro rfl
          exact hj (nodup_ix hN e1 (I.ok.inj _ _ _ e hc ▸ hi))
    · by_cases hcc : c' = c
      · subst hcc; exact ⟨_, hc'⟩
      · obtain ⟨w2, z2⟩ := I.cell y c' e
        exact ⟨w2, z2.sameBut hs hcc⟩
    · obtain ⟨e, n, ne, nf, d⟩ := I.pin p hp
      refine ⟨(hs.2 p.1 ?_).trans e, n, ne, nf, d⟩
      intro q
      rw [q, hoc] at e
      have q' : oc = p.2 := Option.some.inj e
      exact d w' (by rw [← q']; exact hocd)
theorem store_ok {M : Model} {A : Around} {E : Value → Shared → Prop} {i : Nat} {x : Str} {v : V} {u : Value} {Q : Unit → Shared → Prop} (I : Inv X pins σ H s) (hN : X.N.Nodup) (hi : X.N[i]? = some x) (hx : Loc X.env.scope x) (r : RelV v u)
    (h : ∀ s', Inv X pins (σ.set i (some v)) H s' → Q () s') (hf : X.fn x = true ∨ X.env.scope.names.lookup x = some .local := by first | exact .inl rfl | exact .inr rfl | assumption) : wpAny M A (storeName X.env x u) Q E s :=
  store_ok2 I hN hi hx r (fun s' I' _ => h s' I') hf
/-- behind a call or a block, the state as it is -/
theorem Inv.call' {s' : Shared} {ch : List Addr} (I : Inv X pins σ H s) (ho : s'.os = s.os) (u : Un (frs X.stack) ch H H' s.heap s'.heap) (hok : HOk X.prog X.w H' s'.heap) (hg : AllBare s'.gens)
    (hch : ∀ b ∈ ch, (b ∈ X.ex ∨ X.s₀.heap.objs.size ≤ b) ∧ b ≠ X.env.locals ∧ (∀ x c, X.env.cells.lookup x = some c → c ≠ b) ∧ ∀ p ∈ X.pn ++ pins, p.1 ≠ b) : Inv X pins σ H' s' := by
  obtain ⟨h', g', d', t', o'⟩ := s'
  have e : o' = s.os := ho
  subst e
  exact I.call (g' := g') (t' := t') (d' := d') u hok hg hch
end

/-! ### the judgements -/
/-- an exception: its class, its own dict's address (where it has one), the abstract heap behind it -/
abbrev XK := Value → Option Addr → Hp → Prop
abbrev St := List (Option V)
abbrev VK := V → Hp → Prop
/-- an expression's reading; a test's; an argument list's -/
abbrev TE := St → Hp → VK → Prop
abbrev TT := St → Hp → (Bool → Hp → Prop) → Prop
abbrev TA := St → Hp → (List V → Hp → Prop) → Prop
/-- what is wanted behind a statement -/
structure Ends where
  nx : St → Hp → Prop
  rt : VK
  bk : St → Hp → Prop := fun _ _ => False
  ct : St → Hp → Prop := fun _ _ => False
abbrev TS := Ends → St → Hp → Prop

def EP (X : Cx) (pins : List (Addr × Obj)) (σ : St) (Q : VK) (u : Value) (s' : Shared) : Prop := ∃ v H', Inv X pins σ H' s' ∧ RelV v u ∧ Q v H'
def TP (X : Cx) (pins : List (Addr × Obj)) (σ : St) (Q : Bool → Hp → Prop) (b : Bool) (s' : Shared) : Prop := ∃ H', Inv X pins σ H' s' ∧ Q b H'
def AP (X : Cx) (pins : List (Addr × Obj)) (σ : St) (Q : List V → Hp → Prop) (us : List Value) (s' : Shared) : Prop := ∃ vs H', Inv X pins σ H' s' ∧ Vals vs us ∧ Q vs H'
def SP (X : Cx) (pins : List (Addr × Obj)) (D : Ends) (f : Flow) (s' : Shared) : Prop :=
  match f with
  | .next => ∃ σ' H', Inv X pins σ' H' s' ∧ D.nx σ' H'
  | .brk => ∃ σ' H', Inv X pins σ' H' s' ∧ D.bk σ' H'
  | .cont => ∃ σ' H', Inv X pins σ' H' s' ∧ D.ct σ' H'
  | .ret u => ∃ v σ' H', Inv X pins σ' H' s' ∧ RelV v u ∧ D.rt v H'

def PE (X : Cx) (e : Expr) (t : TE) : Prop :=
  ∀ (pins : List (Addr × Obj)) (s : Shared) (σ : St) (H : Hp) (Q : VK), Inv X pins σ H s → t σ H Q → wpAny (model X.prog X.w) X.A (eval e X.env) (EP X pins σ Q) X.xe s
def PT (X : Cx) (e : Expr) (t : TT) : Prop :=
  ∀ (pins : List (Addr × Obj)) (s : Shared) (σ : St) (H : Hp) (Q : Bool → Hp → Prop), Inv X pins σ H s → t σ H Q → wpAny (model X.prog X.w) X.A (isTrue e X.env (eval e X.env)) (TP X pins σ Q) X.xe s
/-- a test whatever its 'whole' is (and, or) -/
def PW (X : Cx) (e : Expr) (t : TT) : Prop :=
  ∀ (whole : Sem Value) (pins : List (Addr × Obj)) (s : Shared) (σ : St) (H : Hp) (Q : Bool → Hp → Prop), Inv X pins σ H s → t σ H Q → wpAny (model X.prog X.w) X.A (isTrue e X.env whole) (TP X pins σ Q) X.xe s
theorem PW.pt {X : Cx} {e : Expr} {t : TT} (h : PW X e t) : PT X e t := h _
/-- an argument list (no star), from the left -/
def PA (X : Cx) (es : List Expr) (t : TA) : Prop :=
  ∀ (pos : Pos) (pins : List (Addr × Obj)) (s : Shared) (σ : St) (H : Hp) (Q : List V → Hp → Prop), Inv X pins σ H s → t σ H Q → wpAny (model X.prog X.w) X.A (spliced (backTo pos (starEach es X.env))) (AP X pins σ Q) X.xe s
def PS (X : Cx) (st : Stmt) (t : TS) : Prop :=
  ∀ (pins : List (Addr × Obj)) (s : Shared) (σ : St) (H : Hp) (D : Ends), Inv X pins σ H s → t D σ H → wpAny (model X.prog X.w) X.A (exec st X.env) (SP X pins D) X.xe s
def PSs (X : Cx) (st : List Stmt) (t : TS) : Prop :=
  ∀ (pins : List (Addr × Obj)) (s : Shared) (σ : St) (H : Hp) (D : Ends), Inv X pins σ H s → t D σ H → wpAny (model X.prog X.w) X.A (execs st X.env) (SP X pins D) X.xe s
/-- weaken the end -/
theorem thn {α : Type} {t : Sem α} {Q Q' : α → Shared → Prop} {M : Model} {A : Around} {E : Value → Shared → Prop} {s : Shared} (h : wpAny M A t Q E s) (hQ : ∀ a s, Q a s → Q' a s) : wpAny M A t Q' E s := wpAny_mono h hQ fun _ _ x => x
end L2

namespace L2
open PySem PySem.Spec PyProof.Rows
section
variable {X : Cx}

/-! ### names and constants -/
def tVar (i : Nat) : TE := fun σ H Q => ∃ v, σ[i]? = some (some v) ∧ Q v H
def tC (v : V) : TE := fun _ H Q => Q v H
theorem pe_var {i : Nat} {x : Str} {pos : Pos} (hN : X.N[i]? = some x) (hv : Vis X.env.scope x) (hd : (x == ("__debug__" : Str)) = false := by decide) (hcd : (x == ("__classdict__" : Str)) = false := by decide) : PE X (.Name x pos) (tVar i) := by
  intro pins s σ H Q I h
  obtain ⟨v, e, h⟩ := h
  obtain ⟨m, hn, hl⟩ := I.loc
  obtain ⟨u, r, l⟩ := hl i x v hN e hv
  have fin : EP X pins σ Q u s := ⟨v, H, I, r, h⟩
  rcases l with ⟨hk, hm⟩ | ⟨hk, c, hc, hcell⟩
  · exact wpAny_Name (wpAny_loadName_local I.ok.kind hk hn hm fin) hd
  · rcases hk with hk | hk
    · exact wpAny_Name (wpAny_loadName_cell I.ok.kind hk hc hcell fin) hd
    · exact wpAny_Name (wpAny_loadName_free I.ok.kind hk hc hcell fin hcd) hd
theorem pe_int {i j pos} : PE X (.Constant (.int i) j pos) (tC (.int i)) := fun _ _ _ H _ I h => wpAny_Constant_int ⟨.int i, H, I.tok _, ⟨_, rfl⟩, h⟩
theorem pe_bl {b j pos} : PE X (.Constant (.bool b) j pos) (tC (.bl b)) := fun _ _ _ H _ I h => Constant_bool ⟨.bl b, H, I, rfl, h⟩
/-- a global name of the def -/
def Gl (X : Cx) (x : Str) : Prop := X.env.kindOf x = some .globalImplicit
theorem ld_glob {E : Value → Shared → Prop} {pins : List (Addr × Obj)} {s : Shared} {σ : St} {H : Hp} {x : Str} {u : Value} {pos : Pos} {Q : Value → Shared → Prop} (I : Inv X pins σ H s) (hg : Gl X x) (hm : X.mg x = some u) (h : Q u s)
    (hd : (x == ("__debug__" : Str)) = false := by decide) : wpAny (model X.prog X.w) X.A (eval (.Name x pos) X.env) Q E s :=
  Calls.Name_function_global I.ok.kind hg (Calls.loadGlobal_global (by rw [I.ok.glob]; exact I.mod.glob.keeps I.bk) hm h) hd
theorem ld_blt {E : Value → Shared → Prop} {pins : List (Addr × Obj)} {s : Shared} {σ : St} {H : Hp} {x : Str} {u : Value} {pos : Pos} {Q : Value → Shared → Prop} (I : Inv X pins σ H s) (hg : Gl X x) (hm : X.mg x = none) (hv : bootBuiltins x = some u) (h : Q u s)
    (hn : x ≠ "__name__" := by decide) (hd : (x == ("__debug__" : Str)) = false := by decide) : wpAny (model X.prog X.w) X.A (eval (.Name x pos) X.env) Q E s := by
  obtain ⟨mb, h1, h2⟩ := I.mod.blt
  exact Calls.Name_function_global I.ok.kind hg (Calls.loadGlobal_builtin (by rw [I.ok.glob]; exact I.mod.glob.keeps I.bk) hm (by rw [I.ok.blt]; exact h1.keeps I.bk) ((h2 x hn).trans hv) h) hd
theorem pe_bltn {x : Str} {v : V} {u : Value} {pos : Pos} (hg : Gl X x) (hm : X.mg x = none) (hv : bootBuiltins x = some u) (r : RelV v u) (hn : x ≠ "__name__" := by decide) (hd : (x == ("__debug__" : Str)) = false := by decide) : PE X (.Name x pos) (tC v) :=
  fun _ _ _ H _ I h => ld_blt I hg hm hv ⟨v, H, I, r, h⟩ hn hd

/-! ### arithmetic -/
variable {a b : Expr} {ta tb : TE} {pos : Pos}
/-! ### comparisons -/
/-! ### and, or, not -/
variable {tA tB' : TT} {rest : List Expr}
def tAnd (t u : TT) : TT := fun σ H Q => t σ H fun c H1 => if c = true then u σ H1 Q else Q false H1
def tOr (t u : TT) : TT := fun σ H Q => t σ H fun c H1 => if c = true then Q true H1 else u σ H1 Q
def tNot (t : TT) : TT := fun σ H Q => t σ H fun c H1 => Q (!c) H1
theorem pw_and1 (ha : PT X a tA) : PW X (.BoolOp .And [a] pos) tA := by
  intro wh pins s σ H Q I h
  refine isTrue_and (thn (ha pins s σ H Q I h) fun c s1 e => ?_)
  cases c with
  | true => exact isTrue_and_nil e
  | false => exact e
theorem pw_or1 (ha : PT X a tA) : PW X (.BoolOp .Or [a] pos) tA := by
  intro wh pins s σ H Q I h
  refine isTrue_or (thn (ha pins s σ H Q I h) fun c s1 e => ?_)
  cases c with
  | false => exact isTrue_or_nil e
  | true => exact e
theorem pw_and (ha : PT X a tA) (hb : PW X (.BoolOp .And (b :: rest) pos) tB') : PW X (.BoolOp .And (a :: b :: rest) pos) (tAnd tA tB') := by
  intro wh pins s σ H Q I h
  refine isTrue_and (thn (ha pins s σ H _ I h) fun c s1 ⟨H1, I1, q1⟩ => ?_)
  cases c with
  | true => exact hb wh pins s1 σ H1 Q I1 q1
  | false => exact ⟨H1, I1, q1⟩
theorem pw_or (ha : PT X a tA) (hb : PW X (.BoolOp .Or (b :: rest) pos) tB') : PW X (.BoolOp .Or (a :: b :: rest) pos) (tOr tA tB') := by
  intro wh pins s σ H Q I h
  refine isTrue_or (thn (ha pins s σ H _ I h) fun c s1 ⟨H1, I1, q1⟩ => ?_)
  cases c with
  | true => exact ⟨H1, I1, q1⟩
  | false => exact hb wh pins s1 σ H1 Q I1 q1
theorem pt_not (ha : PT X a tA) : PT X (.UnaryOp .Not a pos) (tNot tA) := by
  intro pins s σ H Q I h
  exact isTrue_not (ha pins s σ H (fun c H1 => Q (!c) H1) I h)
end
end L2

namespace L2
open PySem PySem.Spec PyProof.Rows

/-! ### a list, a tuple that is read: tracked, frozen, or an object of the module -/
def SqL (K : PySem.W.Frag) (H : Hp) (a : Addr) (xs : List V) : Prop :=
  Rd H a (.lst xs) ∨
    ∃ (o : Obj) (its : Array Value) (n : Nat), K.lookup a = some o ∧ o.cls = .type "list" ∧ o.dict = none ∧ o.data = .seq its n ∧ its.size ≤ sizeLine ∧ Vals xs its.toList
def SqT (K : PySem.W.Frag) (H : Hp) (a : Addr) (xs : List V) : Prop :=
  Rd H a (.tup xs) ∨
    ∃ (o : Obj) (its : Array Value) (n : Nat), K.lookup a = some o ∧ o.cls = .type "tuple" ∧ o.data = .seq its n ∧ its.size ≤ sizeLine ∧ Vals xs its.toList
def absV : Value → Option V
  | .none => some .non
  | .bool b => some (.bl b)
  | .int i _ => some (.int i)
  | .str x _ => some (.str x)
  | .bytes b _ => some (.byt b)
  | .float b _ => some (.flt b)
  | .ref a => some (.ref a)
  | .type n => some (.ty n)
  | _ => none
theorem RelV.abs {x : V} {u : Value} (r : RelV x u) : absV u = some x := by
  cases x with
  | non => cases r; rfl
  | bl _ => cases r; rfl
  | int _ => obtain ⟨t, rfl⟩ := r; rfl
  | str _ => obtain ⟨t, rfl⟩ := r; rfl
  | byt _ => obtain ⟨t, rfl⟩ := r; rfl
  | flt _ => obtain ⟨t, rfl⟩ := r; rfl
  | ref _ => cases r; rfl
  | ty _ => cases r; rfl
theorem RelV.inj {x y : V} {u : Value} (r : RelV x u) (q : RelV y u) : x = y := Option.some.inj (r.abs.symm.trans q.abs)
theorem Vals.inj : ∀ {xs ys : List V} {us : List Value}, Vals xs us → Vals ys us → xs = ys
  | _, _, _, .nil, .nil => rfl
  | _, _, _, .cons r t, .cons r' t' => by rw [r.inj r', Vals.inj t t']
section
variable {X : Cx} {pins : List (Addr × Obj)} {σ : St} {H : Hp} {s : Shared} {a : Addr} {xs ys : List V}
theorem SqL.of {K : PySem.W.Frag} (h : H a = some (.lst xs)) : SqL K H a xs := .inl (.inl h)
theorem SqT.of {K : PySem.W.Frag} (h : H a = some (.tup xs)) : SqT K H a xs := .inl (.inl h)
theorem Inv.list (I : Inv X pins σ H s) (h : SqL X.K H a xs) : ∃ its : List Value, Vals xs its ∧ PlainL s.heap a its.toArray ∧ xs.length ≤ sizeLine := by
  rcases h with h | ⟨o, its, n, hk, hc, hd, hs, hz, r⟩
  · obtain ⟨z, its, n, r, e⟩ := h.ok I.hok
    exact ⟨its, r, ⟨_, n, e, rfl, rfl, rfl⟩, z⟩
  · refine ⟨its.toList, r, ⟨o, n, I.kIn a o hk, hc, hd, by simpa using hs⟩, ?_⟩
    have e := r.length
    simp only [Array.length_toList] at e
    omega
theorem Inv.tuple (I : Inv X pins σ H s) (h : SqT X.K H a xs) : ∃ its : List Value, Vals xs its ∧ IsTup s.heap a its.toArray ∧ xs.length ≤ sizeLine := by
  rcases h with h | ⟨o, its, n, hk, hc, hs, hz, r⟩
  · obtain ⟨z, its, r, p⟩ := h.ok I.hok
    exact ⟨its, r, p, z⟩
  · refine ⟨its.toList, r, ⟨o, I.kIn a o hk, hc, n, by simpa using hs⟩, ?_⟩
    have e := r.length
    simp only [Array.length_toList] at e
    omega
theorem Inv.list_inj (I : Inv X pins σ H s) (h : SqL X.K H a xs) (h' : SqL X.K H a ys) : xs = ys := by
  obtain ⟨its, r, ⟨o, n, e, _, _, d⟩, _⟩ := I.list h
  obtain ⟨its', r', ⟨o', n', e', _, _, d'⟩, _⟩ := I.list h'
  rw [e] at e'; cases e'
  rw [d] at d'
  injection d' with d1 _
  have : its = its' := by simpa using congrArg Array.toList d1
  subst this
  exact r.inj r'
end

/-! ### another wish about exceptions -/
abbrev Cx.wish (X : Cx) (E : Value → Shared → Prop) : Cx := { X with xe := E }
/-- no exception leaves -/
abbrev Cx.nox (X : Cx) : Cx := X.wish fun _ _ => False
theorem Cx.Ok.wish {X : Cx} (ok : X.Ok) (E : Value → Shared → Prop) : (X.wish E).Ok :=
  ⟨ok.mod, ok.kind, ok.glob, ok.blt, ok.above, ok.inj, ok.has, ok.cab, ok.hd, ok.frames, ok.stk, ok.exf, ok.bs, ok.bsz, ok.noex, ok.exfs, ok.funs, ok.frf⟩
theorem Cx.Ok.unwish {X : Cx} {E : Value → Shared → Prop} (ok : (X.wish E).Ok) : X.Ok :=
  ⟨ok.mod, ok.kind, ok.glob, ok.blt, ok.above, ok.inj, ok.has, ok.cab, ok.hd, ok.frames, ok.stk, ok.exf, ok.bs, ok.bsz, ok.noex, ok.exfs, ok.funs, ok.frf⟩
section
variable {X : Cx} {pins : List (Addr × Obj)} {σ : St} {H : Hp} {s : Shared} {E : Value → Shared → Prop}
theorem Inv.wish (I : Inv X pins σ H s) (E : Value → Shared → Prop) : Inv (X.wish E) pins σ H s := ⟨I.ok.wish E, I.os, I.bare, I.base, I.loc, I.cell, I.free, I.freeC, I.pin, I.hok, I.len⟩
theorem Inv.unwish (I : Inv (X.wish E) pins σ H s) : Inv X pins σ H s := ⟨I.ok.unwish, I.os, I.bare, I.base, I.loc, I.cell, I.free, I.freeC, I.pin, I.hok, I.len⟩
theorem SP.unwish {D : Ends} {f : Flow} {s' : Shared} (h : SP (X.wish E) pins D f s') : SP X pins D f s' := by
  cases f with
  | next => obtain ⟨σ', H', I, q⟩ := h; exact ⟨σ', H', I.unwish, q⟩
  | brk => obtain ⟨σ', H', I, q⟩ := h; exact ⟨σ', H', I.unwish, q⟩
  | cont => obtain ⟨σ', H', I, q⟩ := h; exact ⟨σ', H', I.unwish, q⟩
  | ret u => obtain ⟨v, σ', H', I, r, q⟩ := h; exact ⟨v, σ', H', I.unwish, r, q⟩
theorem PSs.nox {st : List Stmt} {t : TS} (h : PSs X.nox st t) : PSs X st t := fun pins s σ H D I hw =>
  wpAny_mono (h pins s σ H D (I.wish _) hw) (fun _ _ q => q.unwish) fun _ _ z => False.elim z
end

/-! ### blocks and small statements -/
section
variable {X : Cx} {st : Stmt} {rest : List Stmt} {t u : TS} {e : Expr} {te : TE} {pos : Pos}
def tNext : TS := fun D σ H => D.nx σ H
def tSeq (t u : TS) : TS := fun D σ H => t { D with nx := u D } σ H
theorem pss_nil : PSs X [] tNext := fun _ _ σ H _ I h => wpAny_execs_nil ⟨σ, H, I, h⟩
theorem pss_cons (h1 : PS X st t) (h2 : PSs X rest u) : PSs X (st :: rest) (tSeq t u) := by
  intro pins s σ H D I h
  refine wpAny_execs_cons (thn (h1 pins s σ H { D with nx := u D } I h) fun f s1 q => ?_)
  cases f with
  | next =>
    obtain ⟨σ', H', I', q⟩ := q
    exact h2 pins s1 σ' H' D I' q
  | ret v => exact q
  | brk => exact q
  | cont => exact q
theorem pss_one (h1 : PS X st t) : PSs X [st] t := by
  intro pins s σ H D I h
  refine wpAny_execs_cons (thn (h1 pins s σ H D I h) fun f s1 q => ?_)
  cases f with
  | next => exact wpAny_execs_nil q
  | ret v => exact q
  | brk => exact q
  | cont => exact q
/-- in a def's body nothing is shown -/
theorem Inv.quiet {pins : List (Addr × Obj)} {σ : St} {H : Hp} {s : Shared} (I : Inv X pins σ H s) : interactive X.env = false := by simp [interactive, I.ok.kind]
/-- an expression whose value is dropped -/
def tDrop (te : TE) : TS := fun D σ H => te σ H fun _ H1 => D.nx σ H1
theorem ps_expr (he : PE X e te) (hs : swapsWith e none pos.line X.env = pure false := by rfl) : PS X (.Expr e pos) (tDrop te) := by
  intro pins s σ H D I h
  exact wpAny_Expr_any (thn (he pins s σ H _ I h) fun v s1 ⟨x, H1, I1, r1, q1⟩ => ⟨σ, H1, I1, q1⟩) I.quiet hs
def tRet (te : TE) : TS := fun D σ H => te σ H D.rt
theorem ps_ret (he : PE X e te) : PS X (.Return (some e) pos) (tRet te) := by
  intro pins s σ H D I h
  exact wpAny_Return_some (thn (he pins s σ H _ I h) fun v s1 ⟨x, H1, I1, r1, q1⟩ => ⟨x, σ, H1, I1, r1, q1⟩)
def tIfS (c : TT) (t u : TS) : TS := fun D σ H => c σ H fun b H1 => if b = true then t D σ H1 else u D σ H1
theorem ps_if {c : Expr} {a b : List Stmt} {tc : TT} (hc : PT X c tc) (ha : PSs X a t) (hb : PSs X b u) : PS X (.If c a b pos) (tIfS tc t u) := by
  intro pins s σ H D I h
  refine wpAny_If (thn (hc pins s σ H _ I h) fun d s1 ⟨H1, I1, q1⟩ => ?_)
  cases d with
  | true => exact ha pins s1 σ H1 D I1 q1
  | false => exact hb pins s1 σ H1 D I1 q1
end

/-! ### targets -/
abbrev TG := V → St → Hp → (St → Hp → Prop) → Prop
abbrev TGs := List V → St → Hp → (St → Hp → Prop) → Prop
def PG (X : Cx) (target : Expr) (t : TG) : Prop :=
  ∀ (pins : List (Addr × Obj)) (s : Shared) (σ : St) (H : Hp) (v : V) (u : Value) (Q : St → Hp → Prop), Inv X pins σ H s → RelV v u → t v σ H Q →
    wpAny (model X.prog X.w) X.A (assign target X.env u) (fun _ s' => ∃ σ' H', Inv X pins σ' H' s' ∧ Q σ' H') X.xe s
/-- several targets, one after another -/
def PGs (X : Cx) (ts : List Expr) (t : TGs) : Prop :=
  ∀ (pins : List (Addr × Obj)) (s : Shared) (σ : St) (H : Hp) (vs : List V) (us : List Value) (Q : St → Hp → Prop), Inv X pins σ H s → Vals vs us → t vs σ H Q →
    wpAny (model X.prog X.w) X.A (assignInOrder ((assignEach ts X.env).map (·.2)) us) (fun _ s' => ∃ σ' H', Inv X pins σ' H' s' ∧ Q σ' H') X.xe s
section
variable {X : Cx} {pos : Pos}
def gName (i : Nat) : TG := fun v σ H Q => Q (σ.set i (some v)) H
theorem pg_name {i : Nat} {x : Str} (hN : X.N.Nodup) (hi : X.N[i]? = some x) (hx : Loc X.env.scope x) (hf : X.fn x = true ∨ X.env.scope.names.lookup x = some .local := by first | exact .inl rfl | exact .inr rfl | assumption) : PG X (.Name x pos) (gName i) := by
  intro pins s σ H v u Q I r h
  exact wpAny_assign_Name (store_ok I hN hi hx r (fun s' I' => ⟨_, H, I', h⟩) hf)
def gNil : TGs := fun vs σ H Q => vs = [] ∧ Q σ H
def gCons (t : TG) (u : TGs) : TGs := fun vs σ H Q => ∃ v r, vs = v :: r ∧ t v σ H fun σ' H' => u r σ' H' Q
theorem pgs_nil : PGs X [] gNil := by
  intro pins s σ H vs us Q I r h
  obtain ⟨e, h⟩ := h
  subst e
  cases r
  exact assignInOrder_nil ⟨σ, H, I, h⟩
theorem pgs_cons {e : Expr} {es : List Expr} {t : TG} {u : TGs} (h1 : PG X e t) (h2 : PGs X es u)
    (hs : (assignEach (e :: es) X.env).map (·.2) = assign e X.env :: (assignEach es X.env).map (·.2) := by rfl) : PGs X (e :: es) (gCons t u) := by
  intro pins s σ H vs us Q I r h
  obtain ⟨v, vr, e1, h⟩ := h
  subst e1
  cases r with
  | cons r rr =>
    rw [hs]
    refine assignInOrder_cons (thn (h1 pins s σ H _ _ _ I r h) fun _ s1 ⟨σ1, H1, I1, q1⟩ => ?_)
    exact h2 pins s1 σ1 H1 _ _ Q I1 rr q1
/-- (a, b, ..) = a tuple of that length -/
def gTup (K : PySem.W.Frag) (n : Nat) (t : TGs) : TG := fun v σ H Q => ∃ a xs, v = .ref a ∧ SqT K H a xs ∧ xs.length = n ∧ t xs σ H Q
theorem pg_tup {es : List Expr} {k : Nat} {t : TGs} {n : Nat} (hc : X.calm = true) (h : PGs X es t)
    (hn : (assignEach es X.env).length = n := by rfl) (hst : (assignEach es X.env).findIdx? (·.1) = none := by rfl) : PG X (.Tuple es k pos) (gTup X.K n t) := by
  intro pins s σ H v u Q I r hw
  obtain ⟨a, xs, e1, hq, hl, hw⟩ := hw
  subst e1
  cases r
  obtain ⟨its, rv, ht, hz⟩ := I.tuple hq
  refine assign_Tuple_tuple (I.ok.hd hc) ht (by simp [hn, ← hl, rv.length]) hst fun h' hx => ?_
  have I1 : Inv X pins σ H { s with heap := h' } := I.kept (t' := s.toks) fun b o e => hx b o (Nat.ne_of_lt (Heap.lt_size e)) e
  exact h pins _ σ H xs _ Q I1 (by simpa using rv) hw
/-- target = value -/
def tAsg (te : TE) (g : TG) : TS := fun D σ H => te σ H fun x H1 => g x σ H1 D.nx
theorem ps_asg {tg e : Expr} {te : TE} {g : TG} (he : PE X e te) (hg : PG X tg g) (hs : swapsWithSole [tg] e pos.line X.env = pure false := by rfl) (hw : swappedStores [tg] e X.env = pure none := by rfl)
    (h1 : (assignEach [tg] X.env).map (·.2) = [assign tg X.env] := by rfl) : PS X (.Assign [tg] e pos) (tAsg te g) := by
  intro pins s σ H D I h
  refine wpAny_Assign_stores (thn (he pins s σ H _ I h) fun v s1 ⟨x, H1, I1, r1, q1⟩ => ?_) hs hw
  rw [h1]
  exact thn (hg pins s1 σ H1 x v _ I1 r1 q1) fun _ s2 q => q
/-- name = value -/
theorem ps_set {i : Nat} {x : Str} {e : Expr} {te : TE} {pos' : Pos} (hN : X.N.Nodup) (hi : X.N[i]? = some x) (hx : Loc X.env.scope x) (he : PE X e te) (hs : swapsWith e (some (.Name x pos')) pos.line X.env = pure false := by rfl) (hf : X.fn x = true ∨ X.env.scope.names.lookup x = some .local := by first | exact .inl rfl | exact .inr rfl | assumption) :
    PS X (.Assign [.Name x pos'] e pos) (tAsg te (gName i)) := by
  intro pins s σ H D I h
  refine wpAny_Assign_Name (thn (he pins s σ H _ I h) fun v s1 ⟨y, H1, I1, r1, q1⟩ => ?_) hs
  exact store_ok I1 hN hi hx r1 (fun s2 I2 => ⟨_, H1, I2, q1⟩) hf
end

/-! ### while -/
section
variable {X : Cx} {pos : Pos}
/-- the invariant W with its measure -/
def tWhile (c : TT) (tb : TS) : TS := fun D σ H => ∃ W : Nat → St → Hp → Prop, (∃ m, W m σ H) ∧ ∀ m σ H, W m σ H →
  c σ H fun b H1 => if b = true then ∃ N : St → Hp → Prop, (∀ σ' H', N σ' H' → ∃ m', m' < m ∧ W m' σ' H') ∧ tb { D with nx := N, ct := N, bk := D.nx } σ H1 else D.nx σ H1
theorem ps_while {c : Expr} {body : List Stmt} {tc : TT} {tb : TS} (hp : PassesOwn (model X.prog X.w) X.A X.env X.xe) (hc : PT X c tc) (hb : PSs X body tb) : PS X (.While c body [] pos) (tWhile tc tb) := by
  intro pins s σ H D I h
  obtain ⟨W, ⟨m0, w0⟩, turn⟩ := h
  refine wpAny_While (codeAny_whileLoop (fun n s' => ∃ σ' H', Inv X pins σ' H' s' ∧ W n σ' H') ?_ m0 ⟨σ, H, I, w0⟩)
  rintro n s1 ⟨σ1, H1, I1, w1⟩
  refine wpAny_passesOwn hp (thn (hc pins s1 σ1 H1 _ I1 (turn n σ1 H1 w1)) fun b s2 ⟨H2, I2, q2⟩ => ?_)
  cases b with
  | true =>
    obtain ⟨N, hN, q2⟩ := q2
    rw [if_pos rfl]
    refine wpAny_passesOwn hp (thn (hb pins s2 σ1 H2 _ I2 q2) fun f s3 q3 => ?_)
    cases f with
    | next =>
      obtain ⟨σ3, H3, I3, n3⟩ := q3
      obtain ⟨m', hm, w3⟩ := hN σ3 H3 n3
      exact ⟨m', hm, σ3, H3, I3, w3⟩
    | cont =>
      obtain ⟨σ3, H3, I3, n3⟩ := q3
      obtain ⟨m', hm, w3⟩ := hN σ3 H3 n3
      exact ⟨m', hm, σ3, H3, I3, w3⟩
    | brk => exact q3
    | ret v => exact q3
  | false =>
    rw [if_neg Bool.false_ne_true]
    exact wpAny_execs_nil ⟨σ1, H2, I2, q2⟩
end

/-! ### what a loop or a comprehension walks -/
/-- at turn i: it yields x (the heap may grow), or it stops -/
structure It where
  go : Nat → Hp → Prop
  yld : Nat → Hp → V → Hp → Prop
  stop : Nat → Hp → Prop
/-- the iterator's own objects may turn: they are not the frame's, not pinned, younger than the entry (or a comprehension's own) -/
def FpOk (X : Cx) (pins : List (Addr × Obj)) (H : Hp) (b : Addr) : Prop :=
  H b = none ∧ b ≠ X.env.locals ∧ b ∉ X.fs ∧ (b ∈ X.ex ∨ X.s₀.heap.objs.size ≤ b) ∧ (∀ x c, X.env.cells.lookup x = some c → c ≠ b) ∧ ∀ p ∈ X.pn ++ pins, p.1 ≠ b
theorem Inv.fpOk {X : Cx} {pins : List (Addr × Obj)} {σ : St} {H H' : Hp} {s : Shared} {b : Addr} (I : Inv X pins σ H s) (hb : s.heap.objs.size ≤ b) (hn : H' b = none) : FpOk X pins H' b := by
  refine ⟨hn, Nat.ne_of_gt (Nat.lt_of_lt_of_le I.lt hb), I.nofs hb, .inr (Nat.le_trans I.sz hb), fun x c e z => ?_, fun p hp z => ?_⟩
  · obtain ⟨v, q⟩ := I.cell x c e
    exact absurd (Nat.lt_of_lt_of_le q.lt (by rw [z]; exact hb)) (Nat.lt_irrefl _)
  · exact absurd (Nat.lt_of_lt_of_le (Heap.lt_size (I.pin p hp).1) (by rw [z]; exact hb)) (Nat.lt_irrefl _)
structure Turn (P : Program) (w : World) (K : PySem.W.Frag) (tg : Expr) (J : It) (fp : List Addr) (it : Addr) (tn : Nat → Heap → Prop) : Prop where
  mem : it ∈ fp
  obj : ∀ i h, tn i h → ∀ b ∈ fp, ∃ o, h.get? b = some o ∧ ∀ v, o.data ≠ .cell v
  keep : ∀ i h h', tn i h → (∀ b ∈ fp, ∀ o, h.get? b = some o → h'.get? b = some o) → tn i h'
  item : ∀ (X : Cx), X.prog = P → X.w = w → X.K = K → X.calm = true → ∀ (i : Nat) (pins : List (Addr × Obj)) (s : Shared) (σ : St) (H : Hp) (E : Value → Shared → Prop), Inv X pins σ H s → (∀ b ∈ fp, FpOk X pins H b) → tn i s.heap → J.go i H →
    wpAny (model P w) X.A (pyNext (.ref it)) (fun r s1 => ∃ u, r = some u ∧
      wpAny (model P w) X.A (letOwnedTupleGo tg (.ref it) u) (fun _ s2 => ∃ x H', Inv X pins σ H' s2 ∧ RelV x u ∧ J.yld i H x H' ∧ tn (i + 1) s2.heap ∧ ∀ b ∈ fp, H' b = none) E s1) E s
  done : ∀ (X : Cx), X.prog = P → X.w = w → X.K = K → X.calm = true → ∀ (i : Nat) (pins : List (Addr × Obj)) (s : Shared) (σ : St) (H : Hp) (E : Value → Shared → Prop), Inv X pins σ H s → (∀ b ∈ fp, FpOk X pins H b) → tn i s.heap → J.stop i H →
    wpAny (model P w) X.A (pyNext (.ref it)) (fun r s1 => r = none ∧ Inv X pins σ H s1) E s
  self : ∀ (A : Around) (i : Nat) (s : Shared) (Q : Value → Shared → Prop) (E : Value → Shared → Prop), tn i s.heap → Q (.ref it) s → wpAny (model P w) A (pyIter (.ref it)) Q E s
abbrev TI := St → Hp → (It → Hp → Prop) → Prop
/-- an iterator has come -/
def PIE (X : Cx) (pins : List (Addr × Obj)) (σ : St) (tg : Expr) (R : It → Hp → Prop) (itv : Value) (s2 : Shared) : Prop :=
  ∃ (it : Addr) (fp : List Addr) (tn : Nat → Heap → Prop) (J : It) (H' : Hp), itv = .ref it ∧ Inv X pins σ H' s2 ∧ Turn X.prog X.w X.K tg J fp it tn ∧ tn 0 s2.heap ∧ (∀ b ∈ fp, FpOk X pins H' b) ∧ R J H'
def PI (X : Cx) (tg iter : Expr) (wi : TI) : Prop :=
  ∀ (pins : List (Addr × Obj)) (s : Shared) (σ : St) (H : Hp) (R : It → Hp → Prop), Inv X pins σ H s → wi σ H R →
    wpAny (model X.prog X.w) X.A (eval iter X.env) (fun v s1 => wpAny (model X.prog X.w) X.A (pyIter v) (PIE X pins σ tg R) X.xe s1) X.xe s

/-- the step ahead of the store is nothing for an iterator that keeps no tuple -/
theorem go_of {M : Model} {A : Around} {E : Value → Shared → Prop} {s : Shared} {tg : Expr} {it : Addr} {u : Value} {o : Obj} {n : String} {vs : Array Value} {Q : Unit → Shared → Prop} (ho : s.heap.get? it = some o) (hc : o.cls = .type n) (hd : o.data = .fields vs)
    (hn : ["enumerate", "zip", "dict_itemiterator", "dict_reverseitemiterator", "odict_iterator", "itertools.zip_longest", "itertools.pairwise"].contains n = false) (hQ : Q () s) : wpAny M A (letOwnedTupleGo tg (.ref it) u) Q E s := by
  unfold letOwnedTupleGo
  cases tg <;> first
    | exact wpAny_pure hQ
    | (cases u <;> first
        | exact wpAny_pure hQ
        | (refine wpAny_bind (wpAny_load ho ?_)
           rw [hc, hd]
           show wpAny M A (if (["enumerate", "zip", "dict_itemiterator", "dict_reverseitemiterator", "odict_iterator", "itertools.zip_longest", "itertools.pairwise"].contains n && vs[0]? == some (rawInt _)) = true then _ else _) Q E s
           rw [if_neg (by intro h; rw [hn, Bool.false_and] at h; cases h)]
           exact wpAny_pure hQ))

/-- the list at a, as it stands at each turn (a loop may append to it) -/
def Itl (K : PySem.W.Frag) (a : Addr) : It :=
  ⟨fun i H => ∃ xs x, SqL K H a xs ∧ xs[i]? = some x, fun i H x H' => H' = H ∧ ∀ xs, SqL K H a xs → xs[i]? = some x, fun i H => ∃ xs, SqL K H a xs ∧ xs.length ≤ i⟩
/-- lo, lo + 1, .. (n of them) -/
def Itr (lo : Int) (n : Nat) : It := ⟨fun i _ => i < n, fun i H x H' => H' = H ∧ x = .int (lo + i), fun i _ => n ≤ i⟩
theorem turn_list {P : Program} {w : World} {K : PySem.W.Frag} {tg : Expr} (a it : Addr) : Turn P w K tg (Itl K a) [it] it (fun i h => h.IsListIter it a i) where
  mem := by simp
  obj := fun i h st b hb => by
    have e : b = it := by simpa using hb
    subst e
    obtain ⟨o, e, c, d⟩ := st
    exact ⟨o, e, fun v z => by rw [d] at z; cases z⟩
  keep := fun i h h' st k => st.at fun o e => k it (by simp) o e
  item := by
    intro X hP hw hK hc i pins s σ H E I hf st hg
    subst hP hw hK
    obtain ⟨xs, x, hq, hx⟩ := hg
    obtain ⟨its, rv, p, hz⟩ := I.list hq
    obtain ⟨u, hu, ru⟩ := rv.get hx
    obtain ⟨f0, f1, f2, f3, f4, f5⟩ := hf it (by simp)
    refine wpAny_pyNext_list_item st p.isList (x := u) (by simpa using hu) fun h' st' sb => ?_
    have I1 : Inv X pins σ H { s with heap := h' } := I.turned (t' := s.toks) (fun b o hb e => (sb.2 b hb).trans e) f0 f1 f3 f4 f5
    obtain ⟨o, e, c, d⟩ := id st'
    exact ⟨u, rfl, go_of (s := { s with heap := h' }) e c d (by decide) ⟨x, H, I1, ru, ⟨rfl, fun ys hy => by rw [I.list_inj hy hq]; exact hx⟩, st', fun b hb => (hf b hb).1⟩⟩
  done := by
    intro X hP hw hK hc i pins s σ H E I hf st hg
    subst hP hw hK
    obtain ⟨xs, hq, hx⟩ := hg
    obtain ⟨its, rv, p, hz⟩ := I.list hq
    obtain ⟨f0, f1, f2, f3, f4, f5⟩ := hf it (by simp)
    have hl := rv.length
    exact wpAny_pyNext_list_end (I.ok.hd hc) st p.isList (by simp; omega) fun h' eb => ⟨rfl, I.turned (t' := s.toks) (fun b o hb e => eb b o hb e) f0 f1 f3 f4 f5⟩
  self := fun _ _ _ _ _ st h => wpAny_pyIter_listiter st h
theorem turn_range {P : Program} {w : World} {K : PySem.W.Frag} {tg : Expr} (it : Addr) (lo : Int) (n : Nat) : Turn P w K tg (Itr lo n) [it] it (fun i h => IsRangeIter h it (lo + (i : Nat) * 1) ((n : Int) - (i : Nat)) 1) where
  mem := by simp
  obj := fun i h st b hb => by
    have e : b = it := by simpa using hb
    subst e
    exact ⟨_, st, fun v z => by
      have z' : Data.fields _ = Data.cell v := z
      cases z'⟩
  keep := fun i h h' st k => k it (by simp) _ st
  item := by
    intro X hP hw hK hc i pins s σ H E I hf st hg
    subst hP hw hK
    obtain ⟨f0, f1, f2, f3, f4, f5⟩ := hf it (by simp)
    have W := Walks.range (prog := X.prog) (w := X.w) (I.ok.hd hc) it lo 1 n
    refine W.item i s _ _ hg st fun v h' tk hv st' kk => ?_
    obtain ⟨t, rfl⟩ := hv
    have I1 : Inv X pins σ H { s with heap := h', toks := tk } := I.turned (fun b o hb e => kk b o (by simpa using hb) e) f0 f1 f3 f4 f5
    refine ⟨_, rfl, go_of (s := { s with heap := h', toks := tk }) (n := "range_iterator") st' rfl rfl (by decide) ⟨.int (lo + i), H, I1, ⟨t, ?_⟩, ⟨rfl, rfl⟩, st', fun b hb => (hf b hb).1⟩⟩
    rw [Int.mul_one]
  done := by
    intro X hP hw hK hc i pins s σ H E I hf st hg
    subst hP hw hK
    obtain ⟨f0, f1, f2, f3, f4, f5⟩ := hf it (by simp)
    exact wpAny_pyNext_range_end (I.ok.hd hc) st (by have : n ≤ i := hg; omega) fun h' eb => ⟨rfl, I.turned (t' := s.toks) (fun b o hb e => eb b o hb e) f0 f1 f3 f4 f5⟩
  self := fun _ _ _ _ _ st h => wpAny_pyIter_rangeiter st h
end L2

namespace L2
open PySem PySem.Spec PyProof.Rows
section
variable {X : Cx} {tg : Expr}
def iList (K : PySem.W.Frag) (tl : TE) : TI := fun σ H R => tl σ H fun x H1 => ∃ a, x = .ref a ∧ (∃ xs, SqL K H1 a xs) ∧ R (Itl K a) H1
theorem pi_list {l : Expr} {tl : TE} (hl : PE X l tl) : PI X tg l (iList X.K tl) := by
  intro pins s σ H R I h
  refine thn (hl pins s σ H _ I h) fun v s1 ⟨x, H1, I1, r1, q1⟩ => ?_
  obtain ⟨a, e, ⟨xs, hq⟩, q⟩ := q1
  subst e
  cases r1
  obtain ⟨its, rv, p, hz⟩ := I1.list hq
  refine wpAny_pyIter_list p.isList ?_
  refine ⟨s1.heap.objs.size, [s1.heap.objs.size], _, _, H1, rfl, I1.kept (t' := s1.toks) fun b o e => Heap.get?_push_of_some _ e, turn_list a _, ⟨_, Heap.get?_push_size _ rfl, rfl, rfl⟩, fun b hb => ?_, q⟩
  have e : b = s1.heap.objs.size := by simpa using hb
  subst e
  exact I1.fpOk (Nat.le_refl _) (I1.hok.fresh (Nat.le_refl _))
/-- a range object just made, walked -/
theorem range_it {pins : List (Addr × Obj)} {σ : St} {H : Hp} {s : Shared} {R : It → Hp → Prop} {E : Value → Shared → Prop} {lo hi : Int} {t u v : Tok} {tk : Nat} (I : Inv X pins σ H s) (h1 : -(2 ^ 62) ≤ lo) (h2 : lo < 2 ^ 62) (h3 : -(2 ^ 62) ≤ hi) (h4 : hi < 2 ^ 62)
    (q : R (Itr lo (hi - lo).toNat) H) : wpAny (model X.prog X.w) X.A (pyIter (.ref s.heap.objs.size)) (PIE X pins σ tg R) E { s with heap := s.heap.push { cls := .type "range", data := .fields #[.int lo t, .int hi u, .int 1 v] }, toks := tk } := by
  refine wpAny_pyIter_range (IsRange.new ..) (small_one h1 h2 h3 h4) ?_
  have I1 : Inv X pins σ H { s with heap := s.heap.push { cls := .type "range", data := .fields #[.int lo t, .int hi u, .int 1 v] }, toks := tk } := I.kept fun b o e => Heap.get?_push_of_some _ e
  refine ⟨(s.heap.push { cls := .type "range", data := .fields #[.int lo t, .int hi u, .int 1 v] }).objs.size, [(s.heap.push { cls := .type "range", data := .fields #[.int lo t, .int hi u, .int 1 v] }).objs.size], _, _, H, rfl,
    I1.kept (t' := tk) fun b o e => Heap.get?_push_of_some _ e, turn_range _ lo (hi - lo).toNat, ?_, fun b hb => ?_, q⟩
  · have e1 : lo + ((0 : Nat) : Int) * 1 = lo := by simp
    have e2 : (((hi - lo).toNat : Nat) : Int) - ((0 : Nat) : Int) = Builtin.Range.rangeSize lo hi 1 := by rw [rangeSize_one]; split <;> omega
    show IsRangeIter _ _ (lo + ((0 : Nat) : Int) * 1) ((((hi - lo).toNat : Nat) : Int) - ((0 : Nat) : Int)) 1
    rw [e1, e2]
    exact Heap.get?_push_size _ rfl
  · have e : b = (s.heap.push { cls := .type "range", data := .fields #[.int lo t, .int hi u, .int 1 v] }).objs.size := by simpa using hb
    subst e
    exact I1.fpOk (Nat.le_refl _) (I1.hok.fresh (Nat.le_refl _))
def iRng1 (ta : TA) : TI := fun σ H R => ta σ H fun vs H1 => ∃ j : Int, vs = [.int j] ∧ -(2 ^ 62) ≤ j ∧ j < 2 ^ 62 ∧ R (Itr 0 j.toNat) H1
def iRng2 (ta : TA) : TI := fun σ H R => ta σ H fun vs H1 => ∃ i j : Int, vs = [.int i, .int j] ∧ (-(2 ^ 62) ≤ i ∧ i < 2 ^ 62 ∧ -(2 ^ 62) ≤ j ∧ j < 2 ^ 62) ∧ R (Itr i (j - i).toNat) H1
theorem pi_range1 {a : Expr} {ta : TA} {p pos : Pos} (hg : Gl X "range") (hm : X.mg "range" = none) (ha : PA X [a] ta) (hs : starEach [a] X.env = [(false, eval a X.env)] := by rfl) : PI X tg (.Call (.Name "range" p) [a] [] pos) (iRng1 ta) := by
  intro pins s σ H R I h
  refine Call_ (ld_blt I hg hm boot_range (PyProof.Rows.callWith_type1 (thn (ha pos pins s σ H _ I h) fun us s1 ⟨vs, H1, I1, r1, q1⟩ => ?_) hs rfl))
  obtain ⟨j, e, q1, q2, q⟩ := q1
  subst e
  cases r1 with
  | cons r rr =>
    cases rr
    obtain ⟨t, rfl⟩ := r
    exact call_range_1 (range_it I1 (by omega) (by omega) q1 q2 (by simpa using q))
theorem pi_range2 {a b : Expr} {ta : TA} {p pos : Pos} (hg : Gl X "range") (hm : X.mg "range" = none) (ha : PA X [a, b] ta) (hs : starEach [a, b] X.env = [(false, eval a X.env), (false, eval b X.env)] := by rfl) (hs2 : starEach [b] X.env = [(false, eval b X.env)] := by rfl) :
    PI X tg (.Call (.Name "range" p) [a, b] [] pos) (iRng2 ta) := by
  intro pins s σ H R I h
  refine Call_ (ld_blt I hg hm boot_range (PyProof.Rows.callWith_type1 (thn (ha pos pins s σ H _ I h) fun us s1 ⟨vs, H1, I1, r1, q1⟩ => ?_) (by rw [hs, hs2]) (by rw [hs2]; rfl)))
  obtain ⟨i, j, e, ⟨q1, q2, q3, q4⟩, q⟩ := q1
  subst e
  cases r1 with
  | cons r rr =>
    cases rr with
    | cons r' rr =>
      cases rr
      obtain ⟨t, rfl⟩ := r
      obtain ⟨t', rfl⟩ := r'
      exact call_range_2 (range_it I1 q1 q2 q3 q4 q)

/-! ### for -/
/-- W: the invariant by the turn and a measure; N: what the body is to reach -/
def tFor (wi : TI) (g : TG) (tb : TS) : TS := fun D σ H => wi σ H fun J H1 => ∃ W : Nat → Nat → St → Hp → Prop, (∃ m, W 0 m σ H1) ∧ ∀ i m σ H, W i m σ H →
  (J.stop i H ∧ D.nx σ H) ∨ (J.go i H ∧ ∃ N : St → Hp → Prop, (∀ σ' H', N σ' H' → ∃ m', m' < m ∧ W (i + 1) m' σ' H') ∧ ∀ x H', J.yld i H x H' → g x σ H' fun σ2 H2 => tb { D with nx := N, ct := N, bk := D.nx } σ2 H2)
/-- the records at fp as they stand -/
def pinsAt (fp : List Addr) (h : Heap) : List (Addr × Obj) := fp.filterMap fun b => (h.get? b).map fun o => (b, o)
theorem mem_pinsAt {fp : List Addr} {h : Heap} {b : Addr} {o : Obj} (hb : b ∈ fp) (e : h.get? b = some o) : (b, o) ∈ pinsAt fp h := List.mem_filterMap.mpr ⟨b, hb, by rw [e]; rfl⟩
theorem of_pinsAt {fp : List Addr} {h : Heap} {p : Addr × Obj} (hp : p ∈ pinsAt fp h) : p.1 ∈ fp ∧ h.get? p.1 = some p.2 := by
  obtain ⟨b, hb, e⟩ := List.mem_filterMap.mp hp
  cases q : h.get? b with
  | none => rw [q] at e; cases e
  | some o =>
    rw [q] at e
    have e' : (b, o) = p := Option.some.inj e
    subst e'
    exact ⟨hb, q⟩
theorem Inv.pinned {pins : List (Addr × Obj)} {σ : St} {H : Hp} {s : Shared} {fp : List Addr} (I : Inv X pins σ H s) (hf : ∀ b ∈ fp, FpOk X pins H b) (ho : ∀ b ∈ fp, ∃ o, s.heap.get? b = some o ∧ ∀ v, o.data ≠ .cell v) : Inv X (pins ++ pinsAt fp s.heap) σ H s :=
  I.pins_of fun p hp => (List.mem_append.mp hp).elim (fun z => I.pin p (List.mem_append_right _ z)) fun z => by
    obtain ⟨hb, e⟩ := of_pinsAt z
    obtain ⟨f0, f1, f2, _⟩ := hf p.1 hb
    obtain ⟨o, e', d⟩ := ho p.1 hb
    rw [e] at e'; cases e'
    exact ⟨e, f0, f1, f2, d⟩
theorem Inv.unpinned {pins pl : List (Addr × Obj)} {σ : St} {H : Hp} {s : Shared} (I : Inv X (pins ++ pl) σ H s) : Inv X pins σ H s := I.pins_of fun p hp => I.pin p (List.mem_append_right _ (List.mem_append_left _ hp))
theorem ps_for {iter : Expr} {body : List Stmt} {wi : TI} {g : TG} {tb : TS} {pos : Pos} (hp : PassesOwn (model X.prog X.w) X.A X.env X.xe) (hc : X.calm = true) (hi : PI X tg iter wi) (hg : PG X tg g) (hb : PSs X body tb)
    (hs : ∀ x, foldedSetIterable iter X.env x = pure x := by intro _; rfl) : PS X (.For tg iter body [] pos) (tFor wi g tb) := by
  intro pins s σ H D I h
  refine wpAny_For (thn (hi pins s σ H _ I h) fun v s1 h1 => thn h1 fun itv s2 h2 => ?_) hs
  obtain ⟨it, fp, tn, J, H2, e, I2, T, st2, f2, W, ⟨m0, w0⟩, turn⟩ := h2
  subst e
  have stat : ∀ {H' : Hp}, (∀ b ∈ fp, H' b = none) → ∀ b ∈ fp, FpOk X pins H' b := fun hn b hb => ⟨hn b hb, (f2 b hb).2⟩
  refine codeAny_forLoop_any (fun n s' => ∃ i σ' H', Inv X pins σ' H' s' ∧ tn i s'.heap ∧ (∀ b ∈ fp, H' b = none) ∧ W i n σ' H') ?_ m0 ⟨0, σ, H2, I2, st2, fun b hb => (f2 b hb).1, w0⟩
  rintro n s3 ⟨i, σ3, H3, I3, st3, fr3, w3⟩
  rcases turn i n σ3 H3 w3 with ⟨stop, qn⟩ | ⟨go, N, hN, step⟩
  · refine wpAny_passesOwn hp (thn (T.done X rfl rfl rfl hc i pins s3 σ3 H3 X.xe I3 (stat fr3) st3 stop) fun r s4 ⟨hr, I4⟩ => ?_)
    subst hr
    exact wpAny_execs_nil ⟨σ3, H3, I4, qn⟩
  · refine wpAny_passesOwn hp (thn (T.item X rfl rfl rfl hc i pins s3 σ3 H3 X.xe I3 (stat fr3) st3 go) fun r s4 ⟨u, hr, h4⟩ => ?_)
    subst hr
    refine wpAny_passesOwn hp (thn h4 fun _ s5 ⟨x, H5, I5, r5, y5, st5, fr5⟩ => ?_)
    have I5' := I5.pinned (stat fr5) (T.obj _ _ st5)
    refine wpAny_passesOwn hp (thn (hg _ s5 σ3 H5 x u _ I5' r5 (step x H5 y5)) fun _ s6 ⟨σ6, H6, I6, q6⟩ => ?_)
    refine wpAny_passesOwn hp (thn (hb _ s6 σ6 H6 _ I6 q6) fun f s7 q7 => ?_)
    have again : ∀ {σ7 : St} {H7 : Hp}, Inv X (pins ++ pinsAt fp s5.heap) σ7 H7 s7 → N σ7 H7 → ∃ m, m < n ∧ ∃ i σ' H', Inv X pins σ' H' s7 ∧ tn i s7.heap ∧ (∀ b ∈ fp, H' b = none) ∧ W i m σ' H' := fun {σ7 H7} I7 n7 => by
      obtain ⟨m', hm, w7⟩ := hN σ7 H7 n7
      refine ⟨m', hm, i + 1, σ7, H7, I7.unpinned, T.keep _ _ _ st5 fun b hb o e => (I7.pin (b, o) (List.mem_append_right _ (List.mem_append_right _ (mem_pinsAt hb e)))).1, fun b hb => ?_, w7⟩
      obtain ⟨o, e, d⟩ := T.obj _ _ st5 b hb
      exact (I7.pin (b, o) (List.mem_append_right _ (List.mem_append_right _ (mem_pinsAt hb e)))).2.1
    cases f with
    | next => obtain ⟨σ7, H7, I7, n7⟩ := q7; exact again I7 n7
    | cont => obtain ⟨σ7, H7, I7, n7⟩ := q7; exact again I7 n7
    | brk => obtain ⟨σ7, H7, I7, q7⟩ := q7; exact ⟨σ7, H7, I7.unpinned, q7⟩
    | ret v => obtain ⟨x7, σ7, H7, I7, r7, q7⟩ := q7; exact ⟨x7, σ7, H7, I7.unpinned, r7, q7⟩
end

/-! ### the forms one uses -/
/-- over a list that the body leaves as it is -/
theorem for_list {K : PySem.W.Frag} {a : Addr} {xs : List V} {g : TG} {tb : TS} {D : Ends} {σ : St} {H : Hp} (Pv : Nat → St → Hp → Prop) (h0 : Pv 0 σ H) (hl : ∀ i σ H, i ≤ xs.length → Pv i σ H → SqL K H a xs)
    (hs : ∀ i x σ H, xs[i]? = some x → Pv i σ H → g x σ H fun σ2 H2 => tb { D with nx := Pv (i + 1), ct := Pv (i + 1), bk := D.nx } σ2 H2) (hd : ∀ σ H, Pv xs.length σ H → D.nx σ H) :
    ∃ W : Nat → Nat → St → Hp → Prop, (∃ m, W 0 m σ H) ∧ ∀ i m σ H, W i m σ H →
      ((Itl K a).stop i H ∧ D.nx σ H) ∨ ((Itl K a).go i H ∧ ∃ N : St → Hp → Prop, (∀ σ' H', N σ' H' → ∃ m', m' < m ∧ W (i + 1) m' σ' H') ∧ ∀ x H', (Itl K a).yld i H x H' → g x σ H' fun σ2 H2 => tb { D with nx := N, ct := N, bk := D.nx } σ2 H2) := by
  refine ⟨fun i m σ H => m = xs.length - i ∧ i ≤ xs.length ∧ Pv i σ H, ⟨xs.length, by simp, Nat.zero_le _, h0⟩, ?_⟩
  rintro i m σ H ⟨rfl, hi, p⟩
  have q := hl i σ H hi p
  by_cases hlt : i < xs.length
  · refine .inr ⟨⟨xs, xs[i], q, by simp [hlt]⟩, Pv (i + 1), fun σ' H' p' => ⟨xs.length - (i + 1), by omega, rfl, hlt, p'⟩, fun x H' y => ?_⟩
    obtain ⟨e, y⟩ := y
    subst e
    exact hs i x σ _ (y xs q) p
  · have e : i = xs.length := by omega
    subst e
    exact .inl ⟨⟨xs, q, Nat.le_refl _⟩, hd σ H p⟩
theorem for_range {lo : Int} {n : Nat} {g : TG} {tb : TS} {D : Ends} {σ : St} {H : Hp} (Pv : Nat → St → Hp → Prop) (h0 : Pv 0 σ H)
    (hs : ∀ i σ H, i < n → Pv i σ H → g (.int (lo + i)) σ H fun σ2 H2 => tb { D with nx := Pv (i + 1), ct := Pv (i + 1), bk := D.nx } σ2 H2) (hd : ∀ σ H, Pv n σ H → D.nx σ H) :
    ∃ W : Nat → Nat → St → Hp → Prop, (∃ m, W 0 m σ H) ∧ ∀ i m σ H, W i m σ H →
      ((Itr lo n).stop i H ∧ D.nx σ H) ∨ ((Itr lo n).go i H ∧ ∃ N : St → Hp → Prop, (∀ σ' H', N σ' H' → ∃ m', m' < m ∧ W (i + 1) m' σ' H') ∧ ∀ x H', (Itr lo n).yld i H x H' → g x σ H' fun σ2 H2 => tb { D with nx := N, ct := N, bk := D.nx } σ2 H2) := by
  refine ⟨fun i m σ H => m = n - i ∧ i ≤ n ∧ Pv i σ H, ⟨n, by simp, Nat.zero_le _, h0⟩, ?_⟩
  rintro i m σ H ⟨rfl, hi, p⟩
  by_cases hlt : i < n
  · refine .inr ⟨hlt, Pv (i + 1), fun σ' H' p' => ⟨n - (i + 1), by omega, rfl, hlt, p'⟩, fun x H' y => ?_⟩
    obtain ⟨e, y⟩ := y
    subst e y
    exact hs i σ _ hlt p
  · have e : i = n := by omega
    subst e
    exact .inl ⟨Nat.le_refl _, hd σ H p⟩
end L2

namespace L2
open PySem PySem.Spec PyProof.Rows

abbrev R2 := V → V → Hp → VK → Prop
/-- a two-place operation on values: f is binaryOp op, inplaceOp op or compareOp op -/
def OpR (X : Cx) (f : Value → Value → Sem Value) (r : R2) : Prop :=
  ∀ (pins : List (Addr × Obj)) (s : Shared) (σ : St) (H : Hp) (x y : V) (v u : Value) (Q : VK), Inv X pins σ H s → RelV x v → RelV y u → r x y H Q →
    wpAny (model X.prog X.w) X.A (f v u) (EP X pins σ Q) X.xe s
/-- a one-place operation -/
def UnR (X : Cx) (f : Value → Sem Value) (r : V → Hp → VK → Prop) : Prop :=
  ∀ (pins : List (Addr × Obj)) (s : Shared) (σ : St) (H : Hp) (x : V) (v : Value) (Q : VK), Inv X pins σ H s → RelV x v → r x H Q →
    wpAny (model X.prog X.w) X.A (f v) (EP X pins σ Q) X.xe s
/-- a call of a value that is known (a builtin, a type) with values -/
def CallR (X : Cx) (f : Value) (r : List V → Hp → VK → Prop) : Prop :=
  ∀ (pins : List (Addr × Obj)) (s : Shared) (σ : St) (H : Hp) (xs : List V) (us : List Value) (Q : VK), Inv X pins σ H s → Vals xs us → r xs H Q →
    wpAny (model X.prog X.w) X.A (call f us) (EP X pins σ Q) X.xe s
/-- a value's truth -/
def TruR (X : Cx) (r : V → Hp → (Bool → Hp → Prop) → Prop) : Prop :=
  ∀ (pins : List (Addr × Obj)) (s : Shared) (σ : St) (H : Hp) (x : V) (v : Value) (Q : Bool → Hp → Prop), Inv X pins σ H s → RelV x v → r x H Q →
    wpAny (model X.prog X.w) X.A (truthy v) (TP X pins σ Q) X.xe s

def tOp (r : R2) (ta tb : TE) : TE := fun σ H Q => ta σ H fun x H1 => tb σ H1 fun y H2 => r x y H2 Q
def tUn (r : V → Hp → VK → Prop) (ta : TE) : TE := fun σ H Q => ta σ H fun x H1 => r x H1 Q
/-- ints in, under C, and a value out -/
def rI (C : Int → Int → Prop) (g : Int → Int → V) : R2 := fun x y H Q => ∃ i j, x = .int i ∧ y = .int j ∧ C i j ∧ Q (g i j) H
def rI0 (g : Int → Int → V) : R2 := fun x y H Q => ∃ i j, x = .int i ∧ y = .int j ∧ Q (g i j) H
def rU (g : Int → V) : V → Hp → VK → Prop := fun x H Q => ∃ i, x = .int i ∧ Q (g i) H

section
variable {X : Cx} {a b c : Expr} {ta tb tc : TE} {pos : Pos}

theorem binT (ha : PE X a ta) (hb : PE X b tb) {pins : List (Addr × Obj)} {s : Shared} {σ : St} {H : Hp} {R : V → V → Hp → Prop} (I : Inv X pins σ H s)
    (h : ta σ H fun x H1 => tb σ H1 fun y H2 => R x y H2) {Q : Value → Shared → Prop} {f : Value → Value → Sem Value}
    (hf : ∀ v u s2 x y H2, Inv X pins σ H2 s2 → RelV x v → RelV y u → R x y H2 → wpAny (model X.prog X.w) X.A (f v u) Q X.xe s2) :
    wpAny (model X.prog X.w) X.A (eval a X.env) (fun v s₁ => wpAny (model X.prog X.w) X.A (eval b X.env) (fun u s₂ => wpAny (model X.prog X.w) X.A (f v u) Q X.xe s₂) X.xe s₁) X.xe s := by
  refine thn (ha pins s σ H _ I h) fun v s1 ⟨x, H1, I1, r1, q1⟩ => ?_
  refine thn (hb pins s1 σ H1 _ I1 q1) fun u s2 ⟨y, H2, I2, r2, q2⟩ => ?_
  exact hf v u s2 x y H2 I2 r1 r2 q2

theorem pe_op {op : Operator} {r : R2} (ho : OpR X (binaryOp op) r) (ha : PE X a ta) (hb : PE X b tb) : PE X (.BinOp a op b pos) (tOp r ta tb) := by
  intro pins s σ H Q I h
  exact wpAny_BinOp (binT ha hb I h fun v u s2 x y H2 I2 rx ry q => ho pins s2 σ H2 x y v u Q I2 rx ry q)
theorem pe_un {op : UnaryOp} {r : V → Hp → VK → Prop} (ho : UnR X (unaryOp op) r) (ha : PE X a ta) : PE X (.UnaryOp op a pos) (tUn r ta) := by
  intro pins s σ H Q I h
  exact UnaryOp_ (thn (ha pins s σ H _ I h) fun v s1 ⟨x, H1, I1, r1, q1⟩ => ho pins s1 σ H1 x v Q I1 r1 q1)
/-! ### ints -/
theorem opI {f : Value → Value → Sem Value} {C : Int → Int → Prop} {g : Int → Int → Int}
    (rule : ∀ (i j : Int) (t u : Tok) (s : Shared) (Q : Value → Shared → Prop) (E : Value → Shared → Prop), C i j → Q (.int (g i j) s.toks) { s with toks := s.toks + 1 } → wpAny (model X.prog X.w) X.A (f (.int i t) (.int j u)) Q E s) :
    OpR X f (rI C fun i j => .int (g i j)) := by
  intro pins s σ H x y v u Q I rx ry h
  obtain ⟨i, j, rfl, rfl, hc, q⟩ := h
  obtain ⟨t, rfl⟩ := rx
  obtain ⟨t', rfl⟩ := ry
  exact rule i j t t' s _ _ hc ⟨.int (g i j), H, I.tok _, ⟨_, rfl⟩, q⟩
theorem opI0 {f : Value → Value → Sem Value} {g : Int → Int → Int}
    (rule : ∀ (i j : Int) (t u : Tok) (s : Shared) (Q : Value → Shared → Prop) (E : Value → Shared → Prop), Q (.int (g i j) s.toks) { s with toks := s.toks + 1 } → wpAny (model X.prog X.w) X.A (f (.int i t) (.int j u)) Q E s) :
    OpR X f (rI0 fun i j => .int (g i j)) := by
  intro pins s σ H x y v u Q I rx ry h
  obtain ⟨i, j, rfl, rfl, q⟩ := h
  obtain ⟨t, rfl⟩ := rx
  obtain ⟨t', rfl⟩ := ry
  exact rule i j t t' s _ _ ⟨.int (g i j), H, I.tok _, ⟨_, rfl⟩, q⟩
theorem opB0 {f : Value → Value → Sem Value} {g : Int → Int → Bool}
    (rule : ∀ (i j : Int) (t u : Tok) (s : Shared) (Q : Value → Shared → Prop) (E : Value → Shared → Prop), Q (.bool (g i j)) s → wpAny (model X.prog X.w) X.A (f (.int i t) (.int j u)) Q E s) :
    OpR X f (rI0 fun i j => .bl (g i j)) := by
  intro pins s σ H x y v u Q I rx ry h
  obtain ⟨i, j, rfl, rfl, q⟩ := h
  obtain ⟨t, rfl⟩ := rx
  obtain ⟨t', rfl⟩ := ry
  exact rule i j t t' s _ _ ⟨.bl (g i j), H, I, rfl, q⟩

def CPow (i j : Int) : Prop := 0 ≤ j ∧ j ≤ 1000000 ∧ i.natAbs < 2 ^ 64
def CMul (i j : Int) : Prop := (-(2 ^ 64) < i ∧ i < 2 ^ 64) ∨ (-(2 ^ 64) < j ∧ j < 2 ^ 64)
theorem CMul.ok {i j : Int} (h : CMul i j) : IntMulOk i j := by
  rcases h with ⟨h1, h2⟩ | ⟨h1, h2⟩
  · exact .of_left (intBits_le_64 h1 h2)
  · exact .of_right (intBits_le_64 h1 h2)
theorem op_add : OpR X (binaryOp .Add) (rI0 fun i j => .int (i + j)) := opI0 fun _ _ _ _ _ _ _ q => add_int q
theorem op_sub : OpR X (binaryOp .Sub) (rI0 fun i j => .int (i - j)) := opI0 fun _ _ _ _ _ _ _ q => sub_int q
theorem op_mul : OpR X (binaryOp .Mult) (rI CMul fun i j => .int (i * j)) := opI fun _ _ _ _ _ _ _ hc q => mul_int q hc.ok
/-- % by a positive divisor of any size -/
theorem op_mod : OpR X (binaryOp .Mod) (rI (fun _ j => 0 < j) fun i j => .int (i % j)) := opI fun i j _ _ _ _ _ hc q => by
  have h1 : (0 : Int) < j := hc
  exact mod_int' (by omega) (by rw [Int.fmod_eq_emod_of_nonneg i (by omega)]; exact q)
theorem op_pow : OpR X (binaryOp .Pow) (rI CPow fun i j => .int (i ^ j.toNat)) := opI fun _ _ _ _ _ _ _ hc q => pow_int_small hc.1 hc.2.1 hc.2.2 q
theorem unI {f : Value → Sem Value} {g : Int → Int}
    (rule : ∀ (i : Int) (t : Tok) (s : Shared) (Q : Value → Shared → Prop) (E : Value → Shared → Prop), Q (.int (g i) s.toks) { s with toks := s.toks + 1 } → wpAny (model X.prog X.w) X.A (f (.int i t)) Q E s) :
    UnR X f (rU fun i => .int (g i)) := by
  intro pins s σ H x v Q I rx h
  obtain ⟨i, rfl, q⟩ := h
  obtain ⟨t, rfl⟩ := rx
  exact rule i t s _ _ ⟨.int (g i), H, I.tok _, ⟨_, rfl⟩, q⟩
theorem un_neg : UnR X (unaryOp .USub) (rU fun i => .int (-i)) := unI fun _ _ _ _ _ q => neg_int q
/-! ### bools among ints: n += (a < b) -/
end

/-! ### comparisons -/
/-- the scalars that == tells apart as data does -/
def scal : V → V → Bool
  | .non, .non => true | .non, .int _ => true | .int _, .non => true | .non, .bl _ => true | .bl _, .non => true | .non, .str _ => true | .str _, .non => true
  | .int _, .int _ => true | .bl _, .bl _ => true | .str _, .str _ => true | .byt _, .byt _ => true
  | .int _, .str _ => true | .str _, .int _ => true | .bl _, .str _ => true | .str _, .bl _ => true
  | _, _ => false
def rEq : R2 := fun x y H Q => scal x y = true ∧ Q (.bl (decide (x = y))) H
def rNe : R2 := fun x y H Q => scal x y = true ∧ Q (.bl (!decide (x = y))) H

theorem dec_int {i j : Int} : decide (V.int i = V.int j) = (i == j) := by
  rw [Bool.eq_iff_iff]
  simp
theorem dec_bl {i j : Bool} : decide (V.bl i = V.bl j) = (i == j) := by
  rw [Bool.eq_iff_iff]
  simp
theorem dec_str {i j : Str} : decide (V.str i = V.str j) = (i == j) := by
  rw [Bool.eq_iff_iff]
  simp
theorem dec_byt {i j : Array UInt8} : decide (V.byt i = V.byt j) = (i.toList == j.toList) := by
  rw [Bool.eq_iff_iff]
  cases i
  cases j
  simp

section
variable {X : Cx} {a b c : Expr} {ta tb tc : TE} {pos : Pos}
theorem fin_bl {pins : List (Addr × Obj)} {σ : St} {H : Hp} {s : Shared} {Q : VK} {k k' : Bool} (I : Inv X pins σ H s) (q : Q (.bl k) H) (e : k = k') : EP X pins σ Q (.bool k') s := by
  subst e
  exact ⟨.bl k, H, I, rfl, q⟩
theorem op_eq : OpR X (compareOp .Eq) rEq := by
  intro pins s σ H x y v u Q I rx ry h
  obtain ⟨hs, q⟩ := h
  cases x with
  | non =>
    cases rx
    cases y with
    | non => cases ry; exact PySem.EqNone.eq_none_none (fin_bl I q (by simp))
    | bl j => cases ry; exact PySem.EqNone.eq_none_bool (fin_bl I q (by simp))
    | int j => obtain ⟨t', rfl⟩ := ry; exact PySem.EqNone.eq_none_int (fin_bl I q (by simp))
    | str j => obtain ⟨t', rfl⟩ := ry; exact PySem.EqNone.eq_none_str (fin_bl I q (by simp))
    | _ => exact absurd (show false = true from hs) Bool.false_ne_true
  | bl i =>
    cases rx
    cases y with
    | non => cases ry; exact PySem.EqNone.eq_bool_none (fin_bl I q (by simp))
    | bl j => cases ry; exact eq_bool (fin_bl I q dec_bl)
    | str j => obtain ⟨t', rfl⟩ := ry; exact PySem.EqMixed.eq_bool_str (fin_bl I q (by simp))
    | _ => exact absurd (show false = true from hs) Bool.false_ne_true
  | int i =>
    obtain ⟨t, rfl⟩ := rx
    cases y with
    | non => cases ry; exact PySem.EqNone.eq_int_none (fin_bl I q (by simp))
    | int j => obtain ⟨t', rfl⟩ := ry; exact eq_int (fin_bl I q dec_int)
    | str j => obtain ⟨t', rfl⟩ := ry; exact PySem.EqMixed.eq_int_str (fin_bl I q (by simp))
    | _ => exact absurd (show false = true from hs) Bool.false_ne_true
  | str i =>
    obtain ⟨t, rfl⟩ := rx
    cases y with
    | non => cases ry; exact PySem.EqNone.eq_str_none (fin_bl I q (by simp))
    | bl j => cases ry; exact PySem.EqMixed.eq_str_bool (fin_bl I q (by simp))
    | int j => obtain ⟨t', rfl⟩ := ry; exact PySem.EqMixed.eq_str_int (fin_bl I q (by simp))
    | str j => obtain ⟨t', rfl⟩ := ry; exact eq_str (fin_bl I q dec_str)
    | _ => exact absurd (show false = true from hs) Bool.false_ne_true
  | byt i =>
    obtain ⟨t, rfl⟩ := rx
    cases y with
    | byt j => obtain ⟨t', rfl⟩ := ry; exact PySem.W.eq_bytes (fin_bl I q dec_byt)
    | _ => exact absurd (show false = true from hs) Bool.false_ne_true
  | _ => cases y <;> exact absurd (show false = true from hs) Bool.false_ne_true
theorem op_ne : OpR X (compareOp .NotEq) rNe := by
  intro pins s σ H x y v u Q I rx ry h
  obtain ⟨hs, q⟩ := h
  cases x with
  | non =>
    cases rx
    cases y with
    | non => cases ry; exact PySem.EqNone.ne_none_none (fin_bl I q (by simp))
    | bl j => cases ry; exact PySem.EqNone.ne_none_bool (fin_bl I q (by simp))
    | int j => obtain ⟨t', rfl⟩ := ry; exact PySem.EqNone.ne_none_int (fin_bl I q (by simp))
    | str j => obtain ⟨t', rfl⟩ := ry; exact PySem.EqNone.ne_none_str (fin_bl I q (by simp))
    | _ => exact absurd (show false = true from hs) Bool.false_ne_true
  | bl i =>
    cases rx
    cases y with
    | non => cases ry; exact PySem.EqNone.ne_bool_none (fin_bl I q (by simp))
    | bl j => cases ry; exact ne_bool (fin_bl I q (congrArg not dec_bl))
    | str j => obtain ⟨t', rfl⟩ := ry; exact PySem.EqMixed.ne_bool_str (fin_bl I q (by simp))
    | _ => exact absurd (show false = true from hs) Bool.false_ne_true
  | int i =>
    obtain ⟨t, rfl⟩ := rx
    cases y with
    | non => cases ry; exact PySem.EqNone.ne_int_none (fin_bl I q (by simp))
    | int j => obtain ⟨t', rfl⟩ := ry; exact ne_int (fin_bl I q (congrArg not dec_int))
    | str j => obtain ⟨t', rfl⟩ := ry; exact PySem.EqMixed.ne_int_str (fin_bl I q (by simp))
    | _ => exact absurd (show false = true from hs) Bool.false_ne_true
  | str i =>
    obtain ⟨t, rfl⟩ := rx
    cases y with
    | non => cases ry; exact PySem.EqNone.ne_str_none (fin_bl I q (by simp))
    | bl j => cases ry; exact PySem.EqMixed.ne_str_bool (fin_bl I q (by simp))
    | int j => obtain ⟨t', rfl⟩ := ry; exact PySem.EqMixed.ne_str_int (fin_bl I q (by simp))
    | str j => obtain ⟨t', rfl⟩ := ry; exact ne_str (fin_bl I q (congrArg not dec_str))
    | _ => exact absurd (show false = true from hs) Bool.false_ne_true
  | byt i =>
    obtain ⟨t, rfl⟩ := rx
    cases y with
    | byt j => obtain ⟨t', rfl⟩ := ry; exact PySem.W.ne_bytes (fin_bl I q (congrArg not dec_byt))
    | _ => exact absurd (show false = true from hs) Bool.false_ne_true
  | _ => cases y <;> exact absurd (show false = true from hs) Bool.false_ne_true

theorem op_lt : OpR X (compareOp .Lt) (rI0 fun i j => .bl (decide (i < j))) := opB0 fun _ _ _ _ _ _ _ q => lt_int q
theorem op_le : OpR X (compareOp .LtE) (rI0 fun i j => .bl (decide (i ≤ j))) := opB0 fun _ _ _ _ _ _ _ q => le_int q
theorem op_gt : OpR X (compareOp .Gt) (rI0 fun i j => .bl (decide (j < i))) := opB0 fun _ _ _ _ _ _ _ q => gt_int q
theorem op_ge : OpR X (compareOp .GtE) (rI0 fun i j => .bl (decide (j ≤ i))) := opB0 fun _ _ _ _ _ _ _ q => ge_int q
theorem nomark (b : Expr) {op : CmpOp} (h : op ≠ .In := by decide) (h2 : op ≠ .NotIn := by decide) : behindInMarks op b = false := by
  have e1 : (op == CmpOp.In) = false := by cases op <;> first | rfl | exact absurd rfl h
  have e2 : (op == CmpOp.NotIn) = false := by cases op <;> first | rfl | exact absurd rfl h2
  cases b <;> simp [behindInMarks, e1, e2]
/-- a comparison as a value; hm: nomark b, or (for in, not in) by with_unfolding_all rfl -/
theorem pe_cmpR {op : CmpOp} {r : R2} (ho : OpR X (compareOp op) r) (ha : PE X a ta) (hb : PE X b tb) (hm : behindInMarks op b = false) : PE X (.Compare a [op] [b] pos) (tOp r ta tb) := by
  intro pins s σ H Q I h
  exact wpAny_Compare1 (binT ha hb I h fun v u s2 x y H2 I2 rx ry q => ho pins s2 σ H2 x y v u Q I2 rx ry q) hm
/-- a reading of a value as a test -/
def tTest (t : TE) : TT := fun σ H Q => t σ H fun x H' => ∃ k, x = .bl k ∧ Q k H'
theorem pt_cmpR {op : CmpOp} {r : R2} (ho : OpR X (compareOp op) r) (ha : PE X a ta) (hb : PE X b tb) (hm : behindInMarks op b = false) : PT X (.Compare a [op] [b] pos) (tTest (tOp r ta tb)) := by
  intro pins s σ H Q I h
  refine wpAny_isTrue_Compare1 (thn (ha pins s σ H _ I h) fun v s1 ⟨x, H1, I1, r1, q1⟩ => thn (hb pins s1 σ H1 _ I1 q1) fun u s2 ⟨y, H2, I2, r2, q2⟩ =>
    thn (ho pins s2 σ H2 x y v u _ I2 r1 r2 q2) fun c s3 ⟨z, H3, I3, r3, k, e, q3⟩ => ?_) hm
  subst e
  cases r3
  exact wpAny_truthy_bool ⟨H3, I3, q3⟩
/-- a op1 b op2 c -/
def tChain (r r' : R2) (ta tb tc : TE) : TE := fun σ H Q => ta σ H fun x H1 => tb σ H1 fun y H2 => r x y H2 fun z H3 => ∃ k, z = .bl k ∧
  (if k = true then tc σ H3 fun w' H4 => r' y w' H4 Q else Q (.bl false) H3)
theorem pt_chain {op op' : CmpOp} {r r' : R2} (ho : OpR X (compareOp op) r) (ho' : OpR X (compareOp op') r') (ha : PE X a ta) (hb : PE X b tb) (hc : PE X c tc)
    (hm : lastMarks [op, op'] [b, c] = false := by with_unfolding_all rfl) : PT X (.Compare a [op, op'] [b, c] pos) (tTest (tChain r r' ta tb tc)) := by
  intro pins s σ H Q I h
  refine isTrue_chain (thn (ha pins s σ H _ I h) fun v s1 ⟨x, H1, I1, r1, q1⟩ => test_link (thn (hb pins s1 σ H1 _ I1 q1) fun u s2 ⟨y, H2, I2, r2, q2⟩ =>
    thn (ho pins s2 σ H2 x y v u _ I2 r1 r2 q2) fun d s3 ⟨z, H3, I3, r3, k, e, q3⟩ => ?_)) hm
  subst e
  cases r3
  refine wpAny_truthy_bool ?_
  cases k with
  | false =>
    obtain ⟨k', e', q'⟩ := q3
    cases e'
    exact ite_ff ⟨H3, I3, q'⟩
  | true =>
    refine ite_tt (test_last (thn (hc pins s3 σ H3 _ I3 q3) fun w' s4 ⟨z', H4, I4, r4, q4⟩ => thn (ho' pins s4 σ H4 y z' u w' _ I4 r2 r4 q4) fun d' s5 ⟨z2, H5, I5, r5, k2, e2, q5⟩ => ?_))
    subst e2
    cases r5
    exact wpAny_truthy_bool ⟨H5, I5, q5⟩

/-! ### truth -/
/-- a value's truth by the abstract heap -/
def TruV (K : PySem.W.Frag) (x : V) (H : Hp) (k : Bool) : Prop :=
  match x with
  | .non => k = false
  | .bl b => k = b
  | .int i => k = (i != 0)
  | .str y => y.length ≤ sizeLine ∧ k = ((y.length : Int) != 0)
  | .byt y => y.size ≤ sizeLine ∧ k = ((y.size : Int) != 0)
  | .ref p => (∃ xs, SqL K H p xs ∧ k = !xs.isEmpty) ∨ (∃ xs, SqT K H p xs ∧ k = !xs.isEmpty) ∨ ∃ kvs, H p = some (.dK kvs) ∧ k = !kvs.isEmpty
  | _ => False
theorem isEmpty_kv {κ : Type} {kvs : List (κ × V)} {vs : List (κ × Value)} (r : KV kvs vs) : (!vs.isEmpty) = !kvs.isEmpty := by
  cases r <;> rfl
theorem isEmpty_of {xs : List V} {its : List Value} (r : Vals xs its) : (!its.toArray.isEmpty) = !xs.isEmpty := by
  cases r <;> simp
theorem line63 : (sizeLine : Nat) < 2 ^ 63 := by rw [sizeLine_eq]; decide
theorem tru_ok : TruR X (fun x H Q => ∃ k, TruV X.K x H k ∧ Q k H) := by
  intro pins s σ H x v Q I rx h
  obtain ⟨k, e, q⟩ := h
  have hl := line63
  have hs : sizeLine = 16777216 := sizeLine_eq
  cases x with
  | non =>
    cases rx
    have e' : k = false := e
    subst e'
    exact truthy_none ⟨H, I, q⟩
  | bl b =>
    cases rx
    have e' : k = b := e
    subst e'
    exact wpAny_truthy_bool ⟨H, I, q⟩
  | int i =>
    obtain ⟨t, rfl⟩ := rx
    have e' : k = (i != 0) := e
    subst e'
    exact PySem.P.truthy_int ⟨H, I, q⟩
  | str y =>
    obtain ⟨t, rfl⟩ := rx
    obtain ⟨hy, e'⟩ : y.length ≤ sizeLine ∧ k = ((y.length : Int) != 0) := e
    subst e'
    exact PySem.P.truthy_str (by omega) ⟨H, I.tok _, q⟩
  | byt y =>
    obtain ⟨t, rfl⟩ := rx
    obtain ⟨hy, e'⟩ : y.size ≤ sizeLine ∧ k = ((y.size : Int) != 0) := e
    subst e'
    exact PySem.W.truthy_bytes (by omega) ⟨H, I.tok _, q⟩
  | ref p =>
    cases rx
    have e' : (∃ xs, SqL X.K H p xs ∧ k = !xs.isEmpty) ∨ (∃ xs, SqT X.K H p xs ∧ k = !xs.isEmpty) ∨ ∃ kvs, H p = some (.dK kvs) ∧ k = !kvs.isEmpty := e
    rcases e' with ⟨xs, hx, e'⟩ | ⟨xs, hx, e'⟩ | ⟨kvs, hx, e'⟩
    · subst e'
      obtain ⟨its, r, pl, hz⟩ := I.list hx
      have hlen := r.length
      exact wpAny_truthy_list pl.isList (by simp only [List.size_toArray]; omega) ⟨H, I.tok _, by rw [isEmpty_of r]; exact q⟩
    · subst e'
      obtain ⟨its, r, pl, hz⟩ := I.tuple hx
      have hlen := r.length
      exact truthy_tuple pl (by simp only [List.size_toArray]; omega) ⟨H, I.tok _, by rw [isEmpty_of r]; exact q⟩
    · subst e'
      obtain ⟨hz, hS, vs, r, m⟩ : kvs.length ≤ sizeLine ∧ (p == sysModules) = false ∧ ∃ vs, KV kvs vs ∧ s.heap.DictOf (mixKind X.prog X.w) p vs := I.hok p _ hx
      have hlen : kvs.length = vs.length := Paired.length r
      exact wpAny_truthy_dict hS m (by omega) ⟨H, I.tok _, by rw [isEmpty_kv r]; exact q⟩
  | _ => exact (show False from e).elim
/-- any expression whose test is its value's truth (a name, a call, a subscript, a field ..: he by fun _ => rfl) -/
theorem pt_truth (ha : PE X a ta) (he : ∀ whole, isTrue a X.env whole = (do let v ← whole; standAt a.pos; holding [v] (truthy v))) :
    PT X a (fun σ H Q => ta σ H fun x H' => ∃ k, TruV X.K x H' k ∧ Q k H') := by
  intro pins s σ H Q I h
  exact isTrue_plain (thn (ha pins s σ H _ I h) fun v s1 ⟨x, H1, I1, r1, q1⟩ => tru_ok pins s1 σ H1 x v Q I1 r1 q1) (he _)

/-! ### strs and bytes -/
/-! ### scalar builtins, by CallR -/
theorem vals1 {x : V} {us : List Value} (r : Vals [x] us) : ∃ u, us = [u] ∧ RelV x u := by
  cases r with
  | cons r1 r2 => cases r2; exact ⟨_, rfl, r1⟩
theorem vals2 {x y : V} {us : List Value} (r : Vals [x, y] us) : ∃ u w', us = [u, w'] ∧ RelV x u ∧ RelV y w' := by
  cases r with
  | cons r1 r2 =>
    cases r2 with
    | cons r3 r4 => cases r4; exact ⟨_, _, rfl, r1, r3⟩
theorem call_abs : CallR X (.builtin "abs") (fun xs H Q => ∃ i, xs = [.int i] ∧ Q (.int (if i < 0 then -i else i)) H) := by
  intro pins s σ H xs us Q I r h
  obtain ⟨i, rfl, q⟩ := h
  obtain ⟨u, rfl, t, rfl⟩ := vals1 r
  exact call_abs_int fun u tk => ⟨.int (if i < 0 then -i else i), H, I.tok _, ⟨_, rfl⟩, q⟩
theorem call_max2 (hc : X.calm = true) : CallR X (.builtin "max") (fun xs H Q => ∃ i j, xs = [.int i, .int j] ∧ Q (.int (if j > i then j else i)) H) := by
  intro pins s σ H xs us Q I r h
  obtain ⟨i, j, rfl, q⟩ := h
  obtain ⟨u, w', rfl, ⟨t, rfl⟩, ⟨t', rfl⟩⟩ := vals2 r
  refine max_two_ints (I.ok.hd hc) fun h' tk k => ⟨_, H, I.kept k, ?_, q⟩
  by_cases hj : j > i
  · rw [if_pos hj, if_pos hj]; exact ⟨_, rfl⟩
  · rw [if_neg hj, if_neg hj]; exact ⟨_, rfl⟩
theorem call_min2 (hc : X.calm = true) : CallR X (.builtin "min") (fun xs H Q => ∃ i j, xs = [.int i, .int j] ∧ Q (.int (if j < i then j else i)) H) := by
  intro pins s σ H xs us Q I r h
  obtain ⟨i, j, rfl, q⟩ := h
  obtain ⟨u, w', rfl, ⟨t, rfl⟩, ⟨t', rfl⟩⟩ := vals2 r
  refine min_two_ints (I.ok.hd hc) fun h' tk k => ⟨_, H, I.kept k, ?_, q⟩
  by_cases hj : j < i
  · rw [if_pos hj, if_pos hj]; exact ⟨_, rfl⟩
  · rw [if_neg hj, if_neg hj]; exact ⟨_, rfl⟩
theorem call_int1 : CallR X (.type "int") (fun xs H Q => (∃ i, xs = [.int i] ∧ Q (.int i) H) ∨ ∃ k, xs = [.bl k] ∧ Q (.int (if k then 1 else 0)) H) := by
  intro pins s σ H xs us Q I r h
  rcases h with ⟨i, rfl, q⟩ | ⟨k, rfl, q⟩
  · obtain ⟨u, rfl, t, rfl⟩ := vals1 r
    exact call_int_int ⟨.int i, H, I, ⟨_, rfl⟩, q⟩
  · obtain ⟨u, rfl, r1⟩ := vals1 r
    cases r1
    exact call_int_bool ⟨.int (if k then 1 else 0), H, I.tok _, ⟨_, rfl⟩, q⟩
/-- len of a str, a bytes, a list, a tuple -/
def LenV (K : PySem.W.Frag) (x : V) (H : Hp) (n : Nat) : Prop :=
  match x with
  | .str y => y.length ≤ sizeLine ∧ n = y.length
  | .byt y => y.size ≤ sizeLine ∧ n = y.size
  | .ref p => (∃ xs, SqL K H p xs ∧ n = xs.length) ∨ ∃ xs, SqT K H p xs ∧ n = xs.length
  | _ => False
theorem call_len : CallR X (.builtin "len") (fun xs H Q => ∃ x n, xs = [x] ∧ LenV X.K x H n ∧ Q (.int n) H) := by
  intro pins s σ H xs us Q I r h
  obtain ⟨x, n, rfl, e, q⟩ := h
  obtain ⟨u, rfl, rx⟩ := vals1 r
  have hl := line63
  have hs : sizeLine = 16777216 := sizeLine_eq
  cases x with
  | str y =>
    obtain ⟨t, rfl⟩ := rx
    obtain ⟨hy, e'⟩ : y.length ≤ sizeLine ∧ n = y.length := e
    subst e'
    exact len_str (by omega) ⟨.int _, H, I.tok _, ⟨_, rfl⟩, q⟩
  | byt y =>
    obtain ⟨t, rfl⟩ := rx
    obtain ⟨hy, e'⟩ : y.size ≤ sizeLine ∧ n = y.size := e
    subst e'
    exact PySem.W.len_bytes (by omega) ⟨.int _, H, I.tok _, ⟨_, rfl⟩, q⟩
  | ref p =>
    cases rx
    have e' : (∃ xs, SqL X.K H p xs ∧ n = xs.length) ∨ ∃ xs, SqT X.K H p xs ∧ n = xs.length := e
    rcases e' with ⟨xs, hx, e'⟩ | ⟨xs, hx, e'⟩
    · subst e'
      obtain ⟨its, r', pl, hz⟩ := I.list hx
      have hlen := r'.length
      exact Calls.call_len_list pl.isList (by simp only [List.size_toArray]; omega) ⟨.int xs.length, H, I.tok _, ⟨_, by simp only [List.size_toArray]; rw [hlen]⟩, q⟩
    · subst e'
      obtain ⟨its, r', pl, hz⟩ := I.tuple hx
      have hlen := r'.length
      exact len_tuple pl (by simp only [List.size_toArray]; omega) ⟨.int xs.length, H, I.tok _, ⟨_, by simp only [List.size_toArray]; rw [hlen]⟩, q⟩
  | _ => exact (show False from e).elim
end
end L2

namespace L2
open PySem PySem.Spec PyProof.Rows

/-! ### an instance, its attributes a map -/
structure ObjM (h : Heap) (x dx C : Addr) (mA : Str → Option Value) : Prop where
  obj : h.get? x = some (PySem.W.instObj C dx)
  ns : h.Ns1 dx mA
  ne : dx ≠ x

theorem lookIn_ns {h : Heap} {dx : Addr} {mA : Str → Option Value} (n : h.Ns1 dx mA) : ∃ od, h.get? dx = some od ∧ ∀ name, PySem.W.lookIn name od = some (mA name) := by
  obtain ⟨o, es, ep, ho, hd, hk, _, hm⟩ := n
  refine ⟨o, ho, fun name => ?_⟩
  have e := hm name
  unfold nsFind findBy at e
  rw [← Array.find?_toList] at e
  unfold PySem.W.lookIn
  rw [hd]
  dsimp only
  split
  · rename_i y q
    rw [q] at e
    exact congrArg some e
  · rename_i q
    rw [q] at e
    have a : es.toList.any (·.refKey) = false := by
      rw [List.any_eq_false]
      intro y hy
      obtain ⟨z, t, hkey⟩ := hk y (Array.mem_toList_iff.mp hy)
      simp [DictEntry.refKey, hkey]
    have a' : ¬ es.toList.any (·.refKey) = true := by rw [a]; exact Bool.false_ne_true
    rw [if_neg a']
    exact congrArg some e

theorem ObjM.look {h : Heap} {x dx C : Addr} {mA : Str → Option Value} (I : ObjM h x dx C mA) : ∃ od, PySem.W.InstAt h x (PySem.W.instObj C dx) C (some od) ∧ ∀ name, PySem.W.lookIn name od = some (mA name) :=
  let ⟨od, ho, hl⟩ := lookIn_ns I.ns
  ⟨od, ⟨I.obj, rfl, rfl, ho⟩, hl⟩

section
end

/-! ### the attributes as a list of pairs -/
section
variable {P : Program} {w : World} {H H' : Hp} {h h' : Heap} {a C dx : Addr} {fs fs' : List (Str × V)}
theorem ins_get (hok : HOk P w H h) (e : H a = some (.ins C dx fs)) : ∃ mA, ObjM h a dx C mA ∧ (∀ f, RelO (fs.lookup f) (mA f)) ∧ PySem.Within mA (fs.map (·.1)) ∧ fs.length ≤ 1000 ∧ H dx = some (.own a) := by
  obtain ⟨d, z, ne, ob, mA, n, r, q⟩ := (show ObjOk P w H h a (.ins C dx fs) from hok a _ e)
  exact ⟨mA, ⟨ob, n, ne⟩, r, q, z, d⟩
end

/-! ### what of the text a class must have -/
structure Cls (K : PySem.W.Frag) (C : Addr) : Prop where
  pg : PySem.W.plainGet K C Str.empty = true
  hd : PySem.W.hasDictIn K C = true
  po : PySem.W.plainOver K C = true
  sa : PySem.W.findIn K (.ref C) "__setattr__" = some (some (.builtin "object.__setattr__"))
theorem Cls.get {K : PySem.W.Frag} {C : Addr} (c : Cls K C) (f : Str) : PySem.W.plainGet K C f = true := c.pg
section
end

/-! ### readings and rules -/
section
end

/-! ### isinstance -/
section
variable {X : Cx} {pins : List (Addr × Obj)} {σ : St} {H : Hp} {s : Shared} {A : Around} {E : Value → Shared → Prop} {Q : Value → Shared → Prop} {c : Value} {b : Bool}
/-- the type of a value, as the fragment's deciders take it; for an instance its class -/
inductive TyOf (K : PySem.W.Frag) (H : Hp) : V → Value → Prop where
  | non : TyOf K H .non (.type "NoneType")
  | bl (x : Bool) : TyOf K H (.bl x) (.type "bool")
  | int (i : Int) : TyOf K H (.int i) (.type "int")
  | str (x : Str) : TyOf K H (.str x) (.type "str")
  | flt (x : UInt64) : TyOf K H (.flt x) (.type "float")
  | lst {a : Addr} {xs : List V} (e : H a = some (.lst xs)) : TyOf K H (.ref a) (.type "list")
  | frz {a : Addr} {o : Obj} {xs : List V} (e : H a = some (.frz o (.lst xs))) : TyOf K H (.ref a) (.type "list")
  | tup {a : Addr} {xs : List V} (e : H a = some (.tup xs)) : TyOf K H (.ref a) (.type "tuple")
  | dK {a : Addr} {kvs : List (Key × V)} (e : H a = some (.dK kvs)) : TyOf K H (.ref a) (.type "dict")
  | dT {a : Addr} {kvs : List (List Key × V)} (e : H a = some (.dT kvs)) : TyOf K H (.ref a) (.type "dict")
  | ins {a C dx : Addr} {fs : List (Str × V)} (e : H a = some (.ins C dx fs)) (cl : Cls K C) (ha : PySem.W.findIn K (.ref C) "__class__" = some (some (.builtin "object.__class__")))
      (hn : PySem.W.specialIn K (.builtin "object.__class__") "__get__" = some (some (.builtin "getset_descriptor.__get__"))) (htk : PySem.W.takesIn K (.builtin "object.__class__") = some true)
      (hm : PySem.W.mroIn K C (.type "object") = some true) : TyOf K H (.ref a) (.ref C)
/-- isinstance(x, c) for one class c, a built-in or an own one: kitOne's answer -/
theorem isinst_ok {x : V} {u t : Value} (I : Inv X pins σ H s) (rx : RelV x u) (ty : TyOf X.K H x t) (e : PySem.W.kitOne X.K t c = some b) (h : ∀ tk, Q (.bool b) { s with toks := tk }) :
    wpAny (model X.prog X.w) A (call (.builtin "isinstance") [u, c]) Q E s := by
  cases ty with
  | non => cases (show u = Value.none from rx); exact PySem.W.kia_one PySem.W.kitx_none I.kIn True.intro e (fun z => nomatch z) h
  | bl y => cases (show u = Value.bool y from rx); exact PySem.W.kia_one PySem.W.kitx_bool I.kIn True.intro e (fun z => nomatch z) h
  | int i => obtain ⟨t, q⟩ := (show ∃ t, u = Value.int i t from rx); cases q; exact PySem.W.kia_one PySem.W.kitx_int I.kIn True.intro e (fun z => nomatch z) h
  | str y => obtain ⟨t, q⟩ := (show ∃ t, u = Value.str y t from rx); cases q; exact PySem.W.kia_one PySem.W.kitx_str I.kIn True.intro e (fun z => nomatch z) h
  | flt y => obtain ⟨t, q⟩ := (show ∃ t, u = Value.float y t from rx); cases q; exact PySem.W.kia_one PySem.W.kitx_float I.kIn True.intro e (fun z => nomatch z) h
  | @lst a xs ea =>
    cases (show u = Value.ref a from rx)
    obtain ⟨_, _, n, _, h1⟩ := (show ObjOk X.prog X.w H s.heap a (.lst xs) from I.hok a _ ea)
    exact PySem.W.kia_one PySem.W.kitx_list I.kIn ⟨_, h1, rfl⟩ e (fun z => nomatch z) h
  | @frz a ob xs ea =>
    cases (show u = Value.ref a from rx)
    obtain ⟨_, _, _, n, _, h1⟩ := (show ObjOk X.prog X.w H s.heap a (.frz ob (.lst xs)) from I.hok a _ ea)
    exact PySem.W.kia_one PySem.W.kitx_list I.kIn ⟨_, h1, rfl⟩ e (fun z => nomatch z) h
  | @tup a xs ea =>
    cases (show u = Value.ref a from rx)
    obtain ⟨_, _, _, p⟩ := (show ObjOk X.prog X.w H s.heap a (.tup xs) from I.hok a _ ea)
    obtain ⟨o, h1, h2, _⟩ := p
    exact PySem.W.kia_one PySem.W.kitx_tuple I.kIn ⟨o, h1, h2⟩ e (fun z => nomatch z) h
  | @dK a kvs ea =>
    cases (show u = Value.ref a from rx)
    obtain ⟨_, _, vs, _, p⟩ := (show ObjOk X.prog X.w H s.heap a (.dK kvs) from I.hok a _ ea)
    obtain ⟨o, es, ep, h1, h2, _⟩ := p
    exact PySem.W.kia_one PySem.W.kitx_dict I.kIn ⟨o, h1, h2.1⟩ e (fun z => nomatch z) h
  | @dT a kvs ea =>
    cases (show u = Value.ref a from rx)
    obtain ⟨_, _, xs, _, o, es, ep, h1, h2, _⟩ := (show ObjOk X.prog X.w H s.heap a (.dT kvs) from I.hok a _ ea)
    exact PySem.W.kia_one PySem.W.kitx_dict I.kIn ⟨o, h1, h2.1⟩ e (fun z => nomatch z) h
  | @ins a C dx fs ea cl ha hn htk hm =>
    cases (show u = Value.ref a from rx)
    obtain ⟨mA, O, _⟩ := ins_get I.hok ea
    obtain ⟨od, J, _⟩ := O.look
    exact PySem.W.kia_one (PySem.W.kitx_own (cl.get _) cl.hd ha hn htk hm) I.kIn J e (fun z => nomatch z) h
end
end L2

namespace L2
open PySem PySem.Spec PyProof.Rows

/-! ### room -/
structure Room (k : Nat) (A : Around) : Prop where
  hd : A.handled = none
  dp : A.depth + 3 * k + 5 < recursionLimit
  un : A.units + 16 * k + 200 < cLine
theorem Room.mono {j k : Nat} {A : Around} (r : Room k A) (h : j ≤ k) : Room j A := ⟨r.hd, by have := r.dp; omega, by have := r.un; omega⟩
theorem Room.deeper {k : Nat} {A : Around} (r : Room (k + 1) A) (env : Env) : Room k (A.deeper env) :=
  ⟨r.hd, by have := r.dp; show A.depth + 1 + 3 * k + 5 < _; omega, by have := r.un; show A.units + 3 + 16 * k + 200 < _; omega⟩
theorem Room.depth {k : Nat} {A : Around} (r : Room k A) : A.depth < recursionLimit := by have := r.dp; omega
/-! ### argument lists and displays -/
def tNil : TA := fun _ H Q => Q [] H
def tCons (ta : TE) (tr : TA) : TA := fun σ H Q => ta σ H fun x H1 => tr σ H1 fun xs H2 => Q (x :: xs) H2
section
variable {X : Cx} {e : Expr} {es : List Expr} {te : TE} {t : TA} {pos : Pos}
theorem pa_nil : PA X [] tNil := fun _ _ _ _ H Q I h => Calls.spliced_nil ⟨[], H, I, .nil, h⟩
theorem pa_cons (ha : PE X e te) (hr : PA X es t) (hs : starEach (e :: es) X.env = (false, eval e X.env) :: starEach es X.env := by rfl) : PA X (e :: es) (tCons te t) := by
  intro pos pins s σ H Q I h
  rw [hs]
  show wpAny _ _ (spliced ((false, eval e X.env) :: backTo pos (starEach es X.env))) _ _ s
  refine Calls.spliced_cons (thn (ha pins s σ H _ I h) fun u s1 ⟨x, H1, I1, r1, q1⟩ => ?_)
  exact thn (hr pos pins s1 σ H1 _ I1 q1) fun us s2 ⟨xs, H2, I2, r2, q2⟩ => ⟨x :: xs, H2, I2, .cons r1 r2, q2⟩

/-- a tuple, a list of written items -/
def tTup (t : TA) : TE := fun σ H Q => t σ H fun xs H1 => xs.length ≤ sizeLine ∧ ∀ p, H1 p = none → Q (.ref p) (upd H1 p (.tup xs))
def tLst (t : TA) : TE := fun σ H Q => t σ H fun xs H1 => xs.length ≤ sizeLine ∧ ∀ p, H1 p = none → Q (.ref p) (upd H1 p (.lst xs))
theorem pe_tup {x1} (h : PA X es t) : PE X (.Tuple es x1 pos) (tTup t) := by
  intro pins s σ H Q I hq
  refine wpAny_Tuple_spliced (thn (h pos pins s σ H _ I hq) fun us s1 ⟨xs, H1, I1, r, z, q⟩ => ⟨by rw [← r.length]; exact z, ?_⟩)
  have hf : H1 s1.heap.objs.size = none := I1.hok.fresh (Nat.le_refl _)
  refine ⟨.ref s1.heap.objs.size, upd H1 s1.heap.objs.size (.tup xs), I1.laid (t' := s1.toks) (fun b u e => Heap.get?_push_of_some _ e) (Nat.le_refl _) ?_, rfl, q _ hf⟩
  exact ⟨z, us, r, ⟨_, Heap.get?_push_size _ rfl, rfl, _, rfl⟩⟩
theorem pe_lst (h : PA X es t) : PE X (.List es pos) (tLst t) := by
  intro pins s σ H Q I hq
  refine wpAny_List_spliced (thn (h pos pins s σ H _ I hq) fun us s1 ⟨xs, H1, I1, r, z, q⟩ => ⟨by rw [← r.length]; exact z, ?_⟩)
  have hf : H1 s1.heap.objs.size = none := I1.hok.fresh (Nat.le_refl _)
  refine ⟨.ref s1.heap.objs.size, upd H1 s1.heap.objs.size (.lst xs), I1.laid (t' := s1.toks) (fun b u e => Heap.get?_push_of_some _ e) (Nat.le_refl _) ?_, rfl, q _ hf⟩
  exact ⟨z, us, 0, r, Heap.get?_push_size _ rfl⟩
end

/-! ### what a def promises -/
/-- a def's promise: the bound arguments in the parameters' order, the heap, the wanted end, the wanted exception -/
abbrev Sp := List V → Hp → VK → XK → Prop
/-- how an exception lies behind a call (file 08 gives it): the callers' frames, abstract heap and state ahead of the call, the wish, the exception, the state -/
abbrev CXT := List Env → Hp → Shared → XK → Value → Shared → Prop

/-- the state at a call -/
structure Env0 (P : Program) (w : World) (K : PySem.W.Frag) (mg : Str → Option Value) (base : Heap) (A : Around) (outer : List Env) (s : Shared) (H : Hp) : Prop where
  frames : A.frames = some outer
  mod : Mod K mg base
  bs : ∀ b o, base.get? b = some o → s.heap.get? b = some o ∧ H b = none
  bsz : base.objs.size ≤ s.heap.objs.size
  funs : s.heap.FunFrames base outer
  frf : ∀ b ∈ frs outer, H b = none
  hok : HOk P w H s.heap
  bare : AllBare s.gens
/-- a call's end -/
def CE (outer : List Env) (P : Program) (w : World) (H : Hp) (s : Shared) (Q : VK) (u : Value) (s' : Shared) : Prop :=
  ∃ v H', s'.os = s.os ∧ AllBare s'.gens ∧ Un (frs outer) [] H H' s.heap s'.heap ∧ HOk P w H' s'.heap ∧ RelV v u ∧ Q v H'
def CR (CX : CXT) (outer : List Env) (P : Program) (w : World) (H : Hp) (s : Shared) (Q : VK) (E : XK) (r : Result) (s' : Shared) : Prop :=
  match r with
  | .ok (.ret u) => CE outer P w H s Q u s'
  | .ok _ => False
  | .error e => CX outer H s E e s'
structure FnOk (P : Program) (w : World) (K : PySem.W.Frag) (mg : Str → Option Value) (base : Heap) (CX : CXT) (k : Nat) (f : Addr) (fd : FuncData) (ps : List Str) (sp : Sp) : Prop where
  len : ∀ vs H Q E, sp vs H Q E → vs.length = ps.length
  run : ∀ (A : Around) (outer : List Env) (s : Shared) (H : Hp) (args : Args) (us : List Value) (vs : List V) (Q : VK) (E : XK), Room k A → Env0 P w K mg base A outer s H → BindsTo s fd args (ps.zip us) → Vals vs us → sp vs H Q E →
    codeAny (model P w) A (.call (.ref f) args) (CR CX outer P w H s Q E) s
section
variable {X : Cx} {pins : List (Addr × Obj)} {σ : St} {H : Hp} {s s' : Shared}
/-- from a body: what a callee wants -/
theorem Inv.env0 (I : Inv X pins σ H s) : Env0 X.prog X.w X.K X.mg X.base X.A X.stack s H :=
  ⟨I.ok.frames, I.ok.mod, I.bs, Nat.le_trans I.ok.bsz I.sz, I.stack, I.stkFree, I.hok, I.bare⟩
/-- behind a call -/
theorem Inv.after {Q : VK} {u : Value} (I : Inv X pins σ H s) (h : CE X.stack X.prog X.w H s Q u s') : EP X pins σ Q u s' := by
  obtain ⟨v, H', os, bare, un, hok, r, q⟩ := h
  obtain ⟨hh, g, d, t, os'⟩ := s'
  obtain rfl : os' = s.os := os
  exact ⟨v, H', I.call (h' := hh) (g' := g) (d' := d) (t' := t) (ch := []) un hok bare (fun b z => absurd z (by simp)), r, q⟩
end

/-! ### calls -/
/-- f(..): the written arguments, then the defaults dvs; E: what is wanted of an exception -/
def tCall (sp : Sp) (dvs : List V) (E : XK) (t : TA) : TE := fun σ H Q => t σ H fun vs H1 => sp (vs ++ dvs) H1 Q E
/-- how the parameters are bound: us the positional arguments, kw the keywords' values by name, ds the defaults that fill up -/
def Binds (K : PySem.W.Frag) (fd : FuncData) (ps : List Str) (ds : List Value) : Prop :=
  ∀ (s : Shared) (us : List Value), K.In s.heap → (us ++ ds).length = ps.length → BindsTo s fd ⟨us, []⟩ (ps.zip (us ++ ds))
/-- every parameter is given -/
theorem Binds.all {K : PySem.W.Frag} {fd : FuncData} {ps : List Str} (h : ∀ us : List Value, us.length = ps.length → bindArgs fd ⟨us, []⟩ = pure (ps.zip us)) : Binds K fd ps [] := fun s us _ hl => by
  rw [List.append_nil] at hl ⊢
  exact .of_eq (h us hl)

/-- an exception of a callee reaches what this body wants of exceptions -/
def Passes (CX : CXT) (X : Cx) (E : XK) : Prop := ∀ (pins : List (Addr × Obj)) (σ : St) (H : Hp) (s : Shared) (e : Value) (s' : Shared), Inv X pins σ H s → CX X.stack H s E e s' → X.xe e s'

section
variable {X : Cx} {CX : CXT} {k : Nat} {f C : Addr} {fd : FuncData} {ps : List Str} {sp : Sp} {dvs : List V} {ds : List Value} {E : XK} {x m : Str} {p pos apos : Pos} {e o : Expr} {es : List Expr} {ta : TE} {t : TA}

/-- the callee runs -/
theorem run_fn {pins : List (Addr × Obj)} {σ : St} {H : Hp} {s : Shared} {Q : VK} {us : List Value} {vs : List V} (F : FnOk X.prog X.w X.K X.mg X.base CX k f fd ps sp) (hr : Room k X.A) (hb : Binds X.K fd ps ds) (hd : Vals dvs ds) (hx : Passes CX X E)
    (I : Inv X pins σ H s) (r : Vals vs us) (h : sp (vs ++ dvs) H Q E) : wpAny (model X.prog X.w) X.A (call (.ref f) us) (EP X pins σ Q) X.xe s := by
  have r2 : Vals (vs ++ dvs) (us ++ ds) := r.append hd
  have hl : (us ++ ds).length = ps.length := by rw [← r2.length]; exact F.len _ _ _ _ h
  refine wpAny_call (codeAny_mono (F.run X.A X.stack s H ⟨us, []⟩ (us ++ ds) (vs ++ dvs) Q E hr I.env0 (hb s us I.kIn hl) r2 h) fun r s' hq => ?_)
  cases r with
  | error e => exact hx pins σ H s e s' I hq
  | ok fl =>
    cases fl with
    | ret u => exact I.after hq
    | next => exact False.elim hq
    | brk => exact False.elim hq
    | cont => exact False.elim hq

theorem pe_call (F : FnOk X.prog X.w X.K X.mg X.base CX k f fd ps sp) (hr : Room k X.A) (hg : Gl X x) (hm : X.mg x = some (.ref f)) (hk : PySem.W.keepIn X.K (.ref f) = true) (hb : Binds X.K fd ps ds) (hd : Vals dvs ds) (hx : Passes CX X E)
    (ha : PA X (e :: es) t) (hdb : (x == ("__debug__" : Str)) = false := by decide) (he : starEach (e :: es) X.env = (false, eval e X.env) :: starEach es X.env := by rfl) (hpl : (backTo pos (starEach es X.env)).any (·.1) = false := by rfl) :
    PE X (.Call (.Name x p) (e :: es) [] pos) (tCall sp dvs E t) := by
  intro pins s σ H Q I h
  refine wpAny_Call_Name_kw (ld_glob I hg hm ?_ hdb)
  refine PySem.W.callWith_K (h₀ := X.base) I.ok.mod.kin hk (thn (ha pos pins s σ H _ I h) fun us s1 ⟨vs, H1, I1, r, q⟩ => ⟨I1.kIn, ?_⟩) he hpl
  exact run_fn F hr hb hd hx I1 r q
end

/-! ### keywords -/
section
end

/-! ### a def's body keeps its promise -/
/-- names: the parameters first -/
structure FnScope (N P : List Str) (sc : Scope) : Prop where
  kind : sc.kind = .function
  co : sc.isCoroutine = false
  gen : sc.isGenerator = false
  nd : N.Nodup
  pre : N.take P.length = P
  par : ∀ x ∈ P, sc.names.lookup x = some .local ∨ sc.names.lookup x = some .cell
  nofree : ∀ y ∈ sc.names, y.2 ≠ .free

theorem bindL_out {kindOf : Str → Option NameKind} {x : Str} : ∀ {binds : List (Str × Value)} {m : Str → Option Value}, (∀ v, (x, v) ∉ binds) → bindL kindOf binds m x = m x
  | [], _, _ => rfl
  | (n, v) :: r, m, h => by
    unfold bindL
    rw [bindL_out fun w hw => h w (List.mem_cons_of_mem _ hw)]
    split
    · have : x ≠ n := by rintro rfl; exact h v List.mem_cons_self
      simp [this]
    · rfl
theorem bindC_out {kindOf : Str → Option NameKind} {x : Str} : ∀ {binds : List (Str × Value)} {m : Str → Option Value}, (∀ v, (x, v) ∉ binds) → bindC kindOf binds m x = m x
  | [], _, _ => rfl
  | (n, v) :: r, m, h => by
    unfold bindC
    rw [bindC_out fun w hw => h w (List.mem_cons_of_mem _ hw)]
    split
    · rfl
    · have : x ≠ n := by rintro rfl; exact h v List.mem_cons_self
      simp [this]
theorem bindL_get {kindOf : Str → Option NameKind} {x : Str} {v : Value} : ∀ {P : List Str} {vs : List Value} {i : Nat} {m : Str → Option Value}, P.Nodup → P[i]? = some x → vs[i]? = some v → kindOf x = some .local →
    bindL kindOf (P.zip vs) m x = some v
  | [], _, _, _, _, h, _, _ => by simp at h
  | _ :: _, [], _, _, _, _, h, _ => by simp at h
  | p :: P, w :: vs, 0, m, nd, h1, h2, hk => by
    simp at h1 h2; subst h1; subst h2
    show bindL kindOf ((p, w) :: P.zip vs) m p = _
    unfold bindL
    rw [bindL_out fun v hv => (List.nodup_cons.mp nd).1 (List.of_mem_zip hv).1, if_pos hk]
    simp
  | p :: P, w :: vs, i + 1, m, nd, h1, h2, hk => by
    show bindL kindOf ((p, w) :: P.zip vs) m x = _
    unfold bindL
    exact bindL_get (i := i) (List.nodup_cons.mp nd).2 (by simpa using h1) (by simpa using h2) hk
theorem bindC_get {kindOf : Str → Option NameKind} {x : Str} {v : Value} : ∀ {P : List Str} {vs : List Value} {i : Nat} {m : Str → Option Value}, P.Nodup → P[i]? = some x → vs[i]? = some v → kindOf x ≠ some .local →
    bindC kindOf (P.zip vs) m x = some v
  | [], _, _, _, _, h, _, _ => by simp at h
  | _ :: _, [], _, _, _, _, h, _ => by simp at h
  | p :: P, w :: vs, 0, m, nd, h1, h2, hk => by
    simp at h1 h2; subst h1; subst h2
    show bindC kindOf ((p, w) :: P.zip vs) m p = _
    unfold bindC
    rw [bindC_out fun v hv => (List.nodup_cons.mp nd).1 (List.of_mem_zip hv).1, if_neg hk]
    simp
  | p :: P, w :: vs, i + 1, m, nd, h1, h2, hk => by
    show bindC kindOf ((p, w) :: P.zip vs) m x = _
    unfold bindC
    exact bindC_get (i := i) (List.nodup_cons.mp nd).2 (by simpa using h1) (by simpa using h2) hk

/-- the names' values at the entry -/
def start (N : List Str) (vs : List V) : St := vs.map some ++ List.replicate (N.length - vs.length) none

/-- the context of a def's body, at its entry; an exception leaves the frame, then lies as CX says -/
def cxOf (CX : CXT) (P : Program) (w : World) (K : PySem.W.Frag) (mg : Str → Option Value) (base : Heap) (N : List Str) (qual : Str) (scope : Scope) (f : Addr) (cd : Value) (A : Around) (outer : List Env) (s : Shared) (H : Hp) (E : XK) : Cx where
  prog := P
  w := w
  K := K
  mg := mg
  base := base
  A := A.deeper (envOfC qual scope s.heap.objs.size f cd)
  N := N
  s₀ := s
  H₀ := H
  env := envOfC qual scope s.heap.objs.size f cd
  outer := outer
  stack := envOfC qual scope s.heap.objs.size f cd :: outer
  ex := []
  calm := true
  fn := fun _ => true
  pn := []
  xe := fun e s' => wpAny (model P w) (A.deeper (envOfC qual scope s.heap.objs.size f cd)) (leaving (envOfC qual scope s.heap.objs.size f cd) e) (fun _ s'' => CX outer H s E e s'') (fun e' s'' => CX outer H s E e' s'') s'

theorem cell_has {sc : Scope} {n : Nat} {x : Str} (h : sc.names.lookup x = some .cell) : ∃ c, (cellsFrom n sc.names []).lookup x = some c := by
  have q := PySem.W.cellsFrom_some sc.names n [] (.inl h)
  exact Option.isSome_iff_exists.mp q

theorem inv_start {CX : CXT} {P : Program} {w : World} {K : PySem.W.Frag} {mg : Str → Option Value} {base : Heap} {N ps : List Str} {qual : Str} {scope : Scope} {f : Addr} {cd : Value} {A : Around} {outer : List Env} {s s1 : Shared} {H : Hp} {E : XK} {us : List Value} {vs : List V}
    (S : FnScope N ps scope) (hd : A.handled = none) (e0 : Env0 P w K mg base A outer s H) (hl : vs.length = ps.length) (r : Vals vs us)
    (x : InCallC s s.heap.objs.size (bindL (envOfC qual scope s.heap.objs.size f cd).kindOf (ps.zip us) fun _ => none) (cellsFrom (s.heap.objs.size + 1) scope.names []) (bindC (envOfC qual scope s.heap.objs.size f cd).kindOf (ps.zip us) fun _ => none) s1) :
    Inv (cxOf CX P w K mg base N qual scope f cd A outer s H E) [] (start N vs) H s1 := by
  have hpl : ps.length ≤ N.length := by have := congrArg List.length S.pre; rw [List.length_take] at this; omega
  obtain ⟨h1, tk, rfl, hk⟩ := x.done
  have noA : ∀ b : Addr, b ∉ (cxOf CX P w K mg base N qual scope f cd A outer s H E).ex := fun b z => absurd (show b ∈ ([] : List Addr) from z) (by simp)
  refine ⟨⟨e0.mod, S.kind, rfl, rfl, Nat.le_refl _, fun y z c h1 h2 => ?_, fun y hy => ?_, fun y c _ h => ?_, fun _ => hd, Around.frames_deeper e0.frames, .inr ⟨rfl, rfl⟩, fun b z => absurd z (noA b), e0.bs, e0.bsz, fun b _ _ => noA b, fun b z => absurd z (noA b), e0.funs, e0.frf⟩,
    rfl, e0.bare, Un.kept hk, ⟨_, x.toInCall.ns, fun i y v h1 h2 h3 => ?_⟩, fun y c h => ⟨_, x.cell y c h⟩, e0.hok.fresh (Nat.le_refl _), fun y c h => ?_, fun p hp => absurd (show p ∈ ([] : List (Addr × Obj)) from hp) (by simp), e0.hok.kept hk, ?_⟩
  · exact name_of_addr x.apart (PySem.mem_of_lookup h1) (PySem.mem_of_lookup h2)
  · have hy : scope.names.lookup y = some .cell ∨ scope.names.lookup y = some .free := hy
    rcases hy with hy | hy
    · exact cell_has hy
    · exact absurd rfl (S.nofree _ (PySem.mem_of_lookup hy))
  · exact Nat.le_of_lt (x.above y c (PySem.mem_of_lookup h))
  · have hi : i < vs.length := by
      unfold start at h2
      by_cases hi : i < vs.length
      · exact hi
      · rw [List.getElem?_append_right (by simpa using hi)] at h2
        rw [List.getElem?_replicate] at h2
        split at h2 <;> cases h2
    have ha : vs[i]? = some v := by
      unfold start at h2
      rw [List.getElem?_append_left (by simpa using hi), List.getElem?_map] at h2
      cases e : vs[i]? with
      | none => rw [e] at h2; cases h2
      | some a => rw [e] at h2; cases h2; rfl
    obtain ⟨u, hu, rv⟩ := r.get ha
    have hp : ps[i]? = some y := by
      rw [← S.pre, List.getElem?_take_of_lt (by omega)]; exact h1
    have ndP : ps.Nodup := by rw [← S.pre]; exact S.nd.sublist (List.take_sublist _ _)
    refine ⟨u, rv, ?_⟩
    rcases S.par y (List.mem_of_getElem? hp) with k | k
    · exact .inl ⟨k, bindL_get ndP hp hu k⟩
    · obtain ⟨c, e⟩ := cell_has (n := s.heap.objs.size + 1) k
      refine .inr ⟨.inl k, c, e, ?_⟩
      have q := x.cell y c e
      rw [bindC_get ndP hp hu (by show scope.names.lookup y ≠ _; rw [k]; decide)] at q
      exact q
  · exact e0.hok.fresh (Nat.le_of_lt (x.above y c (PySem.mem_of_lookup h)))
  · unfold start
    show _ = N.length
    rw [List.length_append, List.length_map, List.length_replicate]
    omega

/-- THE RULE: a def (or a method) of the text, by its body. The body's reading t is chosen for each entry; it is run at the parameters' values -/
theorem fn_of {CX : CXT} {P : Program} {w : World} {K : PySem.W.Frag} {mg : Str → Option Value} {base : Heap} {k : Nat} {f : Addr} {name qual : Str} {params : Arguments} {body : List Stmt} {scope : Scope} {dV kV doc pm cdv ct oc : Value} {an od : Option Addr}
    {osl : Array (Option Value)} {N ps : List Str} {sp : Sp} (lk : K.lookup f = some ⟨oc, od, .func (PySem.W.fnOf name qual params body scope dV kV doc pm an cdv ct), osl⟩) (hcd : PySem.W.codeIn K cdv qual = true) (S : FnScope N ps scope)
    (len : ∀ vs H Q E, sp vs H Q E → vs.length = ps.length)
    (hbody : ∀ (A : Around) (outer : List Env) (s : Shared) (H : Hp) (vs : List V) (Q : VK) (E : XK), Room k (A.deeper (envOfC qual scope s.heap.objs.size f cdv)) → sp vs H Q E →
      ∃ t, PSs (cxOf CX P w K mg base N qual scope f cdv A outer s H E) body t ∧ t { nx := fun _ H' => Q .non H', rt := Q } (start N vs) H) :
    FnOk P w K mg base CX (k + 1) f (PySem.W.fnOf name qual params body scope dV kV doc pm an cdv ct) ps sp := by
  refine ⟨len, fun A outer s H args us vs Q E hr e0 hb r hsp => ?_⟩
  have hl := len _ _ _ _ hsp
  have KX : K.In s.heap := e0.mod.kin.keeps fun b o e => (e0.bs b o e).1
  have lim : s.heap.NoLimit := e0.mod.nolimit.keeps fun b o e => (e0.bs b o e).1
  have hkind : ∀ y ∈ ps.zip us, scope.names.lookup y.1 = some .local ∨ (scope.names.lookup y.1 = some .cell ∧ ((cellsFrom (s.heap.objs.size + 1) scope.names []).lookup y.1).isSome = true) := fun ⟨n, v⟩ hy => by
    rcases S.par n (List.of_mem_zip hy).1 with q | q
    · exact .inl q
    · exact .inr ⟨q, PySem.W.cellsFrom_some _ _ _ (.inl q)⟩
  refine codeAny_call_function hr.depth (KX _ _ lk) rfl S.co S.gen rfl (PySem.W.codeRec_of KX hcd) (hb _ _ _ _ ?_)
  refine wpAny_newFunctionEnv_cells S.kind hkind fun env he s1 x => ?_
  subst he
  refine ⟨lim.keeps x.toInCall.keep, codeAny_func ?_⟩
  obtain ⟨t, ht, hq⟩ := hbody A outer s H vs Q E (hr.deeper _) hsp
  have I : Inv (cxOf CX P w K mg base N qual scope f cdv A outer s H E) [] (start N vs) H s1 := inv_start S hr.hd e0 hl r x
  refine wpAny_mono (ht [] s1 (start N vs) H _ I hq) (fun fl s' hs => ?_) fun e s' hs => hs
  have fin : ∀ {σ' : St} {H' : Hp} {v : V} {u : Value}, Inv (cxOf CX P w K mg base N qual scope f cdv A outer s H E) [] σ' H' s' → RelV v u → Q v H' → CE outer P w H s Q u s' :=
    fun {σ' H' v u} J rv q => ⟨v, H', J.os, J.bare, J.base, J.hok, rv, q⟩
  cases fl with
  | ret u =>
    obtain ⟨v, σ', H', J, rv, q⟩ := hs
    exact fin J rv q
  | next =>
    obtain ⟨σ', H', J, q⟩ := hs
    exact fin (v := V.non) (u := Value.none) J rfl q
  | brk =>
    obtain ⟨_, _, _, q⟩ := hs
    exact False.elim q
  | cont =>
    obtain ⟨_, _, _, q⟩ := hs
    exact False.elim q
end L2

namespace L2
open PySem PySem.Spec PyProof.Rows
section
variable {X : Cx} {x : Str} {p pos : Pos} {e : Expr} {es : List Expr} {t : TA} {id T : String} {r : List V → Hp → VK → Prop}

def tCB (r : List V → Hp → VK → Prop) (t : TA) : TE := fun σ H Q => t σ H fun vs H1 => r vs H1 Q
/-- f(e, ..), f a built-in function -/
theorem pe_callB (hc : CallR X (.builtin id) r) (hg : Gl X x) (hm : X.mg x = none) (hv : bootBuiltins x = some (.builtin id)) (ha : PA X (e :: es) t) (hn : x ≠ "__name__" := by decide) (hdb : (x == ("__debug__" : Str)) = false := by decide)
    (he : starEach (e :: es) X.env = (false, eval e X.env) :: starEach es X.env := by rfl) (hpl : (backTo pos (starEach es X.env)).any (·.1) = false := by rfl) : PE X (.Call (.Name x p) (e :: es) [] pos) (tCB r t) := by
  intro pins s σ H Q I h
  refine wpAny_Call_Name_kw (ld_blt I hg hm hv ?_ hn hdb)
  exact PyProof.Rows.callWith_builtin1 (thn (ha pos pins s σ H _ I h) fun us s1 ⟨vs, H1, I1, r1, q1⟩ => hc pins s1 σ H1 vs us Q I1 r1 q1) he hpl
/-- T(e, ..), T a built-in type -/
theorem pe_callTy (hc : CallR X (.type T) r) (hg : Gl X x) (hm : X.mg x = none) (hv : bootBuiltins x = some (.type T)) (ha : PA X (e :: es) t) (hn : x ≠ "__name__" := by decide) (hdb : (x == ("__debug__" : Str)) = false := by decide)
    (he : starEach (e :: es) X.env = (false, eval e X.env) :: starEach es X.env := by rfl) (hpl : (backTo pos (starEach es X.env)).any (·.1) = false := by rfl) : PE X (.Call (.Name x p) (e :: es) [] pos) (tCB r t) := by
  intro pins s σ H Q I h
  refine wpAny_Call_Name_kw (ld_blt I hg hm hv ?_ hn hdb)
  exact PyProof.Rows.callWith_type1 (thn (ha pos pins s σ H _ I h) fun us s1 ⟨vs, H1, I1, r1, q1⟩ => hc pins s1 σ H1 vs us Q I1 r1 q1) he hpl
end
end L2

namespace HT
open PySem PyProof.Rows

section
open PySem.SeqAt
open PySem.AutoSeq1 (wpAny_loadPart')
open PySem.MeetsSeq PySem.MeetsSeq2 PySem.MeetsSeq3

end

section
variable {prog : Program} {w : World} {A : Around} {E : Value → Shared → Prop} {s : Shared}

/-! ### t[a:b], not the whole -/
/-- a slice's bound as a place among n (d where it is left out) -/
def sIx (n d : Nat) : Option Int → Nat
  | none => d
  | some v => if v < 0 then (v + (n : Int)).toNat else min v.toNat n
theorem sIx_none (n d : Nat) : sIx n d none = d := rfl
theorem sIx_nat (n d k : Nat) : sIx n d (some (k : Int)) = min k n := by
  show (if (k : Int) < 0 then ((k : Int) + (n : Int)).toNat else min (k : Int).toNat n) = min k n
  rw [if_neg (by omega), Int.toNat_natCast]
end
end HT

namespace L2
open PySem PySem.Spec PyProof.Rows

/-! ### the parts of a slice -/
abbrev TO := St → Hp → (Option Int → Hp → Prop) → Prop
/-- a slice's part (left out, or an int) -/
def PO (X : Cx) (e : Option Expr) (t : TO) : Prop :=
  ∀ (pins : List (Addr × Obj)) (s : Shared) (σ : St) (H : Hp) (Q : Option Int → Hp → Prop), Inv X pins σ H s → t σ H Q →
    wpAny (model X.prog X.w) X.A (evalPart e X.env) (fun u s' => ∃ o H', Inv X pins σ H' s' ∧ IsPart u o ∧ Q o H') X.xe s
def tNoPart : TO := fun _ H Q => Q none H
def tPart (t : TE) : TO := fun σ H Q => t σ H fun x H1 => ∃ i, x = .int i ∧ Q (some i) H1

section
variable {X : Cx} {e : Expr} {te : TE} {lo hi : Option Expr} {tl th : TO} {pos p2 : Pos}

theorem po_none : PO X none tNoPart := by
  intro pins s σ H Q I h
  rw [evalPart_none]
  exact wpAny_pure ⟨none, H, I, .none, h⟩
theorem po_some (h : PE X e te) : PO X (some e) (tPart te) := by
  intro pins s σ H Q I hw
  rw [evalPart_some]
  refine thn (h pins s σ H _ I hw) fun u s1 ⟨x, H1, I1, r1, q1⟩ => ?_
  obtain ⟨i, rfl, q⟩ := q1
  obtain ⟨t, rfl⟩ := r1
  exact ⟨some i, H1, I1, .int i t, q⟩

/-- what a slice of a value is, by values: the slice object stands at sl -/
def SlR (X : Cx) (r : V → Option Int → Option Int → Hp → VK → Prop) : Prop :=
  ∀ (pins : List (Addr × Obj)) (s : Shared) (σ : St) (H : Hp) (x : V) (v vl vu : Value) (lo hi : Option Int) (sl : Addr) (Q : VK), Inv X pins σ H s → RelV x v → s.heap.IsSliceOf sl vl vu .none → IsPart vl lo → IsPart vu hi → r x lo hi H Q →
    ∃ T id, typeLookup (.type T) "__getitem__" = pure (some (.builtin id)) ∧ s.TypeIs v T ∧ wpAny (model X.prog X.w) X.A (getItem v (.ref sl)) (EP X pins σ Q) X.xe s
def tSl (r : V → Option Int → Option Int → Hp → VK → Prop) (te : TE) (tl th : TO) : TE := fun σ H Q => te σ H fun x H1 => tl σ H1 fun l H2 => th σ H2 fun u H3 => r x l u H3 Q
/-- a[lo:hi], any a -/
theorem pe_slice {r : V → Option Int → Option Int → Hp → VK → Prop} (hr : SlR X r) (he : PE X e te) (hl : PO X lo tl) (hu : PO X hi th) : PE X (.Subscript e (.Slice lo hi none p2) pos) (tSl r te tl th) := by
  intro pins s σ H Q I h
  refine Subscript_ (thn (he pins s σ H _ I h) fun v s1 ⟨x, H1, I1, r1, q1⟩ => ?_)
  refine wpAny_Slice (thn (hl pins s1 σ H1 _ I1 q1) fun vl s2 ⟨l, H2, I2, pl, q2⟩ => thn (hu pins s2 σ H2 _ I2 q2) fun vu s3 ⟨u, H3, I3, pu, q3⟩ => ?_)
  rw [evalPart_none]
  refine wpAny_pure ?_
  have I4 : Inv X pins σ H3 { s3 with heap := s3.heap.push { cls := .type "slice", data := .fields #[vl, vu, .none] } } := I3.kept (t' := s3.toks) fun b ob q => Heap.get?_push_of_some _ q
  obtain ⟨T, id, hT, ht, hg⟩ := hr pins { s3 with heap := s3.heap.push { cls := .type "slice", data := .fields #[vl, vu, .none] } } σ H3 x v vl vu l u s3.heap.objs.size Q I4 r1 (Heap.IsSliceOf.new ..) pl pu q3
  show wpAny (model X.prog X.w) X.A (subscriptTail e (.Slice lo hi none p2) v (.ref s3.heap.objs.size)) (EP X pins σ Q) X.xe { s3 with heap := s3.heap.push { cls := .type "slice", data := .fields #[vl, vu, .none] } }
  exact tail_any (ops := [.ref s3.heap.objs.size, v]) ht hT hg (by with_unfolding_all rfl)

/-- the items of xs[lo:hi] -/
def cutV (xs : List V) (lo hi : Option Int) : List V := (xs.drop (HT.sIx xs.length 0 lo)).take (HT.sIx xs.length xs.length hi - HT.sIx xs.length 0 lo)
theorem cutV_length (xs : List V) (lo hi : Option Int) : (cutV xs lo hi).length ≤ xs.length := by
  unfold cutV
  rw [List.length_take, List.length_drop]
  omega
/-! ### t < u, t + u -/
end
end L2

namespace L2
open PySem PySem.Spec PyProof.Rows

/-! ### places -/
/-- the place that an index of any sign means -/
def ixN (n : Nat) (i : Int) : Option Nat := if 0 ≤ i then (if i < n then some i.toNat else none) else if -(n : Int) ≤ i then some (i + n).toNat else none
def atI {α : Type} (xs : List α) (i : Int) : Option α := (ixN xs.length i).bind fun j => xs[j]?
theorem ixN_seq {n : Nat} {i : Int} {j : Nat} (h : ixN n i = some j) : seqIndex? i n = some j ∧ j < n ∧ -(n : Int) ≤ i ∧ i < n := by
  unfold ixN at h
  by_cases h0 : 0 ≤ i
  · rw [if_pos h0] at h
    by_cases h1 : i < n
    · rw [if_pos h1] at h
      have e : i.toNat = j := Option.some.inj h
      exact ⟨by rw [seqIndex_of h0 h1, e], by omega, by omega, h1⟩
    · rw [if_neg h1] at h; cases h
  · rw [if_neg h0] at h
    by_cases h1 : -(n : Int) ≤ i
    · rw [if_pos h1] at h
      have e : (i + n).toNat = j := Option.some.inj h
      exact ⟨by rw [seqIndex_neg (by omega) h1, e], by omega, h1, by omega⟩
    · rw [if_neg h1] at h; cases h
theorem atI_get {α : Type} {xs : List α} {i : Int} {v : α} (h : atI xs i = some v) : ∃ j, seqIndex? i xs.length = some j ∧ xs[j]? = some v ∧ j < xs.length ∧ -(xs.length : Int) ≤ i ∧ i < xs.length := by
  unfold atI at h
  cases e : ixN xs.length i with
  | none => rw [e] at h; cases h
  | some j =>
    rw [e] at h
    obtain ⟨h1, h2, h3, h4⟩ := ixN_seq e
    exact ⟨j, h1, h, h2, h3, h4⟩
theorem atI_nat {α : Type} {xs : List α} {j : Nat} {v : α} (h : xs[j]? = some v) : atI xs (j : Int) = some v := by
  have hj : j < xs.length := (List.getElem?_eq_some_iff.mp h).1
  have e : ixN xs.length (j : Int) = some j := by
    unfold ixN
    rw [if_pos (by omega), if_pos (by omega)]; simp
  unfold atI; rw [e]; exact h
/-! ### what may be subscripted -/
/-- what stands as an index of a plain subscript -/
def PlainIx (b : Expr) : Prop := ∀ o i, subscripted b false o i = operate [o, i] (getItem o i)
/-- a subscript by values -/
def IxR (X : Cx) (r : R2) : Prop :=
  ∀ (value slice : Expr) (pins : List (Addr × Obj)) (s : Shared) (σ : St) (H : Hp) (x y : V) (v u : Value) (Q : VK), Inv X pins σ H s → RelV x v → RelV y u → r x y H Q →
    subscripted slice false v u = operate [v, u] (getItem v u) → wpAny (model X.prog X.w) X.A (subscriptTail value slice v u) (EP X pins σ Q) X.xe s
/-- a call of a builtin's method by values: the receiver, the arguments -/
def MtR (X : Cx) (id : String) (r : V → List V → Hp → VK → Prop) : Prop :=
  ∀ (pins : List (Addr × Obj)) (s : Shared) (σ : St) (H : Hp) (x : V) (xs : List V) (v : Value) (us : List Value) (Q : VK), Inv X pins σ H s → RelV x v → Vals xs us → r x xs H Q →
    wpAny (model X.prog X.w) X.A (call (.builtin id) (v :: us)) (EP X pins σ Q) X.xe s
section
variable {X : Cx} {a b : Expr} {ta tb : TE} {pos : Pos}
/-- a[b] -/
theorem pe_ix {r : R2} (hr : IxR X r) (ha : PE X a ta) (hb : PE X b tb) (hs : PlainIx b) : PE X (.Subscript a b pos) (tOp r ta tb) := by
  intro pins s σ H Q I h
  exact Subscript_ (binT ha hb I h fun v u s2 x y H2 I2 rx ry q => hr a b pins s2 σ H2 x y v u Q I2 rx ry q (hs _ _))

def rIxL (K : PySem.W.Frag) : R2 := fun x y H Q => ∃ p xs i v, x = .ref p ∧ y = .int i ∧ SqL K H p xs ∧ atI xs i = some v ∧ Q v H
def rIxT (K : PySem.W.Frag) : R2 := fun x y H Q => ∃ p xs i v, x = .ref p ∧ y = .int i ∧ SqT K H p xs ∧ atI xs i = some v ∧ Q v H
theorem ix_list : IxR X (rIxL X.K) := by
  intro value slice pins s σ H x y v u Q I rx ry h hs
  obtain ⟨p, xs, i, z, rfl, rfl, hq, he, q⟩ := h
  cases rx
  obtain ⟨t, rfl⟩ := ry
  obtain ⟨its, r, pl, hz⟩ := I.list hq
  obtain ⟨j, h1, h2, h3, h4, h5⟩ := atI_get he
  obtain ⟨w, ew, rw'⟩ := r.get h2
  have hl := r.length
  have hn := line63
  have fin : EP X pins σ Q w s := ⟨z, H, I, rw', q⟩
  by_cases h0 : 0 ≤ i
  · have hj : i.toNat = j := by
      rw [seqIndex_of h0 h5] at h1
      exact Option.some.inj h1
    exact item_listR pl.isList h0 (by omega) (by rw [hj]; simpa using ew) fin hs
  · have hj : (i + (its.toArray.size : Int)).toNat = j := by
      rw [seqIndex_neg (by omega) h4] at h1
      rw [List.size_toArray, ← hl]
      exact Option.some.inj h1
    exact subscriptTail_builtinR (x := w) pl.isList.typeIs slot_list_getitem.lookup
      (wpAny_getItem_list_neg (Q := fun r s' => r = w ∧ EP X pins σ Q r s') pl.isList (by omega) (by rw [List.size_toArray] <;> omega) (by omega) (by rw [hj]; simpa using ew) ⟨rfl, fin⟩) hs
theorem ix_tup : IxR X (rIxT X.K) := by
  intro value slice pins s σ H x y v u Q I rx ry h hs
  obtain ⟨p, xs, i, z, rfl, rfl, hq, he, q⟩ := h
  cases rx
  obtain ⟨t, rfl⟩ := ry
  obtain ⟨its, r, pl, hz⟩ := I.tuple hq
  obtain ⟨j, h1, h2, h3, h4, h5⟩ := atI_get he
  obtain ⟨w, ew, rw'⟩ := r.get h2
  have hl := r.length
  have hn := line63
  have fin : EP X pins σ Q w s := ⟨z, H, I, rw', q⟩
  exact subscriptTail_builtinR (x := w) pl.typeIs slot_tuple_getitem.lookup
    (getItem_tuple (j := j) (Q := fun r s' => r = w ∧ EP X pins σ Q r s') pl (by omega) (by omega) (by rw [List.size_toArray, ← hl]; exact h1) (by simpa using ew) ⟨rfl, fin⟩) hs
/-! ### xs[i] = v, any sign -/
/-! ### slices -/
theorem slice_bounds (lo hi : Option Int) (n : Nat) : (sliceBounds lo hi none n).1 = ((HT.sIx n 0 lo : Nat) : Int) ∧ (sliceBounds lo hi none n).2.1 = ((HT.sIx n n hi : Nat) : Int) ∧ (sliceBounds lo hi none n).2.2 = 1 := by
  refine ⟨?_, ?_, rfl⟩
  · cases lo with
    | none => simp [sliceBounds, HT.sIx]
    | some i =>
      simp only [sliceBounds, HT.sIx, Option.getD_none, show (1 : Int) > 0 by decide, if_true]
      by_cases h : i < 0
      · simp only [h, if_true] <;> omega
      · simp only [h, if_false] <;> omega
  · cases hi with
    | none => simp [sliceBounds, HT.sIx]
    | some i =>
      simp only [sliceBounds, HT.sIx, Option.getD_none, show (1 : Int) > 0 by decide, if_true]
      by_cases h : i < 0
      · simp only [h, if_true] <;> omega
      · simp only [h, if_false] <;> omega
theorem slicePick_cut (its : List Value) (lo hi : Option Int) : slicePick its.toArray lo hi none = ((its.drop (HT.sIx its.length 0 lo)).take (HT.sIx its.length its.length hi - HT.sIx its.length 0 lo)).toArray := by
  obtain ⟨h1, h2, h3⟩ := slice_bounds lo hi its.toArray.size
  unfold slicePick
  rw [h1, h2, h3]
  simp only [sliceRange_one, pick_run, List.size_toArray] <;> rfl
/-- xs[lo:hi] of a list: a new list -/
def rSlL (K : PySem.W.Frag) : V → Option Int → Option Int → Hp → VK → Prop := fun x lo hi H Q => ∃ a xs, x = .ref a ∧ SqL K H a xs ∧ ∀ p, H p = none → Q (.ref p) (upd H p (.lst (cutV xs lo hi)))
theorem sl_list : SlR X (rSlL X.K) := by
  intro pins s σ H x v vl vu lo hi sl Q I rx hs pl pu h
  obtain ⟨a, xs, rfl, hx, q⟩ := h
  cases rx
  obtain ⟨its, r, ht, hz⟩ := I.list hx
  have hlen := r.length
  refine ⟨"list", _, slot_list_getitem.lookup, ht.isList.typeIs, ?_⟩
  refine wpAny_getItem_list_slice ht.isList hs pl pu .none (by simp) ?_ (by rw [List.size_toArray] <;> omega)
  rw [slicePick_cut, ← hlen]
  refine ⟨.ref s.heap.objs.size, _, I.laid (t' := s.toks) (o := .lst (cutV xs lo hi)) (fun b ob q => Heap.get?_push_of_some _ q) (Nat.le_refl _) ?_, rfl, q _ (I.hok.fresh (Nat.le_refl _))⟩
  exact ⟨Nat.le_trans (cutV_length xs lo hi) hz, _, 0, (r.drop (HT.sIx xs.length 0 lo)).take (HT.sIx xs.length xs.length hi - HT.sIx xs.length 0 lo), Heap.get?_push_size _ rfl⟩

/-! ### in, not in: flat items -/
/-! ### len, list(x), tuple(x) of any list or tuple that is read -/
theorem call_list_of : CallR X (.type "list") (fun xs H Q => ∃ p ys, xs = [.ref p] ∧ (SqL X.K H p ys ∨ SqT X.K H p ys) ∧ ∀ l, H l = none → Q (.ref l) (upd H l (.lst ys))) := by
  intro pins s σ H xs us Q I r h
  obtain ⟨p, ys, rfl, hq, q⟩ := h
  obtain ⟨u, rfl, rx⟩ := vals1 r
  cases rx
  have fin : ∀ (its : List Value), Vals ys its → ys.length ≤ sizeLine → ∀ (h' : Heap) (c' : Nat), (∀ b o', s.heap.get? b = some o' → h'.get? b = some o') →
      h'.get? s.heap.objs.size = some { cls := .type "list", dict := none, data := .seq its.toArray c', slots := #[] } → EP X pins σ Q (.ref s.heap.objs.size) { s with heap := h' } := fun its r' hz h' c' kp e =>
    ⟨.ref s.heap.objs.size, _, I.laid (t' := s.toks) kp (Nat.le_refl _) (show ObjOk X.prog X.w _ h' _ (.lst ys) from ⟨hz, its, c', r', e⟩), rfl, q _ (I.hok.fresh (Nat.le_refl _))⟩
  rcases hq with hq | hq
  · obtain ⟨its, r', pl, hz⟩ := I.list hq
    have hlen := r'.length
    obtain ⟨o, ho, hc, n, hd⟩ := pl.isList
    exact call_list_seq p (.inl rfl) ho hc hd (fun h' c' kp e => fin its r' hz h' c' kp e) (by simp only [List.size_toArray] <;> omega)
  · obtain ⟨its, r', pl, hz⟩ := I.tuple hq
    have hlen := r'.length
    obtain ⟨o, ho, hc, n, hd⟩ := pl
    exact call_list_seq p (.inr rfl) ho hc hd (fun h' c' kp e => fin its r' hz h' c' kp e) (by simp only [List.size_toArray] <;> omega)
/-! ### the call of a builtin's method: o.m(..) -/
/-- the value is of that builtin type -/
def tyV (K : PySem.W.Frag) (T : String) (x : V) (H : Hp) : Prop := match x with
  | .str _ => T = "str"
  | .int _ => T = "int"
  | .ref p => (T = "list" ∧ ∃ xs, SqL K H p xs) ∨ (T = "tuple" ∧ ∃ o, K.lookup p = some o ∧ o.cls = .type "tuple" ∧ o.dict = none) ∨
      (T = "dict" ∧ ((∃ kvs, H p = some (.dK kvs)) ∨ ∃ kvs, H p = some (.dT kvs))) ∨ (T = "set" ∧ ∃ S n, H p = some (.set S n))
  | _ => False
theorem tyV_is {pins : List (Addr × Obj)} {σ : St} {H : Hp} {s : Shared} {T : String} {x : V} {v : Value} (I : Inv X pins σ H s) (r : RelV x v) (ty : tyV X.K T x H) :
    s.TypeIs v T ∧ ∀ a, v = .ref a → ∃ ob, s.heap.get? a = some ob ∧ ob.dict = none := by
  cases x with
  | str z =>
    obtain ⟨t, rfl⟩ := r
    cases (show T = "str" from ty)
    exact ⟨typeIs_str s z t, fun _ e => nomatch e⟩
  | int i =>
    obtain ⟨t, rfl⟩ := r
    cases (show T = "int" from ty)
    exact ⟨typeIs_int s i t, fun _ e => nomatch e⟩
  | ref p =>
    cases r
    rcases ty with ⟨rfl, xs, hq⟩ | ⟨rfl, o, hk, hc, hd⟩ | ⟨rfl, hk⟩ | ⟨rfl, S, n, hk⟩
    · obtain ⟨its, _, pl, _⟩ := I.list hq
      refine ⟨pl.isList.typeIs, fun a e => ?_⟩
      cases e
      obtain ⟨o, n, e, c, hd, _⟩ := pl
      exact ⟨o, e, hd⟩
    · refine ⟨⟨o, I.kIn p o hk, hc⟩, fun a e => ?_⟩
      cases e
      exact ⟨o, I.kIn _ o hk, hd⟩
    · have z : ∃ o, s.heap.get? p = some o ∧ o.ExactDict := by
        rcases hk with ⟨kvs, hk⟩ | ⟨kvs, hk⟩
        · obtain ⟨_, _, _, _, o, _, _, e, ex, _⟩ := I.hok p _ hk
          exact ⟨o, e, ex⟩
        · obtain ⟨_, _, _, _, o, _, _, e, ex, _⟩ := I.hok p _ hk
          exact ⟨o, e, ex⟩
      obtain ⟨o, e, ex⟩ := z
      refine ⟨⟨o, e, ex.1⟩, fun a e2 => ?_⟩
      cases e2
      exact ⟨o, e, ex.2.1⟩
    · obtain ⟨o, _, _, _, e, ex, _⟩ := I.hok p _ hk
      refine ⟨⟨o, e, ex.1⟩, fun a e2 => ?_⟩
      cases e2
      exact ⟨o, e, ex.2.1⟩
  | _ => exact False.elim ty
def tBM (K : PySem.W.Frag) (T : String) (r : V → List V → Hp → VK → Prop) (to : TE) (t : TA) : TE := fun σ H Q => to σ H fun x H1 => tyV K T x H1 ∧ t σ H1 fun xs H2 => r x xs H2 Q
variable {o e : Expr} {es : List Expr} {to : TE} {t : TA} {name : Str} {apos cpos : Pos} {T id : String} {r : V → List V → Hp → VK → Prop}
theorem pe_bm (pa : PlainAttrs T) (slot : Slot T name id) (hty : typeOf (.builtin id) = pure (.type "method_descriptor")) (hm : MtR X id r) (ho : PE X o to) (ha : PA X (e :: es) t)
    (hbase : attributeBase o name X.env (eval o X.env) = eval o X.env := by rfl)
    (hfew : ((backTo cpos (starEach (e :: es) X.env)).all (fun x => !x.1) && (backToKw cpos (keywordEach [] X.env)).all (fun x => x.1.isSome)
      && decide ((e :: es).length + ([] : List Keyword).length + (if ([] : List Keyword).isEmpty then 0 else 1) < 30)) = true := by rfl)
    (hline : (apos.endLine == cpos.line) = true := by rfl) (hs : starEach (e :: es) X.env = (false, eval e X.env) :: starEach es X.env := by rfl) (hplain : (backTo cpos (starEach es X.env)).any (·.1) = false := by rfl) :
    PE X (.Call (.Attribute o name apos) (e :: es) [] cpos) (tBM X.K T r to t) := by
  intro pins s σ H Q I h
  refine wpAny_Call_method_late hbase hfew hline rfl (thn (ho pins s σ H _ I h) fun v s1 ⟨x, H1, I1, r1, ty, q1⟩ => ?_)
  obtain ⟨h1, h2⟩ := tyV_is I1 r1 ty
  refine ⟨T, id, pa, slot, hty, h1, h2, ?_⟩
  have hA := ha cpos pins s1 σ H1 _ I1 q1
  rw [hs] at hA ⊢
  refine Calls.callWith_builtin (by show (false || (backTo cpos (starEach es X.env)).any (·.1)) = false; rw [hplain] <;> rfl) (Calls.evalArgs_plain ?_)
  exact thn hA fun us s2 ⟨vs, H2, I2, r2, q2⟩ => hm pins s2 σ H2 x vs v us Q I2 r1 r2 q2
/- xs.append(e), list.index on a module's tuple .. are MtR facts of 06m -/
end
end L2

namespace L2
open PySem PySem.Spec PyProof.Rows

def MtM (X : Cx) (id : String) (r : V → List V → Hp → VK → Prop) : Prop :=
  ∀ (pins : List (Addr × Obj)) (s : Shared) (σ : St) (H : Hp) (x : V) (xs : List V) (v : Value) (us : List Value) (Q : VK), Inv X pins σ H s → RelV x v → Vals xs us → r x xs H Q →
    wpAny (model X.prog X.w) X.A (call (.builtin id) (v :: us)) (EP X pins σ Q) X.xe s

/-! ### lists of values -/
theorem Vals.one : ∀ {x : V} {us : List Value}, Vals [x] us → ∃ u, us = [u] ∧ RelV x u
  | _, _, .cons r .nil => ⟨_, rfl, r⟩
theorem Vals.rep {xs : List V} {us : List Value} (h : Vals xs us) : ∀ k : Nat, Vals (List.replicate k xs).flatten (List.replicate k us).flatten
  | 0 => .nil
  | k + 1 => by
    rw [List.replicate_succ, List.replicate_succ, List.flatten_cons, List.flatten_cons]
    exact Vals.append h (Vals.rep h k)
theorem foldl_rep (its : List Value) : ∀ (k : Nat) (acc : List Value),
    List.foldl (fun x1 x2 => x1 ++ x2) acc.toArray (List.replicate k its.toArray) = (acc ++ (List.replicate k its).flatten).toArray
  | 0, acc => by simp
  | k + 1, acc => by
    have e : acc.toArray ++ its.toArray = (acc ++ its).toArray := by simp
    have e2 : (acc ++ its) ++ (List.replicate k its).flatten = acc ++ (List.replicate (k + 1) its).flatten := by
      rw [List.replicate_succ, List.flatten_cons, List.append_assoc]
    rw [← e2, ← foldl_rep its k (acc ++ its), ← e, List.replicate_succ, List.foldl_cons]

section
variable {X : Cx} {pins : List (Addr × Obj)} {σ : St} {H : Hp} {s : Shared} {l b : Addr} {xs ys zs : List V}

/-! ### the two steps: a tracked list is rewritten, a new list is laid -/
theorem Inv.lset {its its' : List Value} {n : Nat} {f : Array Value → Array Value} {t' : Nat} (I : Inv X pins σ H s) (hH : H l = some (.lst xs))
    (e : s.heap.get? l = some { cls := .type "list", data := .seq its.toArray n }) (hf : f its.toArray = its'.toArray) (hv : Vals ys its') (hz : ys.length ≤ sizeLine) :
    Inv X pins σ (upd H l (.lst ys)) { s with heap := s.heap.update l (Obj.mapSeq f), toks := t' } := by
  have q := PySem.IsL.update e f
  rw [hf] at q
  refine I.write (x := l) (e := l) (by rw [hH]; exact trivial) (.inl rfl) (fun b' u hb hu => (Heap.get?_update_other s.heap (Obj.mapSeq f) (Ne.symm hb)).trans hu) ⟨_, q⟩ ?_
  exact ⟨hz, its', _, hv, q⟩
theorem Inv.lnew {its : List Value} {t' : Nat} (I : Inv X pins σ H s) (hv : Vals ys its) (hz : ys.length ≤ sizeLine) :
    Inv X pins σ (upd H s.heap.objs.size (.lst ys)) { s with heap := s.heap.push { cls := .type "list", data := .seq its.toArray }, toks := t' } :=
  I.laid (fun _ _ q => Heap.get?_push_of_some _ q) (Nat.le_refl _) ⟨hz, its, 0, hv, Heap.get?_push_size _ rfl⟩
theorem Inv.fresh (I : Inv X pins σ H s) : H s.heap.objs.size = none := I.hok.fresh (Nat.le_refl _)
theorem Inv.lstM (I : Inv X pins σ H s) (hH : H l = some (.lst xs)) : xs.length ≤ sizeLine ∧ ∃ (its : List Value) (n : Nat), Vals xs its ∧ xs.length = its.length ∧ s.heap.get? l = some { cls := .type "list", data := .seq its.toArray n } := by
  obtain ⟨z, its, n, r, e⟩ := I.hok l _ hH
  exact ⟨z, its, n, r, r.length, e⟩

theorem notLongL {n : Nat} (h : n ≤ sizeLine) : Builtin.List.listTooLong n = false := by
  unfold Builtin.List.listTooLong
  exact decide_eq_false (by omega)
end

section
variable {X : Cx}

/-! ### methods -/
def rAppend : V → List V → Hp → VK → Prop := fun x vs H Q => ∃ l xs y, x = .ref l ∧ vs = [y] ∧ H l = some (.lst xs) ∧ xs.length < sizeLine ∧ Q .non (upd H l (.lst (xs ++ [y])))
theorem mt_append : MtM X "list.append" rAppend := by
  intro pins s σ H x vs v us Q I rx rv h
  obtain ⟨l, xs, y, rfl, rfl, hH, hz, q⟩ := h
  cases rx
  obtain ⟨u, rfl, ru⟩ := rv.one
  obtain ⟨z, its, n, r, hl, e⟩ := I.lstM hH
  refine call_meets F.slot_list_append ⟨_, e, rfl⟩ F.entry_list_append (F.args_list_append_2 _ _) (PySem.list_append l its.toArray n u (by rw [List.size_toArray]; omega)) ⟨e, ?_⟩
  refine ⟨.non, _, I.lset (its' := its ++ [u]) hH e (by simp) (r.append (.cons ru .nil)) ?_, rfl, q⟩
  rw [List.length_append, List.length_singleton]
  omega

/-! ### list + list, list += list, list * int -/
def rCat : R2 := fun x y H Q => ∃ l b xs zs, x = .ref l ∧ y = .ref b ∧ H l = some (.lst xs) ∧ H b = some (.lst zs) ∧ xs.length + zs.length ≤ sizeLine ∧ ∀ p, H p = none → Q (.ref p) (upd H p (.lst (xs ++ zs)))
theorem op_cat : OpR X (binaryOp .Add) rCat := by
  intro pins s σ H x y v u Q I rx ry h
  obtain ⟨l, b, xs, zs, rfl, rfl, hH, hB, hz, q⟩ := h
  cases rx
  cases ry
  obtain ⟨z, its, n, r, hl, e⟩ := I.lstM hH
  obtain ⟨z2, its2, n2, r2, hl2, e2⟩ := I.lstM hB
  refine PySem.P.add_list e e2 ?_ (by rw [List.size_toArray, List.size_toArray]; omega)
  have ea : its.toArray ++ its2.toArray = (its ++ its2).toArray := by simp
  rw [ea]
  exact ⟨.ref _, _, I.lnew (t' := s.toks) (r.append r2) (by rw [List.length_append]; omega), rfl, q _ I.fresh⟩
/-- a list times an int (a negative one is nothing) -/
def rRep : R2 := fun x y H Q => ∃ l k xs, x = .ref l ∧ y = .int k ∧ H l = some (.lst xs) ∧ -(2 ^ 63) ≤ k ∧ k < 2 ^ 63 ∧ xs.length * k.toNat ≤ sizeLine ∧
  ∀ p, H p = none → Q (.ref p) (upd H p (.lst (List.replicate k.toNat xs).flatten))
theorem len_rep {α : Type} (xs : List α) (k : Nat) : (List.replicate k xs).flatten.length = k * xs.length := by
  induction k with
  | zero => simp
  | succ k ih => rw [List.replicate_succ, List.flatten_cons, List.length_append, ih, Nat.succ_mul, Nat.add_comm]
theorem op_rep : OpR X (binaryOp .Mult) rRep := by
  intro pins s σ H x y v u Q I rx ry h
  obtain ⟨l, k, xs, rfl, rfl, hH, h1, h2, hz, q⟩ := h
  cases rx
  obtain ⟨t, rfl⟩ := ry
  obtain ⟨z, its, n, r, hl, e⟩ := I.lstM hH
  have hlen : its.toArray.size * k.toNat ≤ sizeLine := by rw [List.size_toArray, ← hl]; exact hz
  have hcap : ¬ its.toArray.size * k.toNat > (2 ^ 63 - 1) / 8 := by
    have : (sizeLine : Nat) ≤ (2 ^ 63 - 1) / 8 := by decide
    omega
  have hfit : ¬ (!Builtin.List.listFitsIndex k) = true := by
    rw [fitsIndex_both h1 h2]
    exact Bool.false_ne_true
  have hlong : ¬ Builtin.List.listTooLong (its.toArray.size * k.toNat) = true := by
    rw [notLongL hlen]
    exact Bool.false_ne_true
  have hnew : List.foldl (fun x1 x2 => x1 ++ x2) #[] (List.replicate (if its.toArray.isEmpty = true then 0 else k.toNat) its.toArray) = (List.replicate k.toNat its).flatten.toArray := by
    have f0 : ∀ m : Nat, List.foldl (fun x1 x2 => x1 ++ x2) #[] (List.replicate m its.toArray) = (List.replicate m its).flatten.toArray := fun m => by
      have := foldl_rep its m []
      rw [List.nil_append] at this
      exact this
    rw [f0]
    cases its with
    | nil => simp
    | cons a r' => rw [if_neg (by simp)]
  refine wpAny_binaryOp_repeat_ref (T := "list") (U := "int") (by decide) ⟨_, e, rfl⟩ (fun s' => typeIs_int s' k t) noFill_list_mul F.fills_int_mul F.slot_int_rmul repeat_list F.slot_int_index.lookup
    (call_meets F.slot_int_rmul (typeIs_int s k t) F.entry_int_rmul (F.args_int_rmul_2 _ _) (int___rmul___int_list k t l its.toArray n)
      ⟨e, rfl, ⟨_, e, rfl⟩, call_meets F.slot_list_mul ⟨_, e, rfl⟩ F.entry_list_mul (F.args_list_mul_2 _ _) (AutoListH.list___mul___list_int_3 l its.toArray n k t hfit hcap hlong) ⟨e, ?_⟩⟩)
  rw [hnew]
  exact ⟨.ref _, _, I.lnew (t' := s.toks) (r.rep k.toNat) (by rw [len_rep, Nat.mul_comm]; exact hz), rfl, q _ I.fresh⟩

/-! ### del xs[i] -/
end

/-! ### xs[a:b] = ys -/
section
end

section
end
end L2

namespace L2
open PySem PySem.Spec PyProof.Rows

/-! ### lists of pairs as tables -/
section
end


/-! ### a tracked dict, its keys ints and texts or tuples of these -/
section
end

section
end

section
end


/-! ### readings and rules -/
section
end


/-! ### displays -/
section
end

/-! ### methods -/
section
end

section
end

/-! ### dict(d): a copy -/
section
end


section
end
end L2

namespace Att
open PySem PySem.W PySem.Calls PyProof.Rows

/-! ### the script -/
theorem ints_of_wellAll {P : Params} {h : Heap} : ∀ (ns : List Int) (vs : List Value), WellAll P h vs (ns.map WData.int) → IntsAre vs ns := by
  intro ns
  induction ns with
  | nil =>
    intro vs w
    rw [List.map_nil] at w
    cases w
    exact .nil
  | cons n ns ih =>
    intro vs w
    rw [List.map_cons] at w
    cases w with
    | cons a b =>
      cases a
      exact .cons _ _ (ih _ b)

theorem script_of {l : OpenLaw} {n : Nat} (hn : l.most = some n) {P : Params} {h : Heap} {args : List WData} {vals : List Value}
    (hpre : l.row.toRowW.claim.pre args = true) (hwl : WellAll P h vals args) :
    ∃ a vs ns, vals = [Value.ref a] ∧ args = [WData.list (ns.map WData.int)] ∧ h.get? a = some { cls := .type "list", data := .seq vs.toArray } ∧ IntsAre vs ns ∧ ns.length ≤ n := by
  have hsh : WShape.hasAll [] args [.list .int] = true := (pre_splitW hpre).1
  have hc : l.pre.holds [] { args := args } = true := (pre_splitW hpre).2
  obtain ⟨d, r, rfl, h1, h2⟩ := hasAllW_cons hsh
  obtain rfl := hasAllW_nil h2
  obtain ⟨xs, rfl, h3⟩ := hasW_list h1
  obtain ⟨ns, rfl⟩ := items_int h3
  have hlen : ns.length ≤ n := by
    unfold OpenLaw.pre at hc
    have h4 : (WTm.not (.lt (.lit (.int (n : Int))) (.len (.arg 0)))).holds [] { args := [.list (ns.map .int)] } = true := by
      have h4 := (holds_andW hc).1
      rw [hn] at h4
      exact h4
    have h5 := condW_of h4 (w_not (w_lt w_lit (w_len_list (w_arg rfl))))
    rw [List.length_map] at h5
    refine Nat.le_of_not_lt fun q => ?_
    have q' : (n : Int) < ((ns.length : Nat) : Int) := by omega
    first
      | (rw [decide_eq_true q'] at h5; exact absurd h5 (by decide))
      | (simp at h5; omega)
  cases hwl with
  | cons w1 w2 =>
    cases w2
    cases w1 with
    | list ho hall => exact ⟨_, _, ns, rfl, rfl, ho, ints_of_wellAll ns _ hall, hlen⟩

theorem post_true (l : OpenLaw) (args : List WData) : l.row.toRowW.claim.post args (.bool true) args = true :=
  postW_of (r := l.row.toRowW) (X := (true == true))
    (show WShape.has [] (.bool true) .bool = true by first | rfl | decide | simp [WShape.has, WShape.arms, WShape.armsAll])
    (show (WTm.eq .res (.lit (.bool true))).value [] { args := args, res := some (.bool true), after := args } = some (.bool (true == true)) from w_eq_bool (w_res rfl) w_lit) rfl

/-! ### the attachment: holds_open's last premise (the goal 'hc' behind k_head) from a wpAny of the law's body -/
/-- the same from a codeAny of the CALL (for a layer whose function contracts speak of calls) -/
theorem attach_call {l : OpenLaw} {n : Nat} {q : Program} {loose : List Str} {XP : (Str → Option Value) → Heap → Prop} {YP : World → Heap → Prop} {d : DefRec}
    (hn : l.most = some n) (hdf : d.params.defaults = [])
    (call : ∀ (w : World) (s₀ s₁ : Shared) (mg mb : Str → Option Value) (fa : Addr) (o : Obj) (pm cd doc : Value) (a : Addr) (vs : List Value) (ns : List Int),
      Ground q loose [] XP w s₀ mg mb s₁.heap → YP w s₁.heap →
      s₁.heap.get? fa = some o → o.data = .func (docDef d.name d.params d.body d.scope pm cd doc) → s₁.heap.CodeRec cd d.name → mg d.name = some (.ref fa) →
      s₁.heap.get? a = some { cls := .type "list", data := .seq vs.toArray } → IntsAre vs ns → ns.length ≤ n → s₁.gens = #[] →
      codeAny (model l.prog w) callerA (.call (.ref fa) ⟨[.ref a], []⟩) (fun r s' => r = .ok (.ret (.bool true)) ∧ OldK s₁.heap s'.heap ∧ s'.os = s₁.os ∧ AllBare s'.gens) s₁) :
    WalkO q loose XP YP l.row.toRowW d [] (fun f vs => PySem.call f vs) := by
  intro w s₀ s₁ mg mb G Y fa o pm cd doc dV kV ho hd hcd hD hmg hg args vals as hpre hlay hrd hwl hlo
  obtain rfl : dV = .none := Dflts.none hD hdf
  obtain rfl : kV = .none := Dflts.noKw hD
  obtain ⟨a, vs, ns, rfl, rfl, hobj, hints, hlen⟩ := script_of hn hpre hwl
  refine enter_call (codeAny_mono (call w s₀ s₁ mg mb fa o pm cd doc a vs ns G Y ho (fd_plain hd) hcd hmg hobj hints hlen hg) fun r s' hq => ?_)
  obtain ⟨rfl, h2, h3, h4⟩ := hq
  exact ⟨.inl ⟨.bool true, .bool true, [], rfl, fun _ => rfl, .bool true, post_true l _, fun _ => ⟨List.Pairwise.nil, fun _ hm => (nomatch hm)⟩⟩, h2, h3, h4⟩

/-! ### rules over ANY heap (no ledger) from facts about the written part K: the library's own take a ledger (News) for what they write -/
section
/-! the whole heap as the ledger: makes every rule that writes through a ledger a rule over any heap -/
end
end Att

namespace L2
open PySem PySem.Spec PyProof.Rows

theorem vals_ints : ∀ {vs : List Value} {ns : List Int}, IntsAre vs ns → Vals (ns.map V.int) vs
  | _, _, .nil => .nil
  | _, _, .cons n t h => .cons ⟨t, rfl⟩ (vals_ints h)

end L2

namespace L2
open PySem PySem.Spec PyProof.Rows

end L2



/-! SHORT WORDS over the layer: a def of the text, its body, what a loop and a test want. -/
namespace L2
open PySem PySem.Spec PyProof.Rows

/-! ### the text by places -/
def defArgs (s : Stmt) : Arguments := match s with
  | .FunctionDef _ a _ _ _ _ _ _ _ _ => a
  | _ => { posonlyargs := [], args := [], vararg := none, kwonlyargs := [], kw_defaults := [], kwarg := none, defaults := [] }
def defBody (s : Stmt) : List Stmt := match s with
  | .FunctionDef _ _ b _ _ _ _ _ _ _ => b
  | _ => []
def defScope (s : Stmt) : Scope := match s with
  | .FunctionDef _ _ _ _ _ _ sc _ _ _ => sc
  | _ => { kind := .function, names := [], isGenerator := false, isCoroutine := false }

/-! ### no exception leaves a def -/
abbrev CX0 : CXT := fun _ _ _ _ _ _ => False
abbrev E0 : XK := fun _ _ _ => False
theorem pass0 {X : Cx} : Passes CX0 X E0 := fun _ _ _ _ _ _ _ h => h.elim

/-! ### a def (or method) of the text as it stands behind the top -/
structure Fun (K : PySem.W.Frag) (x qual : Str) (st : Stmt) (f : Addr) (fd : FuncData) : Prop where
  ex : ∃ (oc : Value) (od : Option Addr) (kV doc pm : Value) (an : Option Addr) (cdv ct : Value) (osl : Array (Option Value)),
    fd = PySem.W.fnOf x qual (defArgs st) (defBody st) (defScope st) .none kV doc pm an cdv ct ∧ K.lookup f = some ⟨oc, od, .func fd, osl⟩ ∧ PySem.W.codeIn K cdv qual = true
  kp : PySem.W.keepIn K (.ref f) = true
section
variable {P : Program} {w : World} {K : PySem.W.Frag} {mg : Str → Option Value} {base : Heap}
/-- THE RULE for a def: its body as a term of rules, and the reading of that term -/
theorem Fun.ok {x qual : Str} {st : Stmt} {f : Addr} {fd : FuncData} {N ps : List Str} {k : Nat} {sp : Sp} (F : Fun K x qual st f fd) (S : FnScope N ps (defScope st)) (len : ∀ vs H Q E, sp vs H Q E → vs.length = ps.length)
    (hbody : ∀ (cdv : Value) (A : Around) (outer : List Env) (s : Shared) (H : Hp) (vs : List V) (Q : VK) (E : XK), Room k (A.deeper (envOfC qual (defScope st) s.heap.objs.size f cdv)) → sp vs H Q E →
      ∃ t, PSs (cxOf CX0 P w K mg base N qual (defScope st) f cdv A outer s H E).nox (defBody st) t ∧ t { nx := fun _ H' => Q .non H', rt := Q } (start N vs) H) : FnOk P w K mg base CX0 (k + 1) f fd ps sp := by
  obtain ⟨oc, od, kV, doc, pm, an, cdv, ct, osl, rfl, lk, hcd⟩ := F.ex
  refine fn_of lk hcd S len fun A outer s H vs Q E hr hsp => ?_
  obtain ⟨t, h, q⟩ := hbody cdv A outer s H vs Q E hr hsp
  exact ⟨t, h.nox, q⟩
/-- how its arguments bind (no defaults): h is «fun _ _ _ _ _ _ us hl => match us, hl with | [_, _], _ => rfl», one _ a parameter -/
theorem Fun.binds {x qual : Str} {st : Stmt} {f : Addr} {fd : FuncData} {ps : List Str} (F : Fun K x qual st f fd)
    (h : ∀ (kV doc pm : Value) (an : Option Addr) (cdv ct : Value) (us : List Value), us.length = ps.length → bindArgs (PySem.W.fnOf x qual (defArgs st) (defBody st) (defScope st) .none kV doc pm an cdv ct) ⟨us, []⟩ = pure (ps.zip us)) : Binds K fd ps [] := by
  obtain ⟨oc, od, kV, doc, pm, an, cdv, ct, osl, rfl, lk, hcd⟩ := F.ex
  exact .all (h kV doc pm an cdv ct)
theorem fun_mk {x qual : Str} {st : Stmt} {f : Addr} {oc : Value} {od an : Option Addr} {osl : Array (Option Value)} {kV doc pm cdv ct : Value} (l : K.lookup f = some ⟨oc, od, .func (PySem.W.fnOf x qual (defArgs st) (defBody st) (defScope st) .none kV doc pm an cdv ct), osl⟩)
    (c : PySem.W.codeIn K cdv qual = true) (k : PySem.W.keepIn K (.ref f) = true) : Fun K x qual st f (PySem.W.fnOf x qual (defArgs st) (defBody st) (defScope st) .none kV doc pm an cdv ct) := ⟨⟨oc, od, kV, doc, pm, an, cdv, ct, osl, rfl, l, c⟩, k⟩
end
/-! ### expressions in short: the name that stands in the i-th slot -/
section
variable {X : Cx}
theorem pv (i : Nat) {x : Str} {pos : Pos} (hN : X.N[i]? = some x := by rfl) (hv : Vis X.env.scope x := by first | exact Or.inl rfl | exact Or.inr (Or.inl rfl) | exact Or.inr (Or.inr rfl)) (hd : (x == ("__debug__" : Str)) = false := by decide)
    (hcd : (x == ("__classdict__" : Str)) = false := by decide) : PE X (.Name x pos) (tVar i) := pe_var hN hv hd hcd
end

/-! ### tests -/
theorem iteF {A B : Prop} (h : B) : if false = true then A else B := by
  rw [if_neg Bool.false_ne_true]
  exact h
theorem iteT {A B : Prop} (h : A) : if true = true then A else B := by
  rw [if_pos rfl]
  exact h
theorem ite2 {c A B : Prop} [Decidable c] (h1 : c → A) (h2 : ¬ c → B) : if c then A else B := by
  by_cases h : c
  · rw [if_pos h]
    exact h1 h
  · rw [if_neg h]
    exact h2 h
/-! ### heaps -/
/-- all that was tracked is as it was -/
def Same (H H' : Hp) : Prop := ∀ b o, H b = some o → H' b = some o
theorem Same.refl (H : Hp) : Same H H := fun _ _ h => h
theorem Same.trans {H H1 H2 : Hp} (a : Same H H1) (b : Same H1 H2) : Same H H2 := fun c o h => b c o (a c o h)
theorem Same.free {H H' : Hp} (e : Same H H') {l : Addr} (h : H' l = Option.none) : H l = Option.none := by
  cases q : H l with
  | none => rfl
  | some o =>
    rw [e l o q] at h
    cases h
theorem Same.seq {K : PySem.W.Frag} {H H' : Hp} {a : Addr} {xs : List V} (e : Same H H') (h : SqL K H a xs) : SqL K H' a xs := by
  rcases h with (h | ⟨o, h⟩) | h
  · exact .inl (.inl (e _ _ h))
  · exact .inl (.inr ⟨o, e _ _ h⟩)
  · exact .inr h

end L2


namespace L2
open PySem PySem.Spec PyProof.Rows
section
end
/-! ### a dict's pairs: keys that differ -/
section
end
end L2


set_option Elab.async false
set_option linter.all false
set_option maxRecDepth 100000
/-! Comprehensions of one clause over the layer: a block of its own, with the cells that it takes from around it. -/
namespace L2
open PySem PySem.Spec PyProof.Rows

def clOf (env : Env) : List (Str × NameKind) → List (Str × Addr) → List (Str × Addr)
  | [], acc => acc
  | (n, k) :: r, acc => if (k == NameKind.free) = true then clOf env r ((n, (env.cells.lookup n).getD 0) :: acc) else clOf env r acc

theorem clOf_lookup {env : Env} {x : Str} : ∀ (l : List (Str × NameKind)) (acc : List (Str × Addr)),
    (clOf env l acc).lookup x = if (l.any fun p => (p.1 == x) && (p.2 == NameKind.free)) = true then some ((env.cells.lookup x).getD 0) else acc.lookup x
  | [], acc => by simp [clOf]
  | (n, k) :: r, acc => by
    unfold clOf
    by_cases hk : (k == NameKind.free) = true
    · rw [if_pos hk, clOf_lookup r]
      by_cases hr : (r.any fun p => (p.1 == x) && (p.2 == NameKind.free)) = true
      · rw [if_pos hr, if_pos]
        rw [List.any_cons, hr, Bool.or_true]
      · rw [if_neg hr]
        have hr' : (r.any fun p => (p.1 == x) && (p.2 == NameKind.free)) = false := (Bool.not_eq_true _).mp hr
        rw [List.any_cons, hr', Bool.or_false, hk, Bool.and_true, List.lookup_cons]
        by_cases hn : n = x
        · subst hn
          simp
        · have h1 : (n == x) = false := by simpa using hn
          have h2 : (x == n) = false := by simpa using fun z => hn (Eq.symm z)
          simp [h1, h2]
    · rw [if_neg hk, clOf_lookup r]
      have hk' : (k == NameKind.free) = false := by simpa using hk
      rw [List.any_cons, hk', Bool.and_false, Bool.false_or]

theorem closure_clOf {env : Env} {scope : Scope} (h : ∀ n k, (n, k) ∈ scope.names → (k == NameKind.free) = true → (env.cells.lookup n).isSome = true) : closureFor scope env = pure (clOf env scope.names []) := by
  have go : ∀ (l : List (Str × NameKind)) (acc : List (Str × Addr)), (∀ n k, (n, k) ∈ l → (k == NameKind.free) = true → (env.cells.lookup n).isSome = true) →
      (forIn l acc (fun (x : Str × NameKind) (r : List (Str × Addr)) => match x with
        | (name, kind) => if (kind == NameKind.free) = true then (do let a ← cellOf env name; pure (ForInStep.yield ((name, a) :: r))) else pure (ForInStep.yield r)) : Sem (List (Str × Addr))) = pure (clOf env l acc) := by
    intro l
    induction l with
    | nil => intro acc _; rfl
    | cons p r ih =>
      intro acc hp
      obtain ⟨n, k⟩ := p
      rw [List.forIn_cons]
      unfold clOf
      by_cases hk : (k == NameKind.free) = true
      · obtain ⟨c, hc⟩ := Option.isSome_iff_exists.mp (hp n k List.mem_cons_self hk)
        have hc1 : cellOf env n = pure c := by simp only [cellOf, hc]
        simp only [hk, if_true, hc1, hc, Option.getD_some]
        have := ih ((n, c) :: acc) (fun n' k' h' => hp n' k' (List.mem_cons_of_mem _ h'))
        simpa using this
      · simp only [hk, if_false]
        have := ih acc (fun n' k' h' => hp n' k' (List.mem_cons_of_mem _ h'))
        simpa using this
  have := go scope.names [] h
  simp only [closureFor]
  simpa using this

/-- what a comprehension's scope must be, beside the scope around it; cs: the names that it reads from around -/
def compOk (sc out : Scope) (xs : List Str) (cs : List Str) : Bool :=
  (sc.kind == .function) && (out.kind == .function) && sc.names.all (fun p => p.2 != NameKind.cell) && sc.names.all (fun p => p.2 != NameKind.local || sc.names.lookup p.1 == some .local) && xs.all (fun x => sc.names.lookup x == some .local)
    && sc.names.all (fun p => p.2 != NameKind.free || out.names.lookup p.1 == some .cell) && cs.all (fun c => sc.names.lookup c == some .free)

structure CompOk (sc out : Scope) (xs : List Str) (cs : List Str) : Prop where
  kind : sc.kind = .function
  okind : out.kind = .function
  cell : ∀ y ∈ sc.names, y.2 ≠ .cell
  names : ∀ y ∈ sc.names, y.2 = .local → sc.names.lookup y.1 = some .local
  x : ∀ x ∈ xs, sc.names.lookup x = some .local
  free : ∀ n k, (n, k) ∈ sc.names → k = .free → out.names.lookup n = some .cell
  cs : ∀ c ∈ cs, sc.names.lookup c = some .free
theorem compOk.mk {sc out : Scope} {xs : List Str} {cs : List Str} (h : compOk sc out xs cs = true) : CompOk sc out xs cs := by
  unfold compOk at h
  simp only [Bool.and_eq_true, List.all_eq_true, beq_iff_eq, bne_iff_ne, ne_eq, Bool.or_eq_true] at h
  obtain ⟨⟨⟨⟨⟨⟨h1, h2⟩, h3⟩, h4⟩, h5⟩, h6⟩, h7⟩ := h
  exact ⟨h1, h2, h3, fun y hy hl => (h4 y hy).resolve_left fun z => z hl, h5, fun n k hm hk => (h6 (n, k) hm).resolve_left fun z => z hk, h7⟩

theorem relabel_free {sc : Scope} {env : Env} {n : Str} (hk : env.scope.kind = .function) (hout : env.scope.names.lookup n = some .cell) (h : sc.names.lookup n = some .free) : (relabel sc env).names.lookup n = some .cell := by
  unfold relabel
  have go : ∀ l : List (Str × NameKind), l.lookup n = some .free →
      (l.map fun (p : Str × NameKind) => if (p.2 == NameKind.free && env.scope.kind == .function && env.kindOf p.1 == some .cell) = true then (p.1, NameKind.cell) else (p.1, p.2)).lookup n = some .cell := by
    intro l
    induction l with
    | nil => intro h; simp at h
    | cons p r ih =>
      intro h
      obtain ⟨m, k⟩ := p
      rw [List.lookup_cons] at h
      cases hm : n == m with
      | true =>
        rw [hm] at h
        cases h
        have e : n = m := by simpa using hm
        subst e
        have hko : env.kindOf n = some .cell := hout
        rw [List.map_cons]
        simp [hk, hko]
      | false =>
        rw [hm] at h
        rw [List.map_cons]
        by_cases hc : (k == NameKind.free && env.scope.kind == .function && env.kindOf m == some .cell) = true
        · rw [if_pos hc, List.lookup_cons, hm]
          exact ih h
        · rw [if_neg hc, List.lookup_cons, hm]
          exact ih h
  exact go sc.names h

/-- the context of a comprehension's block -/
def cxComp (X : Cx) (xs : List Str) (capt : List Nat) (scope : Scope) (C : Addr) (s : Shared) (H : Hp) (ex : List Addr) : Cx :=
  { X with N := xs ++ capt.map (fun j => X.N.getD j ""), s₀ := s, H₀ := H, env := compEnvC scope (clOf X.env scope.names []) C X.env, outer := X.stack, ex := ex, fn := fun _ => false, pn := [] }

def PTs (X : Cx) (ifs : List Expr) (t : TT) : Prop :=
  ∀ (pins : List (Addr × Obj)) (s : Shared) (σ : St) (H : Hp) (Q : Bool → Hp → Prop), Inv X pins σ H s → t σ H Q →
    wpAny (model X.prog X.w) X.A (forIn ifs true fun c r => if r = true then do let ok ← isTrue c X.env (eval c X.env); pure (ForInStep.yield ok) else pure (ForInStep.yield r)) (TP X pins σ Q) X.xe s
def tYes : TT := fun _ H Q => Q true H
theorem pts_nil {X : Cx} : PTs X [] tYes := fun pins s σ H Q I h => by
  show wpAny _ _ (pure true) _ _ _
  exact wpAny_pure ⟨H, I, h⟩
/-- the loop of a comprehension, with the step between -/
theorem compLoop_own {prog : Program} {w : World} {A : Around} {R : Result → Shared → Prop} {s : Shared} {elt target iter : Expr} {ifs : List Expr} {scope : Scope} {pos : Pos} {it acc : Value} {env : Env} (I : Nat → Shared → Prop)
    (turn : ∀ n s, I n s → wpAny (model prog w) A (pyNext it) (fun r s₁ => match r with
      | none => R (.ok .next) s₁
      | some v => wpAny (model prog w) A (letOwnedTupleGo target it v) (fun _ s₁' => wpAny (model prog w) A (assign target env v) (fun _ s₂ =>
          wpAny (model prog w) A (forIn ifs true fun c r => if r = true then do let ok ← isTrue c env (eval c env); pure (ForInStep.yield ok) else pure (ForInStep.yield r)) (fun ok s₃ =>
            if ok = true then wpAny (model prog w) A (eval elt env) (fun x s₄ =>
              wpAny (model prog w) A (call (.builtin "list.append") [acc, x]) (fun _ s₅ => ∃ m, m < n ∧ I m s₅) (notedBy (model prog w) A env fun e s' => R (.error e) s') s₄) (notedBy (model prog w) A env fun e s' => R (.error e) s') s₃
            else ∃ m, m < n ∧ I m s₃) (notedBy (model prog w) A env fun e s' => R (.error e) s') s₂) (notedBy (model prog w) A env fun e s' => R (.error e) s') s₁') (notedBy (model prog w) A env fun e s' => R (.error e) s') s₁) (notedBy (model prog w) A env fun e s' => R (.error e) s') s)
    (n : Nat) (h : I n s) : codeAny (model prog w) A (.compLoop (.ListComp elt [⟨target, iter, ifs, 0⟩] scope pos) 0 it acc env) R s := by
  refine codeAny_loop rfl I (fun n s hI => ?_) n h
  show wpAny _ A ((compTurn (.ListComp elt [⟨target, iter, ifs, 0⟩] scope pos) 0 it acc env).onRaise (fun x => do noteFrame x env; theTreesLotGoes x)) _ _ s
  refine wpAny_noted ?_
  rw [compTurn_list]
  refine wpAny_bind (wpAny_standAt (wpAny_bind (wpAny_mono (turn n s hI) (fun r s₁ h₁ => ?_) fun _ _ h' => h')))
  cases r with
  | none => exact wpAny_pure h₁
  | some v =>
    refine wpAny_bind (wpAny_mono h₁ (fun _ s₁' h₁' => ?_) fun _ _ h' => h')
    refine wpAny_bind (wpAny_mono h₁' (fun _ s₂ h₂ => wpAny_bind (wpAny_mono h₂ (fun ok s₃ h₃ => ?_) fun _ _ h' => h')) fun _ _ h' => h')
    cases ok with
    | false => exact wpAny_pure ⟨rfl, h₃⟩
    | true =>
      exact wpAny_bind (wpAny_bind (wpAny_mono h₃ (fun x s₄ h₄ => wpAny_bind (wpAny_mono h₄ (fun _ s₅ h₅ => wpAny_pure (wpAny_pure ⟨rfl, h₅⟩)) fun _ _ h' => h')) fun _ _ h' => h'))

section
variable {X : Cx} {pins : List (Addr × Obj)} {σ : St} {H H2 : Hp} {s s2 : Shared} {xs : List Str} {capt : List Nat} {scope : Scope} {fp : List Addr}

abbrev emptyL : Obj := { cls := .type "list", dict := none, data := .seq ([] : List Value).toArray }
theorem Inv.stk_lt (I : Inv X pins σ H s) {b : Addr} (hb : s.heap.objs.size ≤ b) : b ∉ frs X.stack := fun z => by
  rcases List.mem_cons.mp (I.stkSub b z) with e | e
  · exact absurd (Nat.lt_of_lt_of_le I.lt hb) (by rw [e]; exact Nat.lt_irrefl _)
  · exact I.nofs hb e

/-- the block's context stands -/
theorem comp_cxok (I : Inv X pins σ H2 s2) (ok : CompOk scope X.env.scope xs (capt.map fun j => X.N.getD j "")) (hf : ∀ b ∈ fp, FpOk X pins H2 b) (hfo : ∀ b ∈ fp, ∃ o, s2.heap.get? b = some o) {HH : Heap} (eH : HH = s2.heap.push emptyL) :
    (cxComp X xs capt scope HH.objs.size { s2 with heap := HH } H2 (s2.heap.objs.size :: fp)).Ok := by
  have hsz : HH.objs.size = s2.heap.objs.size + 1 := by rw [eH, Heap.size_push]
  have look : ∀ y c, (clOf X.env scope.names []).lookup y = some c → X.env.cells.lookup y = some c := fun y c e => by
    rw [clOf_lookup] at e
    split at e
    · rename_i ha
      obtain ⟨p, hp, hq⟩ := List.any_eq_true.mp ha
      simp only [Bool.and_eq_true, beq_iff_eq] at hq
      obtain ⟨q1, q2⟩ := hq
      subst q1
      obtain ⟨c', hc'⟩ := I.ok.has p.1 (.inl (ok.free p.1 p.2 hp q2))
      rw [hc'] at e ⊢
      exact e
    · cases e
  have keep : ∀ b o, s2.heap.get? b = some o → HH.get? b = some o := fun b o e => by rw [eH]; exact Heap.get?_push_of_some _ e
  refine ⟨I.ok.mod, ok.kind, I.ok.glob, I.ok.blt, Nat.le_refl _, fun y z c h1 h2 => I.ok.inj y z c (look y c h1) (look z c h2), fun y hy => ?_, (fun y c h _ => nomatch h), I.ok.hd, I.ok.frames, .inl rfl, fun b hb => ?_, fun b o e => ?_, ?_, fun b o e hb => ?_, fun b hb => ?_, ?_, fun b hb => I.stkFree b hb⟩
  · -- each cell's name has its cell
    have hy' : (relabel scope X.env).names.lookup y = some .cell ∨ (relabel scope X.env).names.lookup y = some .free := hy
    have inn : ∀ (l : List (Str × NameKind)) (k : NameKind), (∀ p ∈ l, p.2 ≠ .cell) → (k = .cell ∨ k = .free) →
        (l.map fun (p : Str × NameKind) => if (p.2 == NameKind.free && X.env.scope.kind == .function && X.env.kindOf p.1 == some .cell) = true then (p.1, NameKind.cell) else (p.1, p.2)).lookup y = some k → ∃ p ∈ l, p.1 = y ∧ p.2 = .free := by
      intro l k hnc hkk
      induction l with
      | nil => intro h; simp at h
      | cons p r ih =>
        intro h
        obtain ⟨m, k'⟩ := p
        rw [List.map_cons] at h
        by_cases hc : (k' == NameKind.free && X.env.scope.kind == .function && X.env.kindOf m == some .cell) = true
        · rw [if_pos hc, List.lookup_cons] at h
          have hfree : k' = .free := by
            simp only [Bool.and_eq_true, beq_iff_eq] at hc
            exact hc.1.1
          cases hm : y == m with
          | true => exact ⟨(m, k'), List.mem_cons_self, by simpa using Eq.symm (by simpa using hm), hfree⟩
          | false =>
            rw [hm] at h
            obtain ⟨p, hp, q⟩ := ih (fun p hp => hnc p (List.mem_cons_of_mem _ hp)) h
            exact ⟨p, List.mem_cons_of_mem _ hp, q⟩
        · rw [if_neg hc, List.lookup_cons] at h
          cases hm : y == m with
          | true =>
            rw [hm] at h
            cases h
            rcases hkk with z | z
            · exact absurd z (hnc (m, k') List.mem_cons_self)
            · exact ⟨(m, k'), List.mem_cons_self, by simpa using Eq.symm (by simpa using hm), z⟩
          | false =>
            rw [hm] at h
            obtain ⟨p, hp, q⟩ := ih (fun p hp => hnc p (List.mem_cons_of_mem _ hp)) h
            exact ⟨p, List.mem_cons_of_mem _ hp, q⟩
    have hex : ∃ p ∈ scope.names, p.1 = y ∧ p.2 = .free := by
      rcases hy' with h | h
      · exact inn scope.names .cell ok.cell (.inl rfl) h
      · exact inn scope.names .free ok.cell (.inr rfl) h
    obtain ⟨p, hp, q1, q2⟩ := hex
    refine ⟨_, (clOf_lookup (env := X.env) scope.names []).trans (if_pos (List.any_eq_true.mpr ⟨p, hp, ?_⟩))⟩
    simp [q1, q2]
  · -- the records that turn are not the frame's
    rcases List.mem_cons.mp hb with z | z
    · subst z
      refine ⟨Nat.ne_of_lt (show s2.heap.objs.size < HH.objs.size by omega), fun y c e q => ?_⟩
      obtain ⟨v, hv⟩ := I.cell y c (look y c e)
      have := hv.lt
      rw [q] at this
      exact absurd this (Nat.lt_irrefl _)
    · obtain ⟨o, ho⟩ := hfo b z
      exact ⟨Nat.ne_of_lt (Nat.lt_of_lt_of_le (Heap.lt_size ho) (show s2.heap.objs.size ≤ HH.objs.size by omega)), fun y c e => (hf b z).2.2.2.2.1 y c (look y c e)⟩
  · obtain ⟨h1, h2⟩ := I.bs b o e
    exact ⟨keep b o h1, h2⟩
  · show X.base.objs.size ≤ HH.objs.size
    have h1 := I.ok.bsz
    have h2 := I.sz
    omega
  · -- the base's objects do not turn
    have h0 := (I.bs b o e).1
    rcases List.mem_cons.mp hb with z | z
    · subst z
      exact absurd (Heap.lt_size h0) (Nat.lt_irrefl _)
    · rcases (hf b z).2.2.2.1 with q | q
      · exact I.ok.noex b o e q
      · have h1 := (I.ok.bs b o e).1
        exact absurd (Nat.lt_of_lt_of_le (Heap.lt_size h1) q) (Nat.lt_irrefl _)
  · show b ∉ frs X.stack
    rcases List.mem_cons.mp hb with z | z
    · subst z
      exact I.stk_lt (Nat.le_refl _)
    · intro q
      rcases List.mem_cons.mp (I.stkSub b q) with e | e
      · exact (hf b z).2.1 e
      · exact (hf b z).2.2.1 e
  · show HH.FunFrames X.base X.stack
    exact Heap.FunFrames.of_keeps (fun b o e _ => ⟨o, keep b o e, rfl⟩) I.stack

/-- the block's first state -/
theorem comp_inv (I : Inv X pins σ H2 s2) (ok : CompOk scope X.env.scope xs (capt.map fun j => X.N.getD j "")) (hcap : ∀ j ∈ capt, j < X.N.length) (hf : ∀ b ∈ fp, FpOk X pins H2 b) (hfo : ∀ b ∈ fp, ∃ o, s2.heap.get? b = some o)
    {HH h1 : Heap} {t : Nat} {m : Str → Option Value} {oc : Obj} (eH : HH = s2.heap.push emptyL) (hns : h1.Ns HH.objs.size m) (hsb : Heap.SameBut HH.objs.size (HH.push oc) h1) :
    Inv (cxComp X xs capt scope HH.objs.size { s2 with heap := HH } H2 (s2.heap.objs.size :: fp)) [(s2.heap.objs.size, emptyL)] (List.replicate xs.length none ++ capt.map fun j => (σ[j]?).join) H2 { s2 with heap := h1, toks := t } := by
  have hsz : HH.objs.size = s2.heap.objs.size + 1 := by rw [eH, Heap.size_push]
  have look : ∀ y c, (clOf X.env scope.names []).lookup y = some c → X.env.cells.lookup y = some c := fun y c e => by
    rw [clOf_lookup] at e
    split at e
    · rename_i ha
      obtain ⟨p, hp, hq⟩ := List.any_eq_true.mp ha
      simp only [Bool.and_eq_true, beq_iff_eq] at hq
      obtain ⟨q1, q2⟩ := hq
      subst q1
      obtain ⟨c', hc'⟩ := I.ok.has p.1 (.inl (ok.free p.1 p.2 hp q2))
      rw [hc'] at e ⊢
      exact e
    · cases e
  have keep0 : ∀ b o, HH.get? b = some o → h1.get? b = some o := fun b o e => hsb.extBut b o (Nat.ne_of_lt (Heap.lt_size e)) (Heap.get?_push_of_some _ e)
  have keep : ∀ b o, s2.heap.get? b = some o → h1.get? b = some o := fun b o e => keep0 b o (by rw [eH]; exact Heap.get?_push_of_some _ e)
  have hD : h1.get? s2.heap.objs.size = some emptyL := keep0 _ _ (by rw [eH]; exact Heap.get?_push_size _ rfl)
  refine ⟨comp_cxok I ok hf hfo eH, rfl, I.bare, Un.kept keep0, ⟨m, hns, fun i y v h1' h2 h3 => ?_⟩, fun y c e => ?_, I.hok.fresh (show s2.heap.objs.size ≤ HH.objs.size by omega), fun y c e => I.freeC y c (look y c e), fun p hp => ?_, I.hok.kept keep, ?_⟩
  · by_cases hi : i < xs.length
    · have h2' : (List.replicate xs.length (none : Option V))[i]? = some (some v) := by
        rw [← List.getElem?_append_left (l₂ := capt.map fun j => (σ[j]?).join) (by simpa using hi)]
        exact h2
      rw [List.getElem?_replicate_of_lt hi] at h2'
      cases h2'
    · have h1'' : (capt.map fun j => X.N.getD j "")[i - xs.length]? = some y := by
        rw [← List.getElem?_append_right (l₁ := xs) (by omega)]
        exact h1'
      have h2' : (capt.map fun j => (σ[j]?).join)[i - xs.length]? = some (some v) := by
        have q := List.getElem?_append_right (l₁ := List.replicate xs.length (none : Option V)) (l₂ := capt.map fun j => (σ[j]?).join) (i := i) (by simpa using hi)
        rw [List.length_replicate] at q
        rw [← q]
        exact h2
      rw [List.getElem?_map] at h1'' h2'
      cases hj : capt[i - xs.length]? with
      | none => rw [hj] at h1''; cases h1''
      | some j =>
        rw [hj] at h1'' h2'
        have ey : X.N.getD j "" = y := by simpa using h1''
        have ev : (σ[j]?).join = some v := by simpa using h2'
        have hjm : j ∈ capt := List.mem_of_getElem? hj
        have hjl := hcap j hjm
        have hN : X.N[j]? = some y := by
          rw [List.getD_eq_getElem?_getD, List.getElem?_eq_getElem hjl] at ey
          rw [List.getElem?_eq_getElem hjl]
          simpa using ey
        have hσ : σ[j]? = some (some v) := by
          cases e : σ[j]? with
          | none => rw [e] at ev; cases ev
          | some o => rw [e] at ev; have ev' : o = some v := ev; rw [ev']
        have hfr : scope.names.lookup y = some .free := ok.cs y (List.mem_map.mpr ⟨j, hjm, ey⟩)
        have hout : X.env.scope.names.lookup y = some .cell := ok.free y .free (PySem.mem_of_lookup hfr) rfl
        obtain ⟨mX, _, hl⟩ := I.loc
        obtain ⟨u, ru, lk⟩ := hl j y v hN hσ (.inr (.inl hout))
        refine ⟨u, ru, ?_⟩
        have hko : X.env.kindOf y = some .cell := hout
        rcases lk with ⟨z, _⟩ | ⟨_, c, hc, hcell⟩
        · rw [hko] at z; cases z
        · refine .inr ⟨.inl (relabel_free ok.okind hout hfr), c, ?_, hcell.keeps keep⟩
          show (clOf X.env scope.names []).lookup y = some c
          rw [clOf_lookup, if_pos (List.any_eq_true.mpr ⟨(y, .free), PySem.mem_of_lookup hfr, by simp⟩), hc]
          rfl
  · obtain ⟨v, hv⟩ := I.cell y c (look y c e)
    exact ⟨v, hv.keeps keep⟩
  · have hp' : p = (s2.heap.objs.size, emptyL) := by simpa [cxComp] using hp
    subst hp'
    refine ⟨hD, I.hok.fresh (Nat.le_refl _), Nat.ne_of_lt (show s2.heap.objs.size < HH.objs.size by omega), I.stk_lt (Nat.le_refl _), fun v z => by cases z⟩
  · show _ = (xs ++ capt.map fun j => X.N.getD j "").length
    simp

/-- W: a comprehension's invariant, by the turn, a measure, the items so far; N: what a turn is to reach; n slots of the target's, c what is taken from around -/
def CompG (J : It) (n : Nat) (c : St) (g : TG) (tt : TT) (te : TE) (H1 : Hp) (Fin : List V → Hp → Prop) : Prop :=
  ∃ W : Nat → Nat → List V → Hp → Prop, (∃ m, W 0 m [] H1) ∧ ∀ i m ys H, W i m ys H → (J.stop i H ∧ Fin ys H) ∨
    (J.go i H ∧ ys.length < sizeLine ∧ ∃ N : List V → Hp → Prop, (∀ ys' H', N ys' H' → ∃ m', m' < m ∧ W (i + 1) m' ys' H') ∧
      ∀ x H', J.yld i H x H' → ∀ os : St, os.length = n → g x (os ++ c) H' fun σ1 H1 => tt σ1 H1 fun b H2 => if b = true then te σ1 H2 fun y H3 => N (ys ++ [y]) H3 else N ys H2)
/-- the target writes its own slots alone -/
def Shp (n : Nat) (g : TG) : Prop := ∀ v (os c : St) H Q, os.length = n → g v (os ++ c) H Q → g v (os ++ c) H fun σ' H' => (∃ os' : St, os'.length = n ∧ σ' = os' ++ c) ∧ Q σ' H'
/-- the same, the target a name -/
def CompW (J : It) (S : V → St) (tt : TT) (te : TE) (H1 : Hp) (Fin : List V → Hp → Prop) : Prop :=
  ∃ W : Nat → Nat → List V → Hp → Prop, (∃ m, W 0 m [] H1) ∧ ∀ i m ys H, W i m ys H → (J.stop i H ∧ Fin ys H) ∨
    (J.go i H ∧ ys.length < sizeLine ∧ ∃ N : List V → Hp → Prop, (∀ ys' H', N ys' H' → ∃ m', m' < m ∧ W (i + 1) m' ys' H') ∧
      ∀ x H', J.yld i H x H' → tt (S x) H' fun b H2 => if b = true then te (S x) H2 fun y H3 => N (ys ++ [y]) H3 else N ys H2)
def tComp (capt : List Nat) (wi : TI) (tt : TT) (te : TE) : TE := fun σ H Q => wi σ H fun J H1 =>
  CompW J (fun x => some x :: capt.map fun j => (σ[j]?).join) tt te H1 fun ys H => ∀ l, H l = none → Q (.ref l) (upd H l (.lst ys))
theorem CompW.g {J : It} {c : St} {tt : TT} {te : TE} {H : Hp} {Fin : List V → Hp → Prop} (h : CompW J (fun x => some x :: c) tt te H Fin) : CompG J 1 c (gName 0) tt te H Fin := by
  obtain ⟨W, w0, st⟩ := h
  refine ⟨W, w0, fun i m ys H w => ?_⟩
  rcases st i m ys H w with q | ⟨go, hl, N, hN, step⟩
  · exact .inl q
  · refine .inr ⟨go, hl, N, hN, fun x H' y os hos => ?_⟩
    obtain ⟨o, rfl⟩ := List.length_eq_one_iff.mp hos
    exact step x H' y
theorem shp_name : Shp 1 (gName 0) := fun v os c H Q hos h => by
  obtain ⟨o, rfl⟩ := List.length_eq_one_iff.mp hos
  exact ⟨⟨[some v], rfl, rfl⟩, h⟩
/-- an untracked object becomes tracked -/
theorem HOk.track {P : Program} {w : World} {H : Hp} {h : Heap} {a : Addr} {o : HO} (k : HOk P w H h) (n : H a = none) (new : ObjOk P w (upd H a o) h a o) : HOk P w (upd H a o) h := fun b u e => by
  by_cases hb : b = a
  · subst hb; rw [upd_same] at e; cases e; exact new
  · rw [upd_ne hb] at e
    exact (k b u e).stay (fun _ _ _ q => q) (fun c q => by rw [upd_ne (ne_of_none q n)]; exact q) (fun c xs q => by rw [upd_ne (ne_of_none q n)]; exact q) fun c ob xs q => by rw [upd_ne (ne_of_none q n)]; exact q

theorem comp_block {elt iter tg : Expr} {g : TG} {ifs : List Expr} {pos : Pos} {tt : TT} {te : TE} {it : Addr} {tn : Nat → Heap → Prop} {J : It} {RR : Value → Addr → Result → Shared → Prop}
    (hx0 : ∀ e s, ¬ X.xe e s) (hc : X.calm = true) (ok : CompOk scope X.env.scope xs (capt.map fun j => X.N.getD j "")) (hcap : ∀ j ∈ capt, j < X.N.length) (hG : ∀ C s H ex, PG (cxComp X xs capt scope C s H ex) tg g) (hgs : Shp xs.length g)
    (hT : ∀ C s H ex, PTs (cxComp X xs capt scope C s H ex) ifs tt) (hE : ∀ C s H ex, PE (cxComp X xs capt scope C s H ex) elt te)
    (I2 : Inv X pins σ H2 s2) (T : Turn X.prog X.w X.K tg J fp it tn) (st2 : tn 0 s2.heap) (f2 : ∀ b ∈ fp, FpOk X pins H2 b)
    (Fin : List V → Hp → Prop) (hW : CompG J xs.length (capt.map fun j => (σ[j]?).join) g tt te H2 Fin)
    (hRR : ∀ D C s' ys H' oc, H' D = none → Fin ys H' → Inv X pins σ (upd H' D (.lst ys)) s' → s'.heap.get? C = some oc → (∃ m, s'.heap.Ns C m) → C ≠ D → H' C = none → C ≠ X.env.locals → C ∉ frs X.stack → X.s₀.heap.objs.size ≤ C → (∀ y c, X.env.cells.lookup y = some c → c ≠ C) → (∀ p ∈ X.pn ++ pins, p.1 ≠ C) →
      (∀ v, oc.data ≠ .cell v) → RR (.ref D) C (.ok .next) s') :
    wpAny (model X.prog X.w) X.A (newList []) (fun acc s₃ => wpAny (model X.prog X.w) X.A (newFunctionEnv scope X.env.globals (clOf X.env scope.names []) [] X.env.qual none .none (some X.env)) (fun cenv s₄ =>
      codeAny (model X.prog X.w) X.A (.compStart (.ListComp elt [⟨tg, iter, ifs, 0⟩] scope pos) 0 (.ref it) acc { cenv with scope := relabel scope X.env }) (RR acc cenv.locals) s₄) X.xe s₃) X.xe s2 := by
  refine wpAny_newObj_type (wpAny_newFunctionEnv ok.cell (by intro y hy; simp at hy) (fun h1 hns hsb => ?_) ok.kind)
  dsimp only at hns hsb ⊢
  generalize eH : s2.heap.push { cls := .type "list", dict := none, data := .seq ([] : List Value).toArray } = HH at hns hsb ⊢
  have eH' : HH = s2.heap.push emptyL := eH.symm
  have hsz : HH.objs.size = s2.heap.objs.size + 1 := by rw [eH', Heap.size_push]
  have hfo : ∀ b ∈ fp, ∃ o, s2.heap.get? b = some o := fun b hb => let ⟨o, ho, _⟩ := T.obj 0 _ st2 b hb; ⟨o, ho⟩
  have flt : ∀ b ∈ fp, b < s2.heap.objs.size := fun b hb => let ⟨o, ho⟩ := hfo b hb; Heap.lt_size ho
  have keep1 : ∀ b o, s2.heap.get? b = some o → h1.get? b = some o := fun b o e =>
    hsb.extBut b o (Nat.ne_of_lt (Nat.lt_of_lt_of_le (Heap.lt_size e) (show s2.heap.objs.size ≤ HH.objs.size by omega))) (Heap.get?_push_of_some _ (by rw [eH']; exact Heap.get?_push_of_some _ e))
  have I4 := comp_inv (t := s2.toks + ([] : List (Str × Value)).length) I2 ok hcap f2 hfo eH' hns hsb
  have st4 : tn 0 h1 := T.keep 0 _ _ st2 fun b _ o e => keep1 b o e
  obtain ⟨W, ⟨m0, w0⟩, turn⟩ := hW
  generalize hX : cxComp X xs capt scope HH.objs.size { s2 with heap := HH } H2 (s2.heap.objs.size :: fp) = Y at I4
  have eProg : Y.prog = X.prog := by rw [← hX]; rfl
  have eW : Y.w = X.w := by rw [← hX]; rfl
  have eK : Y.K = X.K := by rw [← hX]; rfl
  have eA : Y.A = X.A := by rw [← hX]; rfl
  have eEnv : Y.env = compEnvC scope (clOf X.env scope.names []) HH.objs.size X.env := by rw [← hX]; rfl
  have eXe : Y.xe = X.xe := by rw [← hX]; rfl
  have eCalm : Y.calm = true := by rw [← hX]; exact hc
  have ePn : Y.pn = [] := by rw [← hX]; rfl
  have eEx : Y.ex = s2.heap.objs.size :: fp := by rw [← hX]; rfl
  have eFs : Y.fs = frs X.stack := by rw [← hX]; rfl
  have hT' : PTs Y ifs tt := by rw [← hX]; exact hT _ _ _ _
  have hE' : PE Y elt te := by rw [← hX]; exact hE _ _ _ _
  have hG' : PG Y tg g := by rw [← hX]; exact hG _ _ _ _
  have eH0 : Y.H₀ = H2 := by rw [← hX]; rfl
  have eS0 : Y.s₀ = { s2 with heap := HH } := by rw [← hX]; rfl
  have eL : Y.env.locals = HH.objs.size := by rw [eEnv]; rfl
  have ecl : Y.env.cells = clOf X.env scope.names [] := by rw [eEnv]; rfl
  have look : ∀ y c, (clOf X.env scope.names []).lookup y = some c → X.env.cells.lookup y = some c := fun y c e => by
    rw [clOf_lookup] at e
    split at e
    · rename_i ha
      obtain ⟨p, hp, hq⟩ := List.any_eq_true.mp ha
      simp only [Bool.and_eq_true, beq_iff_eq] at hq
      obtain ⟨q1, q2⟩ := hq
      subst q1
      obtain ⟨c', hc'⟩ := I2.ok.has p.1 (.inl (ok.free p.1 p.2 hp q2))
      rw [hc'] at e ⊢
      exact e
    · cases e
  have fpOk : ∀ {pins' : List (Addr × Obj)} {H' : Hp}, (∀ b ∈ fp, H' b = none) → (∀ p ∈ pins', p.1 ∉ fp) → ∀ b ∈ fp, FpOk Y pins' H' b := fun {pins' H'} hn hp b hb => by
    have hlt := flt b hb
    refine ⟨hn b hb, by rw [eL]; exact Nat.ne_of_lt (Nat.lt_of_lt_of_le hlt (show s2.heap.objs.size ≤ HH.objs.size by omega)), ?_, .inl (by rw [eEx]; exact List.mem_cons_of_mem _ hb), fun y c e => (f2 b hb).2.2.2.2.1 y c (look y c (by rw [← ecl]; exact e)), fun p hpp z => ?_⟩
    · rw [eFs]
      intro q
      rcases List.mem_cons.mp (I2.stkSub b q) with e | e
      · exact (f2 b hb).2.1 e
      · exact (f2 b hb).2.2.1 e
    · rw [ePn, List.nil_append] at hpp
      exact hp p hpp (by rw [z]; exact hb)
  have Dnf : s2.heap.objs.size ∉ fp := fun z => absurd (flt _ z) (Nat.lt_irrefl _)
  have loop : codeAny (model X.prog X.w) X.A (.compLoop (.ListComp elt [⟨tg, iter, ifs, 0⟩] scope pos) 0 (.ref it) (.ref s2.heap.objs.size) Y.env) (RR (.ref s2.heap.objs.size) HH.objs.size) { s2 with heap := h1, toks := s2.toks + ([] : List (Str × Value)).length } := by
    refine compLoop_own (fun n s' => ∃ i ys its k os H', Inv Y [(s2.heap.objs.size, { cls := .type "list", data := .seq its.toArray k })] (os ++ capt.map fun j => (σ[j]?).join) H' s' ∧ os.length = xs.length ∧ Vals ys its ∧ ys.length ≤ sizeLine ∧ tn i s'.heap ∧ (∀ b ∈ fp, H' b = none) ∧ W i n ys H') ?_ m0
      ⟨0, [], [], 0, _, H2, I4, List.length_replicate, .nil, Nat.zero_le _, st4, fun b hb => (f2 b hb).1, w0⟩
    rintro n s3 ⟨i, ys, its, k, os, H3, I3, hos, rv, hys, st3, fr3, w3⟩
    have noErr : ∀ {e : Value} {s : Shared}, X.xe e s → notedBy (model X.prog X.w) X.A Y.env (fun e s' => RR (.ref s2.heap.objs.size) HH.objs.size (.error e) s') e s := fun {e s} z => (hx0 e s z).elim
    have pinD := I3.pin (s2.heap.objs.size, { cls := .type "list", data := .seq its.toArray k }) (by simp)
    have fp3 := fpOk (pins' := [(s2.heap.objs.size, { cls := .type "list", data := .seq its.toArray k })]) fr3 (by simpa using Dnf)
    rcases turn i n ys H3 w3 with ⟨stop, fin⟩ | ⟨go, hlt, N, hN, step⟩
    · -- it stops
      have d := T.done Y eProg eW eK eCalm i _ s3 _ H3 X.xe I3 fp3 st3 stop
      rw [eA] at d
      refine wpAny_mono d (fun r s4 ⟨hr, I4'⟩ => ?_) fun e s z => noErr z
      subst hr
      show RR (.ref s2.heap.objs.size) HH.objs.size (.ok .next) s4
      have pinD4 := I4'.pin (s2.heap.objs.size, { cls := .type "list", data := .seq its.toArray k }) (by simp)
      obtain ⟨mC, nsC, _⟩ := I4'.loc
      rw [eL] at nsC
      obtain ⟨oC, esC, epC, hoC, hdC, _⟩ := id nsC
      have base4 := I4'.base
      rw [eFs, eEx, eH0, eS0] at base4
      have hCn : H3 HH.objs.size = none := by rw [← eL]; exact I4'.free
      refine hRR s2.heap.objs.size HH.objs.size s4 ys H3 oC pinD4.2.1 fin ?_ hoC ⟨mC, nsC⟩ (Nat.ne_of_gt (show s2.heap.objs.size < HH.objs.size by omega)) hCn (Nat.ne_of_gt (Nat.lt_of_lt_of_le I2.lt (show s2.heap.objs.size ≤ HH.objs.size by omega))) (I2.stk_lt (by omega)) (by have := I2.sz; omega) (fun y c e z => ?_) (fun p hp z => ?_) (fun v z => by rw [hdC] at z; cases z)
      · have hok4 := I4'.hok
        rw [eProg, eW] at hok4
        have hbl : ∀ b ob, s2.heap.get? b = some ob → b ∉ fp → HH.get? b = some ob ∧ b ∉ s2.heap.objs.size :: fp := fun b ob e hm =>
          ⟨by rw [eH']; exact Heap.get?_push_of_some _ e, fun z => (List.mem_cons.mp z).elim (fun q => absurd (Heap.lt_size e) (by rw [q]; exact Nat.lt_irrefl _)) hm⟩
        refine I2.call' (ch := fp) (by rw [I4'.os, eS0]) ⟨fun b ob e nn hb hx => ?_, fun b ob e nn hb hx => ?_, fun b ob e nn hx => ?_, fun b ob e hx => ?_, fun b xs e => ?_, fun b ob u e => ?_, fun b pp qq e => ?_⟩ (HOk.track hok4 pinD4.2.1 ⟨hys, its, k, rv, pinD4.1⟩) I4'.bare fun b hb => ⟨(f2 b hb).2.2.2.1, (f2 b hb).2.1, (f2 b hb).2.2.2.2.1, (f2 b hb).2.2.2.2.2⟩
        · obtain ⟨h1', h2'⟩ := hbl b ob e hx
          exact base4.keep b ob h1' nn hb h2'
        · obtain ⟨h1', h2'⟩ := hbl b ob e hx
          exact base4.slot b ob h1' nn hb h2'
        · obtain ⟨h1', h2'⟩ := hbl b ob e hx
          rw [upd_ne (Nat.ne_of_lt (Heap.lt_size e))]
          exact base4.free b ob h1' nn h2'
        · obtain ⟨h1', h2'⟩ := hbl b ob e hx
          exact base4.there b ob h1' h2'
        · have q := base4.tups b xs e
          rw [upd_ne (ne_of_none q pinD4.2.1)]
          exact q
        · have q := base4.frzs b ob u e
          rw [upd_ne (ne_of_none q pinD4.2.1)]
          exact q
        · have q := base4.tbls b pp qq e
          rw [upd_ne (ne_of_none q pinD4.2.1)]
          exact q
      · obtain ⟨v, hv⟩ := I2.cell y c e
        have := hv.lt
        rw [z] at this
        exact absurd this (Nat.not_lt.mpr (show s2.heap.objs.size ≤ HH.objs.size by omega))
      · have := Heap.lt_size (I2.pin p hp).1
        rw [z] at this
        exact absurd this (Nat.not_lt.mpr (show s2.heap.objs.size ≤ HH.objs.size by omega))
    · -- one turn
      have d := T.item Y eProg eW eK eCalm i _ s3 _ H3 X.xe I3 fp3 st3 go
      rw [eA] at d
      refine wpAny_mono d (fun r s4 ⟨u, hr, h4⟩ => ?_) fun e s z => noErr z
      subst hr
      refine wpAny_mono h4 (fun _ s5 ⟨v, H5, I5, r5, y5, st5, fr5⟩ => ?_) fun e s z => noErr z
      have fp5 := fpOk (pins' := [(s2.heap.objs.size, { cls := .type "list", data := .seq its.toArray k })]) fr5 (by simpa using Dnf)
      have I5' := I5.pinned fp5 (T.obj _ _ st5)
      have pg' := hG' _ s5 _ H5 v u _ I5' r5 (hgs v os _ H5 _ hos (step v H5 y5 os hos))
      rw [eProg, eW, eA, eXe] at pg'
      refine wpAny_mono pg' (fun _ s6 ⟨σ6, H6, I6, ⟨os6, hos6, e6⟩, q6⟩ => ?_) fun e s z => noErr z
      subst e6
      have t6 := hT' _ s6 _ H6 _ I6 q6
      rw [eProg, eW, eA, eXe] at t6
      refine wpAny_mono t6 (fun b s7 ⟨H7, I7, q7⟩ => ?_) fun e s z => noErr z
      have ntn : ∀ {σ' : St} {H' : Hp} {s' : Shared}, Inv Y ([(s2.heap.objs.size, { cls := .type "list", data := .seq its.toArray k })] ++ pinsAt fp s5.heap) σ' H' s' → tn (i + 1) s'.heap ∧ ∀ b ∈ fp, H' b = none := fun {σ' H' s'} J' => by
        refine ⟨T.keep _ _ _ st5 fun b hb o e => (J'.pin (b, o) (List.mem_append_right _ (List.mem_append_right _ (mem_pinsAt hb e)))).1, fun b hb => ?_⟩
        obtain ⟨o, e, _⟩ := T.obj _ _ st5 b hb
        exact (J'.pin (b, o) (List.mem_append_right _ (List.mem_append_right _ (mem_pinsAt hb e)))).2.1
      cases b with
      | false =>
        rw [if_neg Bool.false_ne_true] at q7
        obtain ⟨m', hm, w7⟩ := hN _ _ q7
        rw [if_neg Bool.false_ne_true]
        exact ⟨m', hm, i + 1, ys, its, k, os6, H7, I7.unpinned, hos6, rv, hys, (ntn I7).1, (ntn I7).2, w7⟩
      | true =>
        rw [if_pos rfl] at q7
        rw [if_pos rfl]
        have e7 := hE' _ s7 _ H7 _ I7 q7
        rw [eProg, eW, eA, eXe] at e7
        refine wpAny_mono e7 (fun uy s8 ⟨y, H8, I8, r8, n8⟩ => ?_) fun e s z => noErr z
        obtain ⟨m', hm, w8⟩ := hN _ _ n8
        have pin8 := I8.pin (s2.heap.objs.size, { cls := .type "list", data := .seq its.toArray k }) (by simp)
        have hlen : ys.length = its.length := rv.length
        refine wpAny_list_append_plain (hsz := by rw [List.size_toArray]; omega) ⟨k, pin8.1⟩ fun h9 ⟨k9, hl9⟩ hs9 => ?_
        have hk9 : ∀ b o, b ≠ s2.heap.objs.size → s8.heap.get? b = some o → h9.get? b = some o := fun b o hb e => (hs9.2 b hb).trans e
        have I8u : Inv Y (pinsAt fp s5.heap) (os6 ++ capt.map fun j => (σ[j]?).join) H8 s8 := I8.pins_of fun p hp => I8.pin p (List.mem_append_right _ (List.mem_append_right _ hp))
        have I9 : Inv Y (pinsAt fp s5.heap) (os6 ++ capt.map fun j => (σ[j]?).join) H8 { s8 with heap := h9, toks := s8.toks } := I8u.turned (it := s2.heap.objs.size) hk9 pin8.2.1 (by rw [eL]; exact Nat.ne_of_lt (show s2.heap.objs.size < HH.objs.size by omega)) (.inl (by rw [eEx]; exact List.mem_cons_self))
          (fun y c e z => by
            rw [ecl] at e
            obtain ⟨v', hv⟩ := I2.cell y c (look y c e)
            have := hv.lt
            rw [z] at this
            exact absurd this (Nat.lt_irrefl _))
          (fun p hp z => by
            rw [ePn, List.nil_append] at hp
            exact Dnf (by rw [← z]; exact (of_pinsAt hp).1))
        have hl9' : h9.get? s2.heap.objs.size = some { cls := .type "list", data := .seq (its ++ [uy]).toArray k9 } := by
          rw [hl9]; simp
        refine ⟨m', hm, i + 1, ys ++ [y], its ++ [uy], k9, os6, H8, I9.pins_of fun p hp => ?_, hos6, rv.append (.cons r8 .nil), ?_, ?_, (ntn I8).2, w8⟩
        · have hp' : p = (s2.heap.objs.size, { cls := .type "list", data := .seq (its ++ [uy]).toArray k9 }) := by simpa using hp
          subst hp'
          exact ⟨hl9', pin8.2.1, pin8.2.2.1, pin8.2.2.2.1, fun v z => by cases z⟩
        · rw [List.length_append, List.length_singleton]; omega
        · refine T.keep _ _ _ (ntn I8).1 fun b hb o e => hk9 b o (fun z => Dnf (by rw [← z]; exact hb)) e
  rw [eEnv] at loop
  refine codeAny_compStart_list ?_ ?_
  · exact loop
  · exact T.self _ 0 _ _ _ st4 loop

theorem pe_comp {elt iter : Expr} {x : Str} {px : Pos} {ifs : List Expr} {pos : Pos} {wi : TI} {tt : TT} {te : TE} (capt : List Nat)
    (hx0 : ∀ e s, ¬ X.xe e s) (hc : X.calm = true) (hi : PI X (.Name x px) iter wi)
    (hT : ∀ C s H ex, PTs (cxComp X [x] capt scope C s H ex) ifs tt) (hE : ∀ C s H ex, PE (cxComp X [x] capt scope C s H ex) elt te)
    (hk : compOk scope X.env.scope [x] (capt.map fun j => X.N.getD j "") = true) (hcap : ∀ j ∈ capt, j < X.N.length) (hnd : (x :: capt.map fun j => X.N.getD j "").Nodup)
    (hs : ∀ y, foldedSetIterable iter X.env y = pure y := by intro _; rfl) : PE X (.ListComp elt [⟨.Name x px, iter, ifs, 0⟩] scope pos) (tComp capt wi tt te) := by
  intro pins s σ H Q I h
  have ok := compOk.mk hk
  rw [eval_ListComp]
  refine wpAny_comprehension_free (use := none) (cl := clOf X.env scope.names []) rfl hs (closure_clOf fun n k hm hf => ?_) ok.kind ok.names (thn (hi pins s σ H _ I h) fun xv s1 h1 => thn h1 fun itv s2 h2 => ?_)
  · obtain ⟨c, e⟩ := I.ok.has n (.inl (ok.free n k hm (by simpa using hf)))
    rw [e]; rfl
  · obtain ⟨it, fp, tn, J, H2, e, I2, T, st2, f2, hW⟩ := h2
    subst e
    refine comp_block (RR := fun acc C => compPost (model X.prog X.w) X.A X.xe none (EP X pins σ Q) acc C) hx0 hc ok hcap (xs := [x]) (g := gName 0) (fun C s H ex => pg_name hnd rfl (.inl (lookup_relabel_local (ok.x x (by simp)))) (.inr (lookup_relabel_local (ok.x x (by simp))))) shp_name hT hE I2 T st2 f2 (fun ys H => ∀ l, H l = none → Q (.ref l) (upd H l (.lst ys))) hW.g ?_
    intro D C s' ys H' oc hD fin I' hC ⟨m, hns⟩ hCD hCn hL _ hsz hcl hpn _
    refine ⟨m, hns, fun h' hsb => ⟨.ref D, _, I'.turned (t' := s'.toks) (it := C) (fun b o hb e => (hsb.2 b hb).trans e) (by rw [upd_ne hCD]; exact hCn) hL (.inr hsz) hcl hpn, rfl, fin D hD⟩⟩

/-- y = [..]: the list is stored ahead of the block's end -/
theorem ps_comp {elt iter : Expr} {x : Str} {px : Pos} {py : Pos} {ifs : List Expr} {pos spos : Pos} {wi : TI} {tt : TT} {te : TE} {i : Nat} {y : Str} (capt : List Nat)
    (hN : X.N.Nodup) (hiy : X.N[i]? = some y) (hy : Loc X.env.scope y)
    (hx0 : ∀ e s, ¬ X.xe e s) (hc : X.calm = true) (hi : PI X (.Name x px) iter wi)
    (hT : ∀ C s H ex, PTs (cxComp X [x] capt scope C s H ex) ifs tt) (hE : ∀ C s H ex, PE (cxComp X [x] capt scope C s H ex) elt te)
    (hk : compOk scope X.env.scope [x] (capt.map fun j => X.N.getD j "") = true) (hcap : ∀ j ∈ capt, j < X.N.length) (hnd : (x :: capt.map fun j => X.N.getD j "").Nodup)
    (hsw : swapsWith (.ListComp elt [⟨.Name x px, iter, ifs, 0⟩] scope pos) (some (.Name y py)) spos.line X.env = pure true)
    (hs : ∀ y, foldedSetIterable iter X.env y = pure y := by intro _; rfl) (hf : X.fn y = true ∨ X.env.scope.names.lookup y = some .local := by first | exact .inl rfl | exact .inr rfl | assumption) :
    PS X (.Assign [.Name y py] (.ListComp elt [⟨.Name x px, iter, ifs, 0⟩] scope pos) spos) (tAsg (tComp capt wi tt te) (gName i)) := by
  intro pins s σ H D0 I h
  have ok := compOk.mk hk
  rw [exec_Assign_Name_used _ _ _ _ hsw]
  refine wpAny_bind (wpAny_standAt (wpAny_bind ?_))
  show wpAny _ X.A (do let _ ← comprehension (.ListComp elt [⟨.Name x px, iter, ifs, 0⟩] scope pos) scope X.env _ (newList []) false (eval iter X.env) (some (assign (.Name y py) X.env))) _ _ s
  refine wpAny_bind (wpAny_mono (wpAny_comprehension_free (use := some (assign (.Name y py) X.env)) (cl := clOf X.env scope.names []) (Q := fun _ s' => SP X pins D0 .next s') rfl hs (closure_clOf fun n k hm hf => ?_) ok.kind ok.names (thn (hi pins s σ H _ I h) fun xv s1 h1 => thn h1 fun itv s2 h2 => ?_))
    (fun _ s' hq => wpAny_pure (wpAny_pure hq)) fun _ _ e => e)
  · obtain ⟨c, e⟩ := I.ok.has n (.inl (ok.free n k hm (by simpa using hf)))
    rw [e]; rfl
  · obtain ⟨it, fp, tn, J, H2, e, I2, T, st2, f2, hW⟩ := h2
    subst e
    refine comp_block (RR := fun acc C => compPost (model X.prog X.w) X.A X.xe (some (assign (.Name y py) X.env)) (fun _ s' => SP X pins D0 .next s') acc C) hx0 hc ok hcap (xs := [x]) (g := gName 0) (fun C s H ex => pg_name hnd rfl (.inl (lookup_relabel_local (ok.x x (by simp)))) (.inr (lookup_relabel_local (ok.x x (by simp))))) shp_name hT hE I2 T st2 f2 (fun ys H => ∀ l, H l = none → gName i (.ref l) σ (upd H l (.lst ys)) D0.nx) hW.g ?_
    intro D C s' ys H' oc hD fin I' hC ⟨m, hns⟩ hCD hCn hL hst hsz hcl hpn hnc
    show wpAny _ _ (assign (.Name y py) X.env (.ref D)) _ _ s'
    have hCf : C ∉ X.fs := fun z => by
      rcases I'.ok.stk with e | ⟨e, _⟩
      · exact hst (by rw [e]; exact z)
      · refine hst ?_
        rw [e]
        unfold frs
        rw [List.filterMap_cons]
        split
        · exact z
        · exact List.mem_cons_of_mem _ z
    have Ip : Inv X (pins ++ [(C, oc)]) σ (upd H' D (.lst ys)) s' := I'.pins_of fun p hp => (List.mem_append.mp hp).elim (fun z => I'.pin p (List.mem_append_right _ z)) fun z => by
      have z' : p = (C, oc) := by simpa using z
      subst z'
      exact ⟨hC, by rw [upd_ne hCD]; exact hCn, hL, hCf, hnc⟩
    have pg := pg_name (X := X) (i := i) (x := y) (pos := py) hN hiy hy hf
    refine thn (pg _ s' σ _ (.ref D) (.ref D) (fun σ' H'' => D0.nx σ' H'' ∧ H'' = upd H' D (.lst ys)) Ip rfl ⟨fin D hD, rfl⟩) fun _ s'' ⟨σ', H'', I'', q, eH⟩ => ?_
    subst eH
    have pC := I''.pin (C, oc) (by simp)
    obtain ⟨o, es, ep, ho, r⟩ := hns
    rw [hC] at ho
    cases ho
    refine ⟨m, ⟨oc, es, ep, pC.1, r⟩, fun h' hsb => ?_⟩
    have Iu : Inv X pins σ' (upd H' D (.lst ys)) s'' := I''.pins_of fun p hp => I''.pin p (List.mem_append_right _ (List.mem_append_left _ hp))
    exact ⟨σ', _, Iu.turned (t' := s''.toks) (it := C) (fun b o hb e => (hsb.2 b hb).trans e) pC.2.1 hL (.inr hsz) hcl hpn, q⟩
end
end L2

set_option Elab.async false
set_option linter.all false
set_option maxRecDepth 100000
/-! More rules over the layer: texts, isinstance, all, join, is True, // by large numbers. -/
namespace L2
open PySem PySem.Spec PyProof.Rows
section
variable {X : Cx}

/-- // by any positive divisor below 2 ** 1000 -/
def bigB : Int := 1645504557321206042154969182557350504982735865633579863348609024
def CDivL (i j : Int) : Prop := 0 < j ∧ j < bigB
theorem log2_lt_of {n k : Nat} (h : n < 2 ^ k) (hk : 0 < k) : n.log2 < k := by
  by_cases h0 : n = 0
  · subst h0; simpa using hk
  · exact (Nat.log2_lt h0).mpr h
theorem op_fdivL : OpR X (binaryOp .FloorDiv) (rI CDivL fun i j => .int (i / j)) := opI fun i j _ _ _ _ _ hc q => by
  have h1 : (0 : Int) < j := hc.1
  have h2 : j < bigB := hc.2
  refine floordiv_int (by omega) (by rw [Int.fdiv_eq_ediv_of_nonneg i (by omega)]; exact q) (.inl (PyProof.noPylong_of_log2 ?_))
  have h3 : j.natAbs < 2 ^ 210 := by
    have e : (2 ^ 210 : Nat) = 1645504557321206042154969182557350504982735865633579863348609024 := by decide
    unfold bigB at h2
    rw [e]
    omega
  exact Nat.lt_of_lt_of_le (log2_lt_of h3 (by decide)) (by decide)

/-- isinstance(x, T), T a built-in type -/
theorem call_isinst {T : String} : CallR X (.builtin "isinstance") (fun xs H Q => ∃ x t b, xs = [x, .ty T] ∧ TyOf X.K H x t ∧ PySem.W.kitOne X.K t (.type T) = some b ∧ Q (.bl b) H) := by
  intro pins s σ H xs us Q I r h
  obtain ⟨x, t, b, rfl, ty, e, q⟩ := h
  obtain ⟨u, w', rfl, rx, rt⟩ := vals2 r
  cases rt
  exact isinst_ok I rx ty e fun tk => ⟨.bl b, H, I.tok _, rfl, q⟩

end

/-! ### a text's signs, one by one -/
/-! ### comprehensions by an invariant over the turn -/
section
variable {S : V → St} {tt : TT} {te : TE} {H : Hp} {Fin : List V → Hp → Prop}
theorem comp_range {lo : Int} {n : Nat} (Pv : Nat → List V → Hp → Prop) (h0 : Pv 0 [] H) (hz : ∀ i ys H, i < n → Pv i ys H → ys.length < sizeLine)
    (hs : ∀ i ys H, i < n → Pv i ys H → tt (S (.int (lo + i))) H fun b H2 => if b = true then te (S (.int (lo + i))) H2 fun y H3 => Pv (i + 1) (ys ++ [y]) H3 else Pv (i + 1) ys H2)
    (hd : ∀ ys H, Pv n ys H → Fin ys H) : CompW (Itr lo n) S tt te H Fin := by
  refine ⟨fun i m ys H => m = n - i ∧ i ≤ n ∧ Pv i ys H, ⟨n, by simp, Nat.zero_le _, h0⟩, ?_⟩
  rintro i m ys H ⟨rfl, hi, p⟩
  by_cases hlt : i < n
  · refine .inr ⟨hlt, hz i ys H hlt p, Pv (i + 1), fun ys' H' p' => ⟨n - (i + 1), by omega, rfl, hlt, p'⟩, fun x H' y => ?_⟩
    obtain ⟨e, y⟩ := y
    subst e y
    exact hs i ys _ hlt p
  · have e : i = n := by omega
    subst e
    exact .inl ⟨Nat.le_refl _, hd ys H p⟩
end

/-! ### a slice of a text -/
/-! ### a dict of the top, its keys texts -/
section
end

/-! ### a display of constants, at once -/
/-! ### a long display of constants: kept folded, so that no look at a goal runs it -/
end L2

set_option Elab.async false
set_option linter.all false
set_option maxRecDepth 100000
/-! Equality of things built of lists and tuples, by what they read as. -/
namespace L2
open PySem PySem.Spec PyProof.Rows PySem.SeqAt

section
end

section
end
end L2

set_option Elab.async false
set_option linter.all false
set_option maxRecDepth 100000
/-! The rules that speak of the module's objects, for a context within another: these are the same there. -/
namespace L2
open PySem PySem.Spec PyProof.Rows
section
variable {X : Cx} {K : PySem.W.Frag} (h : X.K = K)
include h
theorem ix_listK : IxR X (rIxL K) := by subst h; exact ix_list
end
end L2

set_option Elab.async false
set_option linter.all false
set_option maxRecDepth 100000
/-! Works as the laws build them, lists of tuples of two numbers, rows of drawn numbers. -/
namespace L2
open PySem PySem.Spec
theorem same_new {H : Hp} {p : Addr} (h : H p = none) (o : HO) : Same H (upd H p o) := fun b u q => by rw [upd_ne (ne_of_none q h)]; exact q
/-- what came since is changed -/
theorem sameUpd {H H' : Hp} {p : Addr} (s : Same H H') (n : H p = none) (o : HO) : Same H (upd H' p o) := fun b u q => by rw [upd_ne (ne_of_none q n)]; exact s b u q
theorem small {n : Nat} (h : n ≤ 100000) : n ≤ sizeLine := Nat.le_trans h (by decide)
theorem smallL {n : Nat} (h : n ≤ 100000) : n < sizeLine := Nat.lt_of_le_of_lt h (by decide)
theorem at_ints {ns : List Int} {i : Int} (h0 : 0 ≤ i) (h : i < ns.length) : ∃ v : Int, atI (ns.map V.int) i = some (.int v) ∧ v ∈ ns ∧ v = ns.getD i.toNat 0 := by
  obtain ⟨k, rfl⟩ := Int.eq_ofNat_of_zero_le h0
  have hk : k < ns.length := by omega
  refine ⟨ns[k], atI_nat (by rw [List.getElem?_map, List.getElem?_eq_getElem hk] <;> rfl), List.getElem_mem hk, ?_⟩
  rw [Int.toNat_natCast, List.getD_eq_getElem?_getD, List.getElem?_eq_getElem hk]
  rfl
/-- rows of drawn numbers -/
def Drawn (rs : List Int) : Prop := ∀ r ∈ rs, 0 ≤ r ∧ r < 1000000
theorem Drawn.at {rs : List Int} (d : Drawn rs) {i : Int} (h0 : 0 ≤ i) (h : i < rs.length) : ∃ v : Int, atI (rs.map V.int) i = some (.int v) ∧ 0 ≤ v ∧ v < 1000000 := by
  obtain ⟨v, h1, h2, _⟩ := at_ints h0 h
  exact ⟨v, h1, d v h2⟩
theorem Drawn.snoc {rs : List Int} (d : Drawn rs) {v : Int} (h0 : 0 ≤ v) (h : v < 1000000) : Drawn (rs ++ [v]) := fun r hr => by
  rcases List.mem_append.mp hr with q | q
  · exact d r q
  · rw [List.mem_singleton.mp q]
    exact ⟨h0, h⟩
def sp_L_row (K : PySem.W.Frag) : Sp := fun vs H Q _ => ∃ (a : Addr) (ns : List Int) (i n : Int), vs = [.ref a, .int i, .int n] ∧ SqL K H a (ns.map V.int) ∧ ns.length ≤ 63 ∧ 0 ≤ i ∧ 0 ≤ n ∧ n ≤ 1000 ∧
  ∀ p (rs : List Int) H', H p = none → Same H H' → H' p = some (.lst (rs.map V.int)) → (rs.length : Int) = n → Drawn rs → Q (.ref p) H'
def lsz (n m : Int) : Int := n % m + 4 * (if decide (V.int (n / m % 8) = V.int 5) = true then 1 else 0)
theorem lsz_bound {n m : Int} (h : 0 < m) : 0 ≤ lsz n m ∧ lsz n m < m + 4 := by
  have e1 := Int.emod_nonneg n (show m ≠ 0 by omega)
  have e2 := Int.emod_lt_of_pos n h
  unfold lsz
  split <;> omega
def sp_L_size : Sp := fun vs H Q _ => ∃ n m : Int, vs = [.int n, .int m] ∧ 0 ≤ n ∧ 0 < m ∧ m < 1000 ∧ Q (.int (lsz n m)) H
/-- a work, as the law builds one -/
structure Wk where
  ins : Nat
  boxes : List (Int × Int)
  gates : List (Int × Int)
  outs : List Int
def Wk.first (W : Wk) : Nat := 1 + W.ins + W.boxes.length
def Wk.knots (W : Wk) : Nat := W.first + W.gates.length
def GateOk (n : Nat) (gs : List (Int × Int)) : Prop := ∀ (k : Nat) (g : Int × Int), gs[k]? = some g → (0 ≤ g.1 ∧ g.1 < 2 * ((n : Int) + k)) ∧ 0 ≤ g.2 ∧ g.2 < 2 * ((n : Int) + k)
theorem GateOk.snoc {n : Nat} {gs : List (Int × Int)} (h : GateOk n gs) {x y : Int} (x0 : 0 ≤ x) (x1 : x < 2 * ((n : Int) + gs.length)) (y0 : 0 ≤ y) (y1 : y < 2 * ((n : Int) + gs.length)) : GateOk n (gs ++ [(x, y)]) := fun k g hk => by
  by_cases hlt : k < gs.length
  · rw [List.getElem?_append_left hlt] at hk
    exact h k g hk
  · rw [List.getElem?_append_right (by omega)] at hk
    have hk0 : k - gs.length = 0 := by
      cases e : k - gs.length with
      | zero => rfl
      | succ m => rw [e] at hk; simp at hk
    rw [hk0] at hk
    have hq := Option.some.inj hk
    subst hq
    have hkj : k = gs.length := by omega
    subst hkj
    exact ⟨⟨x0, x1⟩, y0, y1⟩
structure Wk.Ok (W : Wk) : Prop where
  ins : W.ins ≤ 7
  boxes : W.boxes.length ≤ 8
  gates : W.gates.length ≤ 2000
  outs : W.outs.length ≤ 20
  gate : GateOk W.first W.gates
  box : ∀ b ∈ W.boxes, (b.1 = 0 ∨ b.1 = 1) ∧ 0 ≤ b.2 ∧ b.2 < 2 * (W.knots : Int)
  out : ∀ o ∈ W.outs, 0 ≤ o ∧ o < 2 * (W.knots : Int)
/-- a list of tuples of two numbers -/
def PrsR (H : Hp) (b : Addr) (rs : List Addr) (ps : List (Int × Int)) : Prop := H b = some (.lst (rs.map V.ref)) ∧ Paired (fun r (p : Int × Int) => H r = some (.tup [.int p.1, .int p.2])) rs ps
theorem pairedMono {α β : Type} {R S : α → β → Prop} (h : ∀ a b, R a b → S a b) : ∀ {xs : List α} {ys : List β}, Paired R xs ys → Paired S xs ys
  | _, _, .nil => .nil
  | _, _, .cons a b => .cons (h _ _ a) (pairedMono h b)
theorem pairedSnoc {α β : Type} {R : α → β → Prop} {x : α} {y : β} (h : R x y) : ∀ {xs : List α} {ys : List β}, Paired R xs ys → Paired R (xs ++ [x]) (ys ++ [y])
  | _, _, .nil => .cons h .nil
  | _, _, .cons a b => .cons a (pairedSnoc h b)
theorem pairsNew {H : Hp} {t : Addr} {bs : List Addr} {qs : List (Int × Int)} (x y : Int) (hB : Paired (fun r (p : Int × Int) => H r = some (.tup [.int p.1, .int p.2])) bs qs) (ht : H t = none) :
    Paired (fun r (p : Int × Int) => upd H t (.tup [.int x, .int y]) r = some (.tup [.int p.1, .int p.2])) (bs ++ [t]) (qs ++ [(x, y)]) :=
  pairedSnoc (R := fun r (p : Int × Int) => upd H t (.tup [.int x, .int y]) r = some (.tup [.int p.1, .int p.2])) upd_same (pairedMono (fun r p q => by rw [upd_ne (ne_of_none q ht)]; exact q) hB)
theorem PrsR.same {H H' : Hp} {b : Addr} {rs : List Addr} {ps : List (Int × Int)} (s : Same H H') (h : PrsR H b rs ps) : PrsR H' b rs ps := ⟨s _ _ h.1, pairedMono (fun r p q => s _ _ q) h.2⟩
theorem PrsR.length {H : Hp} {b : Addr} {rs : List Addr} {ps : List (Int × Int)} (h : PrsR H b rs ps) : rs.length = ps.length := Paired.length h.2
theorem PrsR.get {H : Hp} {b : Addr} {rs : List Addr} {ps : List (Int × Int)} (h : PrsR H b rs ps) {i : Nat} (hi : i < ps.length) : ∃ r, (rs.map V.ref)[i]? = some (.ref r) ∧ H r = some (.tup [.int ps[i].1, .int ps[i].2]) := by
  obtain ⟨hb, h⟩ := h
  clear hb
  induction h generalizing i with
  | nil => exact absurd hi (Nat.not_lt_zero _)
  | cons a r ih =>
    cases i with
    | zero => exact ⟨_, rfl, a⟩
    | succ k =>
      obtain ⟨q, h1, h2⟩ := ih (i := k) (by simpa using hi)
      exact ⟨q, by simpa using h1, by simpa using h2⟩
theorem PrsR.push {H : Hp} {b t : Addr} {rs : List Addr} {ps : List (Int × Int)} (h : PrsR H b rs ps) (ht : H t = none) (x y : Int) :
    PrsR (upd (upd H t (.tup [.int x, .int y])) b (.lst (rs.map V.ref ++ [.ref t]))) b (rs ++ [t]) (ps ++ [(x, y)]) := by
  obtain ⟨hb, hp⟩ := h
  have htb : t ≠ b := fun e => by rw [e, hb] at ht; cases ht
  refine ⟨by rw [upd_same, List.map_append]; rfl, pairedSnoc ?_ (pairedMono (fun r p q => ?_) hp)⟩
  · rw [upd_ne htb, upd_same]
  · rw [upd_ne (fun e => by rw [e, hb] at q; cases q), upd_ne (ne_of_none q ht)]
    exact q
def Prs (H : Hp) (b : Addr) (ps : List (Int × Int)) : Prop := ∃ rs, PrsR H b rs ps
theorem Prs.same {H H' : Hp} {b : Addr} {ps : List (Int × Int)} (s : Same H H') (h : Prs H b ps) : Prs H' b ps := let ⟨rs, q⟩ := h; ⟨rs, q.same s⟩
structure IsWkA (H : Hp) (w b g o : Addr) (W : Wk) : Prop where
  w : H w = some (.tup [.int W.ins, .ref b, .ref g, .ref o])
  b : Prs H b W.boxes
  g : Prs H g W.gates
  o : H o = some (.lst (W.outs.map V.int))
theorem IsWkA.same {H H' : Hp} {w b g o : Addr} {W : Wk} (s : Same H H') (h : IsWkA H w b g o W) : IsWkA H' w b g o W := ⟨s _ _ h.w, h.b.same s, h.g.same s, s _ _ h.o⟩
def sp_L_work (K : PySem.W.Frag) : Sp := fun vs H Q _ => ∃ (a z : Addr) (rs zs : List Int), vs = [.ref a, .ref z] ∧ SqL K H a (rs.map V.int) ∧ SqL K H z (zs.map V.int) ∧ rs.length = 60 ∧ Drawn rs ∧ 4 ≤ zs.length ∧ (∀ r ∈ zs, 0 ≤ r) ∧
  ∀ w b g o W H', H w = none → H b = none → H g = none → H o = none → Same H H' → IsWkA H' w b g o W → W.Ok → W.gates.length ≤ 12 → W.outs.length ≤ 8 → (W.ins : Int) = lsz (zs.getD 0 0) 4 → Q (.ref w) H'
theorem cut_to {xs : List V} {n : Nat} (h : n ≤ xs.length) : cutV xs none (some (n : Int)) = xs.take n := by
  unfold cutV
  rw [HT.sIx_nat, HT.sIx_none, Nat.min_eq_left h, List.drop_zero, Nat.sub_zero]
theorem getD_take {fs : List Int} {j n : Nat} (h : j < n) : (fs.take n).getD j 0 = fs.getD j 0 := by
  rw [List.getD_eq_getElem?_getD, List.getD_eq_getElem?_getD, List.getElem?_take_of_lt h]
/-- depths -/
def mx (i j : Int) : Int := if j > i then j else i
def dstep (D : List Int) (g : Int × Int) : List Int := D ++ [1 + mx (D.getD (g.1 / 2).toNat 0) (D.getD (g.2 / 2).toNat 0)]
def dL (n : Nat) (gs : List (Int × Int)) : List Int := gs.foldl dstep (List.replicate n 0)
theorem dfold (gs : List (Int × Int)) : ∀ D, ∃ t, gs.foldl dstep D = D ++ t ∧ t.length = gs.length := by
  induction gs with
  | nil => exact fun D => ⟨[], by simp, rfl⟩
  | cons g r ih =>
    intro D
    obtain ⟨t, h1, h2⟩ := ih (dstep D g)
    refine ⟨(1 + mx (D.getD (g.1 / 2).toNat 0) (D.getD (g.2 / 2).toNat 0)) :: t, ?_, by simp [h2]⟩
    rw [List.foldl_cons, h1]
    unfold dstep
    rw [List.append_assoc]
    rfl
theorem dL_length (n : Nat) (gs : List (Int × Int)) : (dL n gs).length = n + gs.length := by
  obtain ⟨t, h1, h2⟩ := dfold gs (List.replicate n 0)
  unfold dL
  rw [h1, List.length_append, List.length_replicate, h2]
theorem dL_snoc (n : Nat) (gs : List (Int × Int)) (g : Int × Int) : dL n (gs ++ [g]) = dstep (dL n gs) g := by
  unfold dL
  rw [List.foldl_append]
  rfl
theorem dL_take (n : Nat) (gs : List (Int × Int)) (k : Nat) : (dL n gs).take (n + (gs.take k).length) = dL n (gs.take k) := by
  obtain ⟨t, h1, _⟩ := dfold (gs.drop k) (dL n (gs.take k))
  have e : dL n gs = dL n (gs.take k) ++ t := by
    rw [← h1]
    conv => lhs; rw [← List.take_append_drop k gs]
    unfold dL
    rw [List.foldl_append]
  rw [e, ← dL_length, List.take_left]
def sp_L_long (K : PySem.W.Frag) : Sp := fun vs H Q _ => ∃ (w b g o r : Addr) (W : Wk) (rs : List Int), vs = [.ref w, .ref r] ∧ IsWkA H w b g o W ∧ W.Ok ∧ W.gates.length ≤ 12 ∧ H r = some (.lst (rs.map V.int)) ∧ rs.length = 40 ∧ Drawn rs ∧
  ∀ w' g' W' H', Same H H' → IsWkA H' w' b g' o W' → W'.Ok → W'.ins = W.ins → W'.boxes = W.boxes → Q (.ref w') H'
theorem ite_f {c : Bool} {A B : Prop} (h : c = false) (q : B) : if c = true then A else B := by rw [h]; exact q
theorem ite_t {c : Bool} {A B : Prop} (h : c = true) (q : A) : if c = true then A else B := by rw [h]; exact q
def RowInv (a p : Addr) (i n : Int) (H : Hp) (j : Nat) (σ : St) (H' : Hp) : Prop :=
  ∃ (cell : Int) (great : Bool) (rest : Int) (rs : List Int) (x y : Option V), σ = [some (.ref a), some (.int i), some (.int n), some (.int cell), some (.int rest), some (.bl great), some (.ref p), x, y] ∧ 0 ≤ rest ∧ rs.length = j ∧ Drawn rs ∧ Same H H' ∧ H' p = some (.lst (rs.map V.int))
end L2

set_option Elab.async false
set_option linter.all false
set_option maxRecDepth 100000
/-! Lambdas: made (the code's table filled at the first time), called, handed to max as its key. -/
namespace L2
open PySem PySem.Spec PyProof.Rows
/-- a def that makes a lambda: its code at c, that code's table at P, the module of the built-in names -/
structure LamAt (mg : Str → Option Value) (base : Heap) (c P : Addr) : Prop where
  hd : PySem.W.CodeHd base c P
  bm : ∃ bm ob, mg "__builtins__" = some (.ref bm) ∧ bm ≠ builtinsNs ∧ base.get? bm = some ob ∧ ob.cls = .type "module" ∧ ob.dict = some builtinsNs ∧ ob.data = .plain
section
variable {X : Cx} {pins : List (Addr × Obj)} {σ : St} {H : Hp} {s : Shared}
theorem Inv.grown {Pa c : Addr} {pos : Pos} {qual : Str} {h' : Heap} {t' : Nat} {ps vs : Array Value} {oc : Obj} {tq : Tok} (I : Inv X pins σ H s) (hP : H Pa = some (.tbl pos qual)) (hx : Heap.ExtBut Pa s.heap h')
    (hge : s.heap.objs.size ≤ c) (hc : h'.get? c = some oc) (hd : oc.data = .fields vs) (hv : vs[1]? = some (.str qual tq)) (htab : h'.get? Pa = some { cls := .none, data := .fields ps }) (ht : TriplesOk ps.toList)
    (ha : codeAmong pos ps.toList = some (.ref c)) : Inv X pins σ (upd H c (.frz oc (.own Pa))) { s with heap := h', toks := t' } := by
  have hn : H c = none := I.hok.fresh hge
  have nP : ∀ b, H b = none → b ≠ Pa := fun b n z => by rw [z, hP] at n; cases n
  refine I.un ⟨fun b o e n _ _ => hx b o (nP b n) e, fun b o e n _ _ => ⟨o.slots, hx b o (nP b n) e⟩, fun b o e n _ => ?_, fun b o e _ => ?_, fun b xs e => ?_, fun b o u e => ?_, fun b p q e => ?_⟩ fun b u e => ?_
  · rw [upd_ne (Nat.ne_of_lt (Nat.lt_of_lt_of_le (Heap.lt_size e) hge))]
    exact n
  · by_cases hb : b = Pa
    · subst hb
      exact ⟨_, htab⟩
    · exact ⟨o, hx b o hb e⟩
  · rw [upd_ne (ne_of_none e hn)]
    exact e
  · rw [upd_ne (ne_of_none e hn)]
    exact e
  · rw [upd_ne (ne_of_none e hn)]
    exact e
  · by_cases hbc : b = c
    · subst hbc
      rw [upd_same] at e
      cases e
      exact ⟨hc, oc, hc⟩
    · rw [upd_ne hbc] at e
      by_cases hb : b = Pa
      · subst hb
        rw [hP] at e
        cases e
        exact ⟨ps, htab, ht, .inr ⟨c, oc, vs, tq, ha, upd_same, hd, hv⟩⟩
      · refine (I.hok b u e).stay (fun d v hd q => hx d v ?_ q) (fun d q => by rw [upd_ne (ne_of_none q hn)]; exact q) (fun d xs q => by rw [upd_ne (ne_of_none q hn)]; exact q) fun d ob xs q => by rw [upd_ne (ne_of_none q hn)]; exact q
        rcases hd with z | z
        · rw [z]
          exact hb
        · intro y
          rw [y, hP] at z
          cases z
/-- what a lambda's object is, and its code -/
structure LamObj (H : Hp) (h : Heap) (f : Addr) (qual : Str) (params : Arguments) (body : Expr) (scope : Scope) (clos : List (Str × Addr)) (c : Addr) : Prop where
  fo : ∃ pm ctv, h.get? f = some (PySem.W.kla_obj "<lambda>" qual params body scope clos pm c ctv)
  co : ∃ oc u vs tq, H c = some (.frz oc u) ∧ oc.data = .fields vs ∧ vs[1]? = some (.str qual tq)
theorem lam_eval {A : Around} {E : Value → Shared → Prop} {Q : Value → Shared → Prop} {Pa c : Addr} {pos : Pos} {qual : Str} {params : Arguments} {body : Expr} {scope : Scope} {clos : List (Str × Addr)} (I : Inv X pins σ H s)
    (L : LamAt X.mg X.base c Pa) (hcode : X.env.code = .ref c) (hq : X.env.qual ++ "<lambda>" = qual) (hP : H Pa = some (.tbl pos qual)) (hcl : closureFor scope X.env = pure clos) (hdef : defaultsOf params X.env = ([], []))
    (h : ∀ (f c' : Addr) (H' : Hp) (s' : Shared), Inv X pins σ H' s' → Same H H' → s.heap.objs.size ≤ f → f < s'.heap.objs.size → H' f = none → LamObj H' s'.heap f qual params body scope clos c' → Q (.ref f) s') :
    wpAny (model X.prog X.w) A (eval (.Lambda params body scope pos) X.env) Q E s := by
  refine PySem.W.kla_eval hdef ?_
  rw [hq]
  obtain ⟨ps, hPs, ht, hc⟩ := I.hok Pa _ hP
  obtain ⟨bm, ob, b1, b2, b3, b4, b5, b6⟩ := L.bm
  have nP : ∀ b o, X.base.get? b = some o → b ≠ Pa := fun b o e z => by
    have := (I.bs b o e).2
    rw [z, hP] at this
    cases this
  have hg := I.mod.glob.keeps I.bk
  have hgP : mainGlobals ≠ Pa := by
    obtain ⟨o, _, _, e, _⟩ := I.mod.glob
    exact nP _ o e
  have hbG : bm ≠ mainGlobals := fun q => by
    obtain ⟨o, es, ep, e, hd, _⟩ := I.mod.glob
    rw [q, e] at b3
    cases b3
    rw [hd] at b6
    cases b6
  have hb : s.heap.BuiltinsAt X.mg Pa := ⟨bm, ob, b1, b2, hbG, nP _ _ b3, I.bk _ _ b3, b4, b5, b6⟩
  rcases hc with hnf | ⟨c', oc, vs, tq, hf, hown, hd, hv⟩
  · refine PySem.W.kla_makeFunction hcl I.ok.glob hg hcode (L.hd.keeps I.bk) hPs ht hnf hgP hb fun c' ctv h' tk hx hge hlt hrec htb => ?_
    obtain ⟨c2, oc, vs, tq, z, h1, h2, h3⟩ := hrec
    cases z
    have I1 := I.grown (t' := tk) hP hx hge h1 h2 h3 htb (by rw [Array.toList_append]; exact TriplesOk_snoc _ _ _ _ ht) (by rw [Array.toList_append]; exact codeAmong_snoc _ ht hnf)
    have I2 := I1.kept (t' := tk) (h' := h'.push (PySem.W.kla_obj "<lambda>" qual params body scope clos ((X.mg "__name__").getD .none) c' ctv)) fun b u e => Heap.get?_push_of_some _ e
    exact h h'.objs.size c' _ _ I2 (fun b u q => by rw [upd_ne (ne_of_none q (I.hok.fresh hge))]; exact q) (Nat.le_trans hge (Nat.le_of_lt hlt)) (by rw [Heap.size_push]; exact Nat.lt_succ_self _) (I1.hok.fresh (Nat.le_refl _)) ⟨⟨_, _, Heap.get?_push_size _ rfl⟩, oc, _, vs, tq, upd_same, h2, h3⟩
  · refine PySem.W.kla_makeFunctionHit hcl I.ok.glob hg hcode (L.hd.keeps I.bk) hPs ht hf hb fun ctv h' tk hk hsz => ?_
    have I1 := I.kept (t' := tk) hk
    have I2 := I1.kept (t' := tk) (h' := h'.push (PySem.W.kla_obj "<lambda>" qual params body scope clos ((X.mg "__name__").getD .none) c' ctv)) fun b u e => Heap.get?_push_of_some _ e
    exact h h'.objs.size c' _ _ I2 (Same.refl H) hsz (by rw [Heap.size_push]; exact Nat.lt_succ_self _) (I1.hok.fresh (Nat.le_refl _)) ⟨⟨_, _, Heap.get?_push_size _ rfl⟩, oc, _, vs, tq, hown, hd, hv⟩
/-- a lambda's body running: N its names -/
def lamCx (X : Cx) (A : Around) (s : Shared) (H : Hp) (N : List Str) (qual : Str) (scope : Scope) (f : Addr) (cd : Value) (clos : List (Str × Addr)) : Cx where
  prog := X.prog
  w := X.w
  K := X.K
  mg := X.mg
  base := X.base
  A := A.deeper (PySem.W.envX qual scope s.heap.objs.size f cd clos)
  N := N
  s₀ := s
  H₀ := H
  env := PySem.W.envX qual scope s.heap.objs.size f cd clos
  outer := X.stack
  stack := PySem.W.envX qual scope s.heap.objs.size f cd clos :: X.stack
  ex := []
  calm := true
  fn := fun _ => false
  pn := []
  xe := fun _ _ => False
/-- a lambda of one parameter x with one name fr of the def around it -/
theorem lam_call {A : Around} {E : Value → Shared → Prop} {Q : Value → Shared → Prop} {Q' : VK} {f c' cf : Addr} {i : Nat} {fr x qual : Str} {params : Arguments} {body : Expr} {scope : Scope} {tb : TE} {u : Value} {v y : V}
    (I : Inv X pins σ H s) (hA : A.frames = some X.stack) (hh : A.handled = none) (hdp : A.depth < recursionLimit) (L : LamObj H s.heap f qual params body scope [(fr, cf)] c')
    (hce : X.env.cells.lookup fr = some cf) (hi : X.N[i]? = some fr) (hσ : σ[i]? = some (some y)) (hvis : X.env.scope.names.lookup fr = some .cell) (hsc : scope.names = [(x, .local), (fr, .free)]) (hne : (fr == x) = false) (hk : scope.kind = .function)
    (hco : scope.isCoroutine = false) (hgen : scope.isGenerator = false) (hbind : ∀ pm ctv, bindArgs (PySem.W.kla_fn "<lambda>" qual params body scope [(fr, cf)] pm (.ref c') ctv) ⟨[u], []⟩ = pure [(x, u)]) (r : RelV v u)
    (hb : PE (lamCx X A s H [fr, x] qual scope f (.ref c') [(fr, cf)]) body tb) (q : tb [some y, some v] H Q')
    (done : ∀ z w H' s', Inv X pins σ H' s' → Un (frs X.stack) [] H H' s.heap s'.heap → RelV z w → Q' z H' → Q w s') :
    wpAny (model X.prog X.w) A (call (.ref f) [u]) Q E s := by
  obtain ⟨pm, ctv, ho⟩ := L.fo
  obtain ⟨oc, uo, vs, tq, c1, c2, c3⟩ := L.co
  have hcd : s.heap.CodeRec (.ref c') qual := ⟨c', oc, vs, tq, rfl, (I.hok c' _ c1).1, c2, c3⟩
  refine wpAny_call (PySem.W.kla_callFunE hdp ho rfl hco hgen rfl hcd ?_)
  rw [hbind]
  refine wpAny_pure (wpAny_newFunctionEnv (fun p hp => ?_) (fun p hp => ?_) (fun h₁ hns hsb => ?_) hk)
  · rw [hsc] at hp
    simp only [List.mem_cons, List.not_mem_nil, or_false] at hp
    rcases hp with rfl | rfl <;> nofun
  · simp only [List.mem_cons, List.not_mem_nil, or_false] at hp
    subst hp
    rw [hsc]
    simp
  have hk₁ : ∀ b o, s.heap.get? b = some o → h₁.get? b = some o := fun b o e => hsb.extBut b o (Nat.ne_of_lt (Heap.lt_size e)) (Heap.get?_push_of_some _ e)
  refine ⟨I.nolimit.keeps hk₁, ?_⟩
  show codeAny _ _ (.expr body (PySem.W.envX qual scope s.heap.objs.size f (.ref c') [(fr, cf)])) _ _
  have lk : ∀ z : Str, scope.names.lookup z = some .cell ∨ scope.names.lookup z = some .free → z = fr := fun z hz => by
    rw [hsc] at hz
    simp only [List.lookup_cons, List.lookup_nil] at hz
    cases e1 : (z == x) with
    | true => rw [e1] at hz; simp at hz
    | false =>
      rw [e1] at hz
      cases e2 : (z == fr) with
      | true => exact eq_of_beq e2
      | false => rw [e2] at hz; simp at hz
  have cl : ∀ (z : Str) (c : Addr), ([(fr, cf)] : List (Str × Addr)).lookup z = some c → z = fr ∧ c = cf := fun z c hz => by
    simp only [List.lookup_cons, List.lookup_nil] at hz
    cases e2 : (z == fr) with
    | true => rw [e2] at hz; exact ⟨eq_of_beq e2, (Option.some.inj hz).symm⟩
    | false => rw [e2] at hz; cases hz
  have I1 : Inv (lamCx X A s H [fr, x] qual scope f (.ref c') [(fr, cf)]) [] [some y, some v] H { s with heap := h₁, toks := s.toks + [(x, u)].length } := by
    have noA : ∀ b : Addr, b ∉ (lamCx X A s H [fr, x] qual scope f (.ref c') [(fr, cf)]).ex := fun b z => absurd (show b ∈ ([] : List Addr) from z) (by simp)
    refine ⟨⟨I.mod, hk, rfl, rfl, Nat.le_refl _, fun a b c h1 h2 => ?_, fun a ha => ?_, fun a c h => absurd (show false = true from h) (by simp), fun _ => hh, Around.frames_deeper hA, .inr ⟨rfl, rfl⟩, fun b z => absurd z (noA b), I.bs, Nat.le_trans I.ok.bsz I.sz, fun b _ _ => noA b, fun b z => absurd z (noA b), I.stack, I.stkFree⟩,
      rfl, I.bare, Un.kept hk₁, ⟨_, hns, fun j z vz h1 h2 h3 => ?_⟩, fun a c h => ?_, I.hok.fresh (Nat.le_refl _), fun a c h => ?_, fun p hp => absurd (show p ∈ ([] : List (Addr × Obj)) from hp) (by simp), I.hok.kept hk₁, rfl⟩
    · exact ((cl a c h1).1).trans ((cl b c h2).1).symm
    · have := lk a ha
      subst this
      exact ⟨cf, by show ([(a, cf)] : List (Str × Addr)).lookup a = some cf; simp⟩
    · rcases j with _ | _ | j
      · cases h1
        cases h2
        obtain ⟨m, hm, hl⟩ := I.loc
        obtain ⟨w', rw', lo⟩ := hl i fr y hi hσ (.inr (.inl hvis))
        refine ⟨w', rw', .inr ⟨.inr ?_, cf, by show ([(fr, cf)] : List (Str × Addr)).lookup fr = some cf; simp, ?_⟩⟩
        · show scope.names.lookup fr = some .free
          rw [hsc]
          simp only [List.lookup_cons, List.lookup_nil, hne]
          simp
        · rcases lo with ⟨l1, _⟩ | ⟨_, c, l2, o, l3, l4⟩
          · have l1' : X.env.scope.names.lookup fr = some .local := l1
            rw [hvis] at l1'
            cases l1'
          · rw [hce] at l2
            cases l2
            exact ⟨o, hk₁ _ _ l3, l4⟩
      · cases h1
        cases h2
        refine ⟨u, r, .inl ⟨?_, by simp⟩⟩
        show scope.names.lookup x = some .local
        rw [hsc]
        simp
      · cases h1
    · obtain ⟨rfl, rfl⟩ := cl a c h
      obtain ⟨v', o, h1, h2⟩ := I.cell _ _ hce
      exact ⟨v', o, hk₁ _ _ h1, h2⟩
    · obtain ⟨rfl, rfl⟩ := cl a c h
      exact I.freeC _ _ hce
  refine PySem.W.kla_codeExpr (wpAny_mono (hb [] _ _ _ _ I1 q) (fun w' s' hz => ?_) fun _ _ z => z.elim)
  obtain ⟨z, H', J, rz, qz⟩ := hz
  exact done z w' H' s' (I.call' (ch := []) J.os J.base J.hok J.bare (fun b z => nomatch z)) J.base rz qz
theorem args_max_key2 (a b v : Value) : argsOk "max" ⟨[a, b], [(Str.ofString "key", v)]⟩ := by unfold argsOk; kernel_rfl
/-- what was laid since is nobody's -/
theorem Inv.mine (I : Inv X pins σ H s) {it : Addr} (h : s.heap.objs.size ≤ it) : H it = none ∧ it ≠ X.env.locals ∧ X.s₀.heap.objs.size ≤ it ∧ (∀ x c, X.env.cells.lookup x = some c → c ≠ it) ∧ (∀ p ∈ X.pn ++ pins, p.1 ≠ it) ∧ it ∉ frs X.stack := by
  have lt : ∀ {b : Addr} {o : Obj}, s.heap.get? b = some o → b ≠ it := fun e => Nat.ne_of_lt (Nat.lt_of_lt_of_le (Heap.lt_size e) h)
  refine ⟨I.hok.fresh h, Nat.ne_of_gt (Nat.lt_of_lt_of_le I.lt h), Nat.le_trans I.sz h, fun x c e => ?_, fun p hp => lt (I.pin p hp).1, fun hb => ?_⟩
  · obtain ⟨v, o, h1, _⟩ := I.cell x c e
    exact lt h1
  · obtain ⟨_, o, ho, _⟩ := I.stack.mem hb
    exact lt ho rfl
/-- two records of ours have turned -/
theorem Inv.two {a b : Addr} {h' : Heap} {t' : Nat} (I : Inv X pins σ H s) (na : H a = none) (la : a ≠ X.env.locals) (ea : X.s₀.heap.objs.size ≤ a) (ca : ∀ x c, X.env.cells.lookup x = some c → c ≠ a) (pa : ∀ p ∈ X.pn ++ pins, p.1 ≠ a)
    (nb : H b = none) (lb : b ≠ X.env.locals) (eb : X.s₀.heap.objs.size ≤ b) (cb : ∀ x c, X.env.cells.lookup x = some c → c ≠ b) (pb : ∀ p ∈ X.pn ++ pins, p.1 ≠ b)
    (k : ∀ c o, c ≠ a → c ≠ b → s.heap.get? c = some o → h'.get? c = some o) : Inv X pins σ H { s with heap := h', toks := t' } := by
  have ni : ∀ c u, H c = some u → c ≠ a ∧ c ≠ b := fun c u e => ⟨fun z => (by rw [z, na] at e; cases e), fun z => (by rw [z, nb] at e; cases e)⟩
  refine I.step (g' := s.gens) (d' := s.drawn) (ch := [a, b]) (fun c hc => ?_) (fun c o _ _ hc e _ => k c o (fun z => hc (by simp [z])) (fun z => hc (by simp [z])) e) (fun c o _ _ hc e _ => ⟨o.slots, k c o (fun z => hc (by simp [z])) (fun z => hc (by simp [z])) e⟩) (fun _ _ _ _ n => n)
    (fun c o hc e => ⟨o, k c o (fun z => hc (by simp [z])) (fun z => hc (by simp [z])) e⟩) (fun _ _ e => e) (fun _ _ _ e => e) (fun _ _ _ e => e) (fun m hm => ?_) (fun c u e => ?_) I.bare
  · simp only [List.mem_cons, List.not_mem_nil, or_false] at hc
    rcases hc with rfl | rfl
    · exact ⟨.inr ea, la, ca, pa⟩
    · exact ⟨.inr eb, lb, cb, pb⟩
  · obtain ⟨o, es, ep, ho, r⟩ := hm
    exact ⟨o, es, ep, k _ o la.symm lb.symm ho, r⟩
  · refine (I.hok c u e).stay (fun d v hd q => k d v ?_ ?_ q) (fun _ q => q) (fun _ _ q => q) fun _ _ _ q => q
    · rcases hd with z | z
      · rw [z]; exact (ni c u e).1
      · exact (ni d _ z).1
    · rcases hd with z | z
      · rw [z]; exact (ni c u e).2
      · exact (ni d _ z).2
theorem max_end {f T It S : Addr} {u1 u2 b v : Value} {n : Nat} {R : Result → Shared → Prop} (hh : X.A.handled = none) (hTI : T ≠ It) (hSI : S ≠ It) (hT : s.heap.IsTuple T #[u1, u2]) (hI : s.heap.IsTupleIter It T 2)
    (hS : s.heap.get? S = some (seqObj "list" #[b, v] n)) (done : ∀ h' tk, (∀ c o, c ≠ It → c ≠ S → s.heap.get? c = some o → h'.get? c = some o) → R (.ok (.ret b)) { s with heap := h', toks := tk }) :
    codeAny (model X.prog X.w) X.A (.builtin "max.loop" ⟨[.ref It, .ref f, .ref S], []⟩) R s := by
  have W := Walks.tuple (prog := X.prog) (w := X.w) (A := X.A.in1) hh It T hTI #[u1, u2]
  refine codeAny_builtin PySem.F.entry_max_loop ?_
  rw [Around.under_plainId PySem.F.plain_max_loop _]
  show wpAny _ X.A.in1 (seqItems? (.ref S) >>= _) _ _ _
  refine wpAny_bind (wpAny_seqItems hS rfl ?_)
  show wpAny _ X.A.in1 (tryCatch (pyNext (.ref It)) _ >>= _) _ _ _
  refine wpAny_bind (wpAny_tryCatch (W.done _ _ _ ⟨hI, hT⟩ fun h' tk' hk' => ?_))
  have hS' := hk' S _ (by simpa using hSI) hS
  show wpAny _ X.A.in1 (updateSeq S (fun _ => #[]) >>= _) _ _ _
  refine wpAny_bind ?_
  refine wpAny_updateSeq hS' rfl (wpAny_bind (wpAny_letGo (wpAny_pure ?_)))
  exact done _ _ fun c o n1 n2 e => ((Heap.SameBut.update h' S (Obj.mapSeq fun _ => (#[] : Array Value))).2 c n2).trans (hk' c o (by simpa using n1) e)
theorem max_key2 {Q : Value → Shared → Prop} {E : Value → Shared → Prop} {f : Addr} {u1 u2 : Value} {k1 k2 : Int} (I : Inv X pins σ H s) (hh : X.A.handled = none)
    (key : ∀ s1 : Shared, Inv X pins σ H s1 → (∀ b o, s.heap.get? b = some o → H b = none → b ∉ frs X.stack → s1.heap.get? b = some o) →
      wpAny (model X.prog X.w) X.A.in1 (call (.ref f) [u1]) (fun w s' => (∃ t, w = .int k1 t) ∧ Inv X pins σ H s' ∧ Un (frs X.stack) [] H H s1.heap s'.heap) (fun _ _ => False) s1 ∧
      wpAny (model X.prog X.w) X.A.in1 (call (.ref f) [u2]) (fun w s' => (∃ t, w = .int k2 t) ∧ Inv X pins σ H s' ∧ Un (frs X.stack) [] H H s1.heap s'.heap) (fun _ _ => False) s1)
    (done : ∀ s', Inv X pins σ H s' → Q (if k2 > k1 then u2 else u1) s') :
    wpAny (model X.prog X.w) X.A (call (.builtin "max") [u1, u2] [(Str.ofString "key", .ref f)]) Q E s := by
  have hname : (toString "max" ++ toString ".loop" : String) = "max.loop" := by decide
  refine kmk_tree PySem.F.kind_max PySem.F.plain_max PySem.F.entry_max (args_max_key2 _ _ _) ?_
  show wpAny _ X.A.in1 (Builtin.Builtins.bindParams "max" ["key", "default"] 0 ⟨[], [(Str.ofString "key", .ref f)]⟩ >>= _) _ _ s
  refine wpAny_bind (wpAny_of_eq (show Builtin.Builtins.bindParams "max" ["key", "default"] 0 ⟨[], [(Str.ofString "key", .ref f)]⟩ = pure [some (.ref f), none] from rfl) ?_)
  show wpAny _ X.A.in1 (newTuple [u1, u2] >>= _) _ _ s
  refine wpAny_bind (wpAny_newObj_type ?_)
  have hT0 : (s.heap.push { cls := .type "tuple", data := .seq #[u1, u2] }).IsTuple s.heap.objs.size #[u1, u2] := ⟨_, Heap.get?_push_size _ rfl, rfl, 0, rfl⟩
  refine wpAny_bind (wpAny_pyIter_tuple hT0 ?_)
  refine wpAny_bind (wpAny_newObj_type ?_)
  rw [hname]
  refine wpAny_pure ⟨plainId_quiet PySem.F.plain_max_loop _, ?_⟩
  have z1 : (s.heap.push { cls := .type "tuple", data := .seq #[u1, u2] }).objs.size = s.heap.objs.size + 1 := Heap.size_push ..
  have z2 : ((s.heap.push { cls := .type "tuple", data := .seq #[u1, u2] }).push { cls := .type "tuple_iterator", data := .fields #[.ref s.heap.objs.size, .int 0 0] }).objs.size = s.heap.objs.size + 2 := by rw [Heap.size_push, z1]
  have gT : (((s.heap.push { cls := .type "tuple", data := .seq #[u1, u2] }).push { cls := .type "tuple_iterator", data := .fields #[.ref s.heap.objs.size, .int 0 0] }).push (seqObj "list" #[] 0)).get? s.heap.objs.size = some { cls := .type "tuple", data := .seq #[u1, u2] } :=
    Heap.get?_push_of_some _ (Heap.get?_push_of_some _ (Heap.get?_push_size _ rfl))
  have gI : (((s.heap.push { cls := .type "tuple", data := .seq #[u1, u2] }).push { cls := .type "tuple_iterator", data := .fields #[.ref s.heap.objs.size, .int 0 0] }).push (seqObj "list" #[] 0)).get? (s.heap.push { cls := .type "tuple", data := .seq #[u1, u2] }).objs.size = some { cls := .type "tuple_iterator", data := .fields #[.ref s.heap.objs.size, .int 0 0] } :=
    Heap.get?_push_of_some _ (Heap.get?_push_size _ rfl)
  have gS : (((s.heap.push { cls := .type "tuple", data := .seq #[u1, u2] }).push { cls := .type "tuple_iterator", data := .fields #[.ref s.heap.objs.size, .int 0 0] }).push (seqObj "list" #[] 0)).get? ((s.heap.push { cls := .type "tuple", data := .seq #[u1, u2] }).push { cls := .type "tuple_iterator", data := .fields #[.ref s.heap.objs.size, .int 0 0] }).objs.size = some (seqObj "list" #[] 0) :=
    Heap.get?_push_size _ rfl
  have gx : ∀ b o, s.heap.get? b = some o → (((s.heap.push { cls := .type "tuple", data := .seq #[u1, u2] }).push { cls := .type "tuple_iterator", data := .fields #[.ref s.heap.objs.size, .int 0 0] }).push (seqObj "list" #[] 0)).get? b = some o := fun b o e => Heap.get?_push_of_some _ (Heap.get?_push_of_some _ (Heap.get?_push_of_some _ e))
  have hlT : s.heap.objs.size ≤ s.heap.objs.size := Nat.le_refl _
  have hlI : s.heap.objs.size ≤ (s.heap.push { cls := .type "tuple", data := .seq #[u1, u2] }).objs.size := by rw [z1]; exact Nat.le_succ _
  have hlS : s.heap.objs.size ≤ ((s.heap.push { cls := .type "tuple", data := .seq #[u1, u2] }).push { cls := .type "tuple_iterator", data := .fields #[.ref s.heap.objs.size, .int 0 0] }).objs.size := by rw [z2]; exact Nat.le_add_right _ _
  have hTI : s.heap.objs.size ≠ (s.heap.push { cls := .type "tuple", data := .seq #[u1, u2] }).objs.size := by rw [z1]; exact Nat.ne_of_lt (Nat.lt_succ_self _)
  have hTS : s.heap.objs.size ≠ ((s.heap.push { cls := .type "tuple", data := .seq #[u1, u2] }).push { cls := .type "tuple_iterator", data := .fields #[.ref s.heap.objs.size, .int 0 0] }).objs.size := by rw [z2]; exact Nat.ne_of_lt (Nat.lt_add_of_pos_right (by decide))
  have hSI : ((s.heap.push { cls := .type "tuple", data := .seq #[u1, u2] }).push { cls := .type "tuple_iterator", data := .fields #[.ref s.heap.objs.size, .int 0 0] }).objs.size ≠ (s.heap.push { cls := .type "tuple", data := .seq #[u1, u2] }).objs.size := by rw [z2, z1]; exact Nat.ne_of_gt (Nat.lt_succ_self _)
  clear z1 z2 hT0
  revert gT gI gS gx hlT hlI hlS hTI hTS hSI
  generalize (((s.heap.push { cls := .type "tuple", data := .seq #[u1, u2] }).push { cls := .type "tuple_iterator", data := .fields #[.ref s.heap.objs.size, .int 0 0] }).push (seqObj "list" #[] 0)) = h3
  generalize ((s.heap.push { cls := .type "tuple", data := .seq #[u1, u2] }).push { cls := .type "tuple_iterator", data := .fields #[.ref s.heap.objs.size, .int 0 0] }).objs.size = S
  generalize (s.heap.push { cls := .type "tuple", data := .seq #[u1, u2] }).objs.size = It
  generalize hTd : s.heap.objs.size = T
  intro gT gI gS gx hlT hlI hlS hTI hTS hSI
  rw [← hTd] at hlT hlI hlS
  obtain ⟨nT, lT, eT, cT, pT, fT⟩ := I.mine hlT
  obtain ⟨nI, lI, eI, cI, pI, fI⟩ := I.mine hlI
  obtain ⟨nS, lS, eS, cS, pS, fS⟩ := I.mine hlS
  have W := Walks.tuple (prog := X.prog) (w := X.w) (A := X.A.in1) hh It T hTI #[u1, u2]
  have I3 : Inv X pins σ H { s with heap := h3 } := I.kept (t' := s.toks) gx
  have base : ∀ b o, s.heap.get? b = some o → b ≠ It ∧ b ≠ S := fun b o e => ⟨Nat.ne_of_lt (Nat.lt_of_lt_of_le (Heap.lt_size e) hlI), Nat.ne_of_lt (Nat.lt_of_lt_of_le (Heap.lt_size e) hlS)⟩
  refine codeAny_builtin PySem.F.entry_max_loop ?_
  rw [Around.under_plainId PySem.F.plain_max_loop _]
  show wpAny _ X.A.in1 (seqItems? (.ref S) >>= _) _ _ _
  refine wpAny_bind (wpAny_seqItems gS rfl ?_)
  show wpAny _ X.A.in1 (tryCatch (pyNext (.ref It)) _ >>= _) _ _ _
  refine wpAny_bind (wpAny_tryCatch (W.item 0 _ _ _ (by show 0 < 2; decide) ⟨⟨_, gI, rfl, rfl⟩, ⟨_, gT, rfl, 0, rfl⟩⟩ fun v h4 tk4 hP hst4 hk4 => ?_))
  obtain rfl : u1 = v := by simpa using hP
  have I4 : Inv X pins σ H { s with heap := h4, toks := tk4 } := Inv.turned (s := { s with heap := h3 }) (t' := tk4) (it := It) I3 (fun b o hb e => hk4 b o (by simpa using hb) e) nI lI (.inr eI) cI pI
  show wpAny _ X.A.in1 (tryCatch (holding [u1] (call (.ref f) [u1])) _ >>= _) _ _ _
  refine wpAny_bind (wpAny_tryCatch (wpAny_holding (wpAny_mono (key _ I4 fun b o e _ _ => hk4 b o (by simpa using (base b o e).1) (gx b o e)).1 (fun w5 s5 he => ?_) fun _ _ z => z.elim)))
  obtain ⟨⟨t5, rfl⟩, I5, U5⟩ := he
  have gT5 : s5.heap.get? T = some { cls := .type "tuple", data := .seq #[u1, u2] } := U5.keep T _ (hk4 T _ (by simpa using hTI) gT) (hTd ▸ nT) (hTd ▸ fT) (by simp)
  have gS5 : s5.heap.get? S = some (seqObj "list" #[] 0) := U5.keep S _ (hk4 S _ (by simpa using hSI) gS) nS fS (by simp)
  obtain ⟨oI4, hoI4, hoc4, hod4⟩ := id hst4.1
  have gI5 : s5.heap.get? It = some oI4 := U5.keep It _ hoI4 nI fI (by simp)
  have b5 : ∀ b o, s.heap.get? b = some o → H b = none → b ∉ frs X.stack → s5.heap.get? b = some o := fun b o e n fr => U5.keep b o (hk4 b o (by simpa using (base b o e).1) (gx b o e)) n fr (by simp)
  show wpAny _ X.A.in1 (updateSeq S (fun _ => #[u1, .int k1 t5]) >>= _) _ _ _
  refine wpAny_bind ?_
  refine wpAny_updateSeq gS5 rfl ?_
  rw [hname]
  refine wpAny_pure ⟨plainId_quiet PySem.F.plain_max_loop _, ?_⟩
  have sb6 := Heap.SameBut.update s5.heap S (Obj.mapSeq fun _ => #[u1, .int k1 t5])
  obtain ⟨c6, gS6⟩ : ∃ c6, (s5.heap.update S (Obj.mapSeq fun _ => #[u1, .int k1 t5])).get? S = some (seqObj "list" #[u1, .int k1 t5] c6) := ⟨_, get?_update_seq gS5 fun _ => #[u1, .int k1 t5]⟩
  have I6 : Inv X pins σ H { s5 with heap := s5.heap.update S (Obj.mapSeq fun _ => #[u1, .int k1 t5]) } := I5.turned (t' := s5.toks) (it := S) (fun b o hb e => (sb6.2 b hb).trans e) nS lS (.inr eS) cS pS
  have gT6 := (sb6.2 T hTS).trans gT5
  have gI6 := (sb6.2 It hSI.symm).trans gI5
  have b6 : ∀ b o, s.heap.get? b = some o → H b = none → b ∉ frs X.stack → (s5.heap.update S (Obj.mapSeq fun _ => #[u1, .int k1 t5])).get? b = some o := fun b o e n fr => (sb6.2 b (base b o e).2).trans (b5 b o e n fr)
  revert gS6 I6 gT6 gI6 b6
  generalize (s5.heap.update S (Obj.mapSeq fun _ => #[u1, .int k1 t5])) = h6
  intro gS6 I6 gT6 gI6 b6
  refine codeAny_builtin PySem.F.entry_max_loop ?_
  rw [Around.under_plainId PySem.F.plain_max_loop _]
  show wpAny _ X.A.in1 (seqItems? (.ref S) >>= _) _ _ _
  refine wpAny_bind (wpAny_seqItems gS6 rfl ?_)
  show wpAny _ X.A.in1 (tryCatch (pyNext (.ref It)) _ >>= _) _ _ _
  refine wpAny_bind (wpAny_tryCatch (W.item 1 _ _ _ (by show 1 < 2; decide) ⟨⟨_, gI6, hoc4, hod4⟩, ⟨_, gT6, rfl, 0, rfl⟩⟩ fun v h7 tk7 hP7 hst7 hk7 => ?_))
  obtain rfl : u2 = v := by simpa using hP7
  have I7 : Inv X pins σ H { s5 with heap := h7, toks := tk7 } := Inv.turned (s := { s5 with heap := h6 }) (t' := tk7) (it := It) I6 (fun b o hb e => hk7 b o (by simpa using hb) e) nI lI (.inr eI) cI pI
  show wpAny _ X.A.in1 (tryCatch (holding [u2] (call (.ref f) [u2])) _ >>= _) _ _ _
  refine wpAny_bind (wpAny_tryCatch (wpAny_holding (wpAny_mono (key _ I7 fun b o e n fr => hk7 b o (by simpa using (base b o e).1) (b6 b o e n fr)).2 (fun w8 s8 he => ?_) fun _ _ z => z.elim)))
  obtain ⟨⟨t8, rfl⟩, I8, U8⟩ := he
  have gT8 : s8.heap.get? T = some { cls := .type "tuple", data := .seq #[u1, u2] } := U8.keep T _ (hk7 T _ (by simpa using hTI) gT6) (hTd ▸ nT) (hTd ▸ fT) (by simp)
  have gS8 : s8.heap.get? S = some (seqObj "list" #[u1, .int k1 t5] c6) := U8.keep S _ (hk7 S _ (by simpa using hSI) gS6) nS fS (by simp)
  obtain ⟨oI7, hoI7, hoc7, hod7⟩ := id hst7.1
  have gI8 : s8.heap.get? It = some oI7 := U8.keep It _ hoI7 nI fI (by simp)
  show wpAny _ X.A.in1 (tryCatch (holding [u2, .int k2 t8] (richCompare .Gt (.int k2 t8) (.int k1 t5) >>= _)) _ >>= _) _ _ _
  refine wpAny_bind (wpAny_tryCatch (wpAny_holding (wpAny_bind (PyProof.Rows.gt_int (A := X.A.in1) ?_ : wpAny (model X.prog X.w) X.A.in1 (compareOp .Gt (.int k2 t8) (.int k1 t5)) _ _ _))))
  refine wpAny_bind (wpAny_holding (wpAny_truthy_bool ?_))
  refine wpAny_bind (wpAny_letGo (wpAny_pure ?_))
  by_cases hb' : k2 > k1
  · rw [if_pos hb'] at done
    simp only [hb', decide_true, if_true]
    refine wpAny_bind ?_
    refine wpAny_updateSeq gS8 rfl (wpAny_bind (wpAny_letGo ?_))
    rw [hname]
    have sb9 := Heap.SameBut.update s8.heap S (Obj.mapSeq fun _ => #[u2, .int k2 t8])
    obtain ⟨c9, gS9⟩ : ∃ c9, (s8.heap.update S (Obj.mapSeq fun _ => #[u2, .int k2 t8])).get? S = some (seqObj "list" #[u2, .int k2 t8] c9) := ⟨_, get?_update_seq gS8 fun _ => #[u2, .int k2 t8]⟩
    have I9 : Inv X pins σ H { s8 with heap := s8.heap.update S (Obj.mapSeq fun _ => #[u2, .int k2 t8]) } := I8.turned (t' := s8.toks) (it := S) (fun b o hb e => (sb9.2 b hb).trans e) nS lS (.inr eS) cS pS
    refine wpAny_pure ⟨plainId_quiet PySem.F.plain_max_loop _, max_end hh hTI hSI ⟨_, (sb9.2 T hTS).trans gT8, rfl, 0, rfl⟩ ⟨oI7, (sb9.2 It hSI.symm).trans gI8, hoc7, hod7⟩ gS9 fun h' tk' hk' => ?_⟩
    exact done _ (Inv.two I9 nI lI eI cI pI nS lS eS cS pS hk')
  · rw [if_neg hb'] at done
    simp only [hb', decide_false, Bool.false_eq_true, if_false]
    refine wpAny_bind (wpAny_letGo ?_)
    rw [hname]
    refine wpAny_pure ⟨plainId_quiet PySem.F.plain_max_loop _, max_end hh hTI hSI ⟨_, gT8, rfl, 0, rfl⟩ ⟨oI7, gI8, hoc7, hod7⟩ gS8 fun h' tk' hk' => ?_⟩
    exact done _ (Inv.two I8 nI lI eI cI pI nS lS eS cS pS hk')
/-- max(a, b, key=lambda x: ..), of the lambda's own names the first is the one of the def around it -/
def tMaxKey (Pa : Addr) (lp : Pos) (qual : Str) (i : Nat) (ta : TA) (tb : TE) : TE := fun σ H Q => ta σ H fun vs H1 => ∃ x1 x2 y k1 k2, vs = [x1, x2] ∧ σ[i]? = some (some y) ∧ H1 Pa = some (.tbl lp qual) ∧ ∀ H2, Same H1 H2 →
  tb [some y, some x1] H2 (fun z H3 => z = .int k1 ∧ H3 = H2) ∧ tb [some y, some x2] H2 (fun z H3 => z = .int k2 ∧ H3 = H2) ∧ Q (if k2 > k1 then x2 else x1) H2
theorem pe_maxKey {a b body : Expr} {ta : TA} {tb : TE} {Pa c cf : Addr} {p pos lp kp : Pos} {params : Arguments} {scope : Scope} {fr x qual : Str} {k : Nat} (i : Nat) (L : LamAt X.mg X.base c Pa) (hcode : X.env.code = .ref c) (hr : Room k X.A) (hc : X.calm = true) (hg : Gl X "max") (hm : X.mg "max" = none)
    (ha : PA X [a, b] ta) (hq : X.env.qual ++ "<lambda>" = qual) (hi : X.N[i]? = some fr) (hvis : X.env.scope.names.lookup fr = some .cell) (hce : X.env.cells.lookup fr = some cf) (hcl : closureFor scope X.env = pure [(fr, cf)]) (hdef : defaultsOf params X.env = ([], []))
    (hsc : scope.names = [(x, .local), (fr, .free)]) (hne : (fr == x) = false) (hk : scope.kind = .function) (hco : scope.isCoroutine = false) (hgen : scope.isGenerator = false)
    (hbind : ∀ pm ctv c' u, bindArgs (PySem.W.kla_fn "<lambda>" qual params body scope [(fr, cf)] pm (.ref c') ctv) ⟨[u], []⟩ = pure [(x, u)])
    (hb : ∀ A s H f cd, PE (lamCx X A s H [fr, x] qual scope f cd [(fr, cf)]) body tb)
    (he : backTo pos (starEach [a, b] X.env) = (false, eval a X.env) :: backTo pos (starEach [b] X.env) := by rfl) (hplain : (backTo pos (starEach [a, b] X.env)).any (·.1) = false := by rfl) :
    PE X (.Call (.Name "max" p) [a, b] [⟨some "key", .Lambda params body scope lp, kp⟩] pos) (tMaxKey Pa lp qual i ta tb) := by
  intro pins s σ H Q I h
  refine wpAny_Call_Name_kw (ld_blt I hg hm PyProof.Rows.boot_max ?_)
  refine callWith_kw (thn (ha pos pins s σ H _ I h) fun us s1 ⟨vs, H1, I1, r1, q1⟩ => ?_) he hplain
  obtain ⟨x1, x2, y, k1, k2, rfl, hy, hP, q1⟩ := q1
  obtain ⟨u1, u2, rfl, r1, r2⟩ := vals2 r1
  refine kws_cons (lam_eval I1 L hcode hq hP hcl hdef fun f c' H2 s2 I2 sm hge hlt hfn LO => ?_)
  refine kws_nil ?_
  obtain ⟨b1, b2, q2⟩ := q1 H2 sm
  show wpAny _ _ (call (.builtin "max") [u1, u2] [(Str.ofString "key", .ref f)]) _ _ _
  refine max_key2 (k1 := k1) (k2 := k2) I2 (I.ok.hd hc) (fun s3 I3 k3 => ?_) fun s' I' => ?_
  · have LO3 : LamObj H2 s3.heap f qual params body scope [(fr, cf)] c' := ⟨let ⟨pm, ctv, e⟩ := LO.fo; ⟨pm, ctv, k3 f _ e hfn (I1.mine hge).2.2.2.2.2⟩, LO.co⟩
    have dp : X.A.in1.depth < recursionLimit := by
      have := hr.dp
      show X.A.depth < _
      omega
    exact ⟨lam_call I3 I.ok.frames (I.ok.hd hc) dp LO3 hce hi hy hvis hsc hne hk hco hgen (fun pm ctv => hbind pm ctv c' u1) r1 (hb _ _ _ _ _) b1 (fun z w' H' s' J U rz ⟨hz, hH⟩ => by subst hz hH; exact ⟨rz, J, U⟩),
      lam_call I3 I.ok.frames (I.ok.hd hc) dp LO3 hce hi hy hvis hsc hne hk hco hgen (fun pm ctv => hbind pm ctv c' u2) r2 (hb _ _ _ _ _) b2 (fun z w' H' s' J U rz ⟨hz, hH⟩ => by subst hz hH; exact ⟨rz, J, U⟩)⟩
  · refine ⟨_, H2, I', ?_, q2⟩
    by_cases hb' : k2 > k1
    · rw [if_pos hb', if_pos hb']
      exact r2
    · rw [if_neg hb', if_neg hb']
      exact r1
end
end L2
namespace L2
open PySem PySem.Spec PyProof.Rows
/-- the def's body knows the code that it runs -/
theorem Fun.okC {P : Program} {w : World} {K : PySem.W.Frag} {mg : Str → Option Value} {base : Heap} {x qual : Str} {st : Stmt} {f : Addr} {fd : FuncData} {N ps : List Str} {k : Nat} {sp : Sp} {cdv : Value} (F : Fun K x qual st f fd) (hc : fd.code = cdv) (S : FnScope N ps (defScope st)) (len : ∀ vs H Q E, sp vs H Q E → vs.length = ps.length)
    (hbody : ∀ (A : Around) (outer : List Env) (s : Shared) (H : Hp) (vs : List V) (Q : VK) (E : XK), Room k (A.deeper (envOfC qual (defScope st) s.heap.objs.size f cdv)) → sp vs H Q E →
      ∃ t, PSs (cxOf CX0 P w K mg base N qual (defScope st) f cdv A outer s H E).nox (defBody st) t ∧ t { nx := fun _ H' => Q .non H', rt := Q } (start N vs) H) : FnOk P w K mg base CX0 (k + 1) f fd ps sp := by
  obtain ⟨oc, od, kV, doc, pm, an, cdv', ct, osl, rfl, lk, hcd⟩ := F.ex
  obtain rfl : cdv' = cdv := hc
  refine fn_of lk hcd S len fun A outer s H vs Q E hr hsp => ?_
  obtain ⟨t, h, q⟩ := hbody A outer s H vs Q E hr hsp
  exact ⟨t, h.nox, q⟩
/-- a def's code, that code's table, the place and the long name of the def's lambda -/
abbrev Tab4 := Addr × Addr × Pos × Str
def IsTab (h : Heap) (b : Addr) : Prop := (∃ c, PySem.W.CodeHd h c b) ∧ h.get? b = some (PySem.W.tabObj #[])
def tabH (tabs : List Tab4) : Hp := fun b => (tabs.find? fun t => t.2.1 == b).map fun t => .tbl t.2.2.1 t.2.2.2
theorem tabH_at : ∀ {tabs : List Tab4}, (tabs.map (·.2.1)).Nodup → ∀ t ∈ tabs, tabH tabs t.2.1 = some (.tbl t.2.2.1 t.2.2.2)
  | [], _, t, h => nomatch h
  | u :: r, nd, t, h => by
    rw [List.map_cons, List.nodup_cons] at nd
    unfold tabH
    rw [List.find?_cons]
    rcases List.mem_cons.mp h with rfl | h
    · simp
    · have : (u.2.1 == t.2.1) = false := by
        simp only [beq_eq_false_iff_ne, ne_eq]
        intro z
        exact nd.1 (z ▸ List.mem_map_of_mem (f := fun t : Tab4 => t.2.1) h)
      rw [this]
      exact tabH_at nd.2 t h
theorem tabH_of {tabs : List Tab4} {b : Addr} {u : HO} (h : tabH tabs b = some u) : ∃ t ∈ tabs, t.2.1 = b ∧ u = .tbl t.2.2.1 t.2.2.2 := by
  unfold tabH at h
  obtain ⟨t, h1, h2⟩ := Option.map_eq_some_iff.mp h
  exact ⟨t, List.mem_of_find?_eq_some h1, eq_of_beq (List.find?_some (p := fun t : Tab4 => t.2.1 == b) h1), h2.symm⟩
theorem law_callT {P : Program} {w : World} {K : PySem.W.Frag} {mg mb : Str → Option Value} {CX : CXT} {k : Nat} {fa a : Addr} {fd : FuncData} {x : Str} {sp : Sp} {s₁ : Shared} {vs : List Value} {ns : List Int} {tabs : List Tab4}
    (KX : K.In s₁.heap) (hns : s₁.heap.Ns mainGlobals mg) (hb : s₁.heap.Ns builtinsNs mb) (hbb : ∀ x : Str, x ≠ "__name__" → mb x = bootBuiltins x) (hlim : s₁.heap.NoLimit) (hg : s₁.gens = #[])
    (ha : s₁.heap.get? a = some { cls := .type "list", data := .seq vs.toArray }) (hi : IntsAre vs ns) (hl : ns.length ≤ sizeLine) (hr : Room k callerA)
    (hT : ∀ t ∈ tabs, PySem.W.CodeHd s₁.heap t.1 t.2.1 ∧ s₁.heap.get? t.2.1 = some (PySem.W.tabObj #[])) (hNd : (tabs.map (·.2.1)).Nodup) (hNo : PySem.W.noTabs K = true)
    (hbm : ∃ bm ob, mg "__builtins__" = some (.ref bm) ∧ bm ≠ builtinsNs ∧ s₁.heap.get? bm = some ob ∧ ob.cls = .type "module" ∧ ob.dict = some builtinsNs ∧ ob.data = .plain)
    (F : ∀ base : Heap, K.In base → base.Ns mainGlobals mg → (∀ t ∈ tabs, LamAt mg base t.1 t.2.1) → FnOk P w K mg base CX k fa fd [x] sp) (hbind : ∀ (s : Shared) (u : Value), BindsTo s fd ⟨[u], []⟩ [(x, u)])
    (hsp : ∀ H : Hp, (∀ t ∈ tabs, H t.2.1 = some (.tbl t.2.2.1 t.2.2.2)) → SqL K H a (ns.map V.int) → sp [.ref a] H (fun v _ => v = .bl true) fun _ _ _ => False)
    (hCX : ∀ H e s', CX [] H s₁ (fun _ _ _ => False) e s' → False) :
    codeAny (model P w) callerA (.call (.ref fa) ⟨[.ref a], []⟩) (fun r s' => r = .ok (.ret (.bool true)) ∧ OldK s₁.heap s'.heap ∧ s'.os = s₁.os ∧ AllBare s'.gens) s₁ := by
  have rv := vals_ints hi
  have lenV := hi.length
  have core : ∀ H : Hp, (∀ b u, H b = some u → (b = a ∧ K.lookup a = none ∧ ∃ o xs, u = .frz o (.lst xs)) ∨ (IsTab s₁.heap b ∧ ∃ p q, u = .tbl p q)) → (∀ t ∈ tabs, H t.2.1 = some (.tbl t.2.2.1 t.2.2.2)) → SqL K H a (ns.map V.int) → HOk P w H s₁.heap →
      codeAny (model P w) callerA (.call (.ref fa) ⟨[.ref a], []⟩) (fun r s' => r = .ok (.ret (.bool true)) ∧ OldK s₁.heap s'.heap ∧ s'.os = s₁.os ∧ AllBare s'.gens) s₁ := by
    intro H hO hTb hS hok
    have base_of : ∀ {b : Addr} {o : Obj}, s₁.heap.get? b = some o → H b = none → (hidT s₁.heap H).get? b = some o := fun e n => hidT_get e n
    have noO : ∀ {b : Addr} {o : Obj}, s₁.heap.get? b = some o → (∀ xs n, o.data ≠ .seq xs n) → o ≠ PySem.W.tabObj #[] → H b = none := fun {b o} e d1 d2 => by
      cases q : H b with
      | none => rfl
      | some u =>
        rcases hO b u q with ⟨rfl, _⟩ | ⟨⟨_, z⟩, _⟩
        · rw [ha] at e
          cases e
          exact absurd rfl (d1 _ _)
        · rw [z] at e
          cases e
          exact absurd rfl d2
    have nsK : ∀ {b : Addr} {m : Str → Option Value}, s₁.heap.Ns b m → (hidT s₁.heap H).Ns b m := fun {b m} ⟨o, es, ep, e, d, r⟩ => ⟨o, es, ep, base_of e (noO e (fun _ _ z => by rw [d] at z; cases z) (fun z => by rw [z] at d; cases d)), d, r⟩
    have hKb : K.In (hidT s₁.heap H) := fun b o e => base_of (KX b o e) (by
      cases q : H b with
      | none => rfl
      | some u =>
        rcases hO b u q with ⟨rfl, z, _⟩ | ⟨⟨_, z⟩, _⟩
        · rw [z] at e
          cases e
        · have e2 := KX b o e
          rw [z] at e2
          cases e2
          exact absurd (show false = true from List.all_eq_true.mp hNo (b, _) (PySem.W.mem_of_lookupK e)) Bool.false_ne_true)
    have hM : Mod K mg (hidT s₁.heap H) := ⟨hKb, nsK hns, ⟨mb, nsK hb, hbb⟩, let ⟨mc, h1, h2⟩ := hlim; ⟨mc, nsK h1, h2⟩⟩
    have e0 : Env0 P w K mg (hidT s₁.heap H) callerA [] s₁ H := ⟨rfl, hM, fun b o e => of_hidT e, Nat.le_of_eq (hidT_size _ _), trivial, fun b hb => absurd (show b ∈ ([] : List Addr) from hb) (by simp), hok, .of_eq hg⟩
    have hLam : ∀ t ∈ tabs, LamAt mg (hidT s₁.heap H) t.1 t.2.1 := fun t ht => by
      obtain ⟨o, vs, file, tf, flags, tg, inF, text, tt, e1, r1, r2, rest⟩ := (hT t ht).1
      obtain ⟨bm, ob, b1, b2, b3, b4, b5, b6⟩ := hbm
      exact ⟨⟨o, vs, file, tf, flags, tg, inF, text, tt, base_of e1 (noO e1 (fun _ _ z => by rw [r2] at z; cases z) (fun z => by rw [z] at r1; cases r1)), r1, r2, rest⟩, bm, ob, b1, b2, base_of b3 (noO b3 (fun _ _ z => by rw [b6] at z; cases z) (fun z => by rw [z] at b4; cases b4)), b4, b5, b6⟩
    refine codeAny_mono ((F _ hKb (nsK hns) hLam).run callerA [] s₁ H ⟨[.ref a], []⟩ [.ref a] [.ref a] _ _ hr e0 (hbind s₁ (.ref a)) (.cons rfl .nil) (hsp H hTb hS)) fun r s' h => ?_
    cases r with
    | error e => exact (hCX H e s' h).elim
    | ok fl =>
      cases fl with
      | next => exact False.elim h
      | brk => exact False.elim h
      | cont => exact False.elim h
      | ret u =>
        obtain ⟨v, H', os, bare, un, hok', r', q⟩ := h
        have q' : v = .bl true := q
        subst q'
        obtain rfl : u = Value.bool true := r'
        refine ⟨rfl, ⟨fun b o e => ?_, fun b o e => un.there b o e (by simp)⟩, os, bare⟩
        cases q : H b with
        | none => exact .inl (un.keep b o e q (by intro z; exact absurd (show b ∈ ([] : List Addr) from z) (by simp)) (by simp))
        | some u =>
          rcases hO b u q with ⟨_, _, ob, xs, rfl⟩ | ⟨⟨⟨c, hc⟩, z⟩, p, q2, rfl⟩
          · have z2 := un.frzs b ob _ q
            obtain ⟨e1, _⟩ := hok b _ q
            obtain ⟨e2, _⟩ := hok' b _ z2
            rw [e] at e1
            cases e1
            exact .inl e2
          · obtain ⟨ps, e2, _⟩ := hok' b _ (un.tbls b p q2 q)
            have e1 := z
            rw [e] at z
            cases z
            exact .inr (.inl ⟨(hc.tab e1).isCodeTable, rfl, #[], ps, rfl, by rw [e2]; simp⟩)
  have tabOk : ∀ b u, tabH tabs b = some u → IsTab s₁.heap b ∧ ∃ p q, u = .tbl p q := fun b u e => by
    obtain ⟨t, ht, rfl, rfl⟩ := tabH_of e
    exact ⟨⟨⟨_, (hT t ht).1⟩, (hT t ht).2⟩, _, _, rfl⟩
  have tabHok : ∀ {H : Hp} {b : Addr} {u : HO}, tabH tabs b = some u → ObjOk P w H s₁.heap b u := fun {H b u} e => by
    obtain ⟨⟨_, z⟩, p, q, rfl⟩ := tabOk b u e
    exact ⟨#[], z, trivial, .inl rfl⟩
  cases hk : K.lookup a with
  | some o =>
    have e := KX a o hk
    rw [ha] at e
    cases e
    exact core (tabH tabs) (fun b u e => .inr (tabOk b u e)) (tabH_at hNd) (.inr ⟨_, vs.toArray, _, hk, rfl, rfl, rfl, by rw [List.size_toArray, lenV]; exact hl, by simpa using rv⟩) (fun b u e => tabHok e)
  | none =>
    have nt : ∀ t ∈ tabs, t.2.1 ≠ a := fun t ht z => by
      have := (hT t ht).2
      rw [z, ha] at this
      cases this
    refine core (fun b => if b = a then some (.frz { cls := .type "list", data := .seq vs.toArray } (.lst (ns.map V.int))) else tabH tabs b) (fun b u e => ?_) (fun t ht => (if_neg (nt t ht)).trans (tabH_at hNd t ht)) (.inl (.inr ⟨{ cls := .type "list", data := .seq vs.toArray }, if_pos rfl⟩)) (fun b u e => ?_)
    · by_cases hb : b = a
      · have e' := (if_pos hb).symm.trans e
        cases e'
        exact .inl ⟨hb, hk, _, _, rfl⟩
      · exact .inr (tabOk b u ((if_neg hb).symm.trans e))
    · by_cases hb : b = a
      · have e' := (if_pos hb).symm.trans e
        cases e'
        subst hb
        exact ⟨ha, by rw [List.length_map]; exact hl, vs, _, rv, ha⟩
      · exact tabHok ((if_neg hb).symm.trans e)
theorem walk_ofT {l : PySem.W.OpenLaw} {n k : Nat} {q : Program} {loose : List Str} {XP : (Str → Option Value) → Heap → Prop} {YP : World → Heap → Prop} {d : DefRec} {K : Params → PySem.W.Frag} {x : Str}
    (hn : l.most = some n) (hn2 : n ≤ sizeLine) (hdf : d.params.defaults = []) (hr : Room k callerA)
    (hY : ∀ (w : World) (h : Heap), YP w h → (K w.params).In h)
    (F : ∀ (w : World) (mg mb : Str → Option Value) (ls : List Str) (mean : ExcName → Option Value) (fa : Addr) (h : Heap), (K w.params).In h → h.Ns mainGlobals mg → Top q ls mean mg mb h → mg d.name = some (.ref fa) →
      ∃ (fd : FuncData) (tabs : List Tab4) (sp : Sp), (∀ (s : Shared) (u : Value), BindsTo s fd ⟨[u], []⟩ [(x, u)]) ∧ (∀ t ∈ tabs, PySem.W.CodeHd h t.1 t.2.1 ∧ h.get? t.2.1 = some (PySem.W.tabObj #[])) ∧ (tabs.map (·.2.1)).Nodup ∧ PySem.W.noTabs (K w.params) = true ∧
        (∀ base : Heap, (K w.params).In base → base.Ns mainGlobals mg → (∀ t ∈ tabs, LamAt mg base t.1 t.2.1) → FnOk l.prog w (K w.params) mg base CX0 k fa fd [x] sp) ∧
        ∀ (H : Hp) (a : Addr) (ns : List Int), ns.length ≤ n → (∀ t ∈ tabs, H t.2.1 = some (.tbl t.2.2.1 t.2.2.2)) → SqL (K w.params) H a (ns.map V.int) → sp [.ref a] H (fun v _ => v = .bl true) fun _ _ _ => False) :
    PySem.W.WalkO q loose XP YP l.row.toRowW d [] (fun f vs => PySem.call f vs) := by
  refine Att.attach_call hn hdf fun w s₀ s₁ mg mb fa o pm cd doc a vs ns G Y ho hd hcd hmg hobj hints hlen hg => ?_
  have KX := hY w _ Y
  obtain ⟨fd, tabs, sp, hb, hT, hNd, hNo, hF, hsp⟩ := F w mg mb _ _ fa _ KX G.T.g G.T hmg
  exact law_callT KX G.T.g G.T.b G.T.builtins G.T.nolimit hg hobj hints (Nat.le_trans hlen hn2) hr hT hNd hNo G.T.bmain hF hb (fun H h1 h2 => hsp H a ns hlen h1 h2) fun _ _ _ z => z
end L2

set_option Elab.async false
set_option linter.all false
set_option maxRecDepth 100000
set_option maxHeartbeats 4000000
namespace K23
open PySem L2
def top (i : Nat) : Stmt := PySem.Challenge.pw_lampforge_k23_ways_down.main.body.getD i (.Pass ⟨0, 0, 0, 0⟩)
abbrev s_depths_of_knots : Stmt := top 1
abbrev s_way_down : Stmt := top 2
abbrev s_L_row : Stmt := top 4
abbrev s_L_size : Stmt := top 5
abbrev s_L_work : Stmt := top 6
abbrev s_L_long : Stmt := top 7
abbrev s_L_tall : Stmt := top 8
abbrev s_L_depths : Stmt := top 9
abbrev s_L_is_way : Stmt := top 10
abbrev s_law : Stmt := top 11
theorem sc_depths_of_knots : FnScope ["work", "deep", "one", "other"] ["work"] (defScope s_depths_of_knots) := ⟨rfl, rfl, rfl, by decide +kernel, rfl, by decide +kernel, by decide +kernel⟩
theorem sc_way_down : FnScope ["work", "knot", "deep", "before", "way", "gate"] ["work", "knot"] (defScope s_way_down) := ⟨rfl, rfl, rfl, by decide +kernel, rfl, by decide +kernel, by decide +kernel⟩
theorem sc_L_row : FnScope ["_law_script", "_law_at", "_law_many", "_law_cell", "_law_rest", "_law_great", "_law_row_here", "_law_k", "_law_one"] ["_law_script", "_law_at", "_law_many"] (defScope s_L_row) := ⟨rfl, rfl, rfl, by decide +kernel, rfl, by decide +kernel, by decide +kernel⟩
theorem sc_L_size : FnScope ["_law_number", "_law_many"] ["_law_number", "_law_many"] (defScope s_L_size) := ⟨rfl, rfl, rfl, by decide +kernel, rfl, by decide +kernel, by decide +kernel⟩
theorem sc_L_work : FnScope ["_law_row_here", "_law_sizes", "_law_ins", "_law_many", "_law_knots", "_law_some", "_law_k", "_law_kept"] ["_law_row_here", "_law_sizes"] (defScope s_L_work) := ⟨rfl, rfl, rfl, by decide +kernel, rfl, by decide +kernel, by decide +kernel⟩
theorem sc_L_long : FnScope ["_law_work_here", "_law_row_here", "_law_knots", "_law_gates", "_law_k"] ["_law_work_here", "_law_row_here"] (defScope s_L_long) := ⟨rfl, rfl, rfl, by decide +kernel, rfl, by decide +kernel, by decide +kernel⟩
theorem sc_L_tall : FnScope ["_law_work_here", "_law_knots", "_law_gates", "_law_k", "_law_one"] ["_law_work_here"] (defScope s_L_tall) := ⟨rfl, rfl, rfl, by decide +kernel, rfl, by decide +kernel, by decide +kernel⟩
theorem sc_L_depths : FnScope ["_law_work_here", "_law_found", "_law_one", "_law_other"] ["_law_work_here"] (defScope s_L_depths) := ⟨rfl, rfl, rfl, by decide +kernel, rfl, by decide +kernel, by decide +kernel⟩
theorem sc_L_is_way : FnScope ["_law_found", "_law_work_here", "_law_knot", "_law_depth", "_law_first", "_law_k", "_law_here", "_law_one", "_law_other"] ["_law_found", "_law_work_here", "_law_knot", "_law_depth"] (defScope s_L_is_way) := ⟨rfl, rfl, rfl, by decide +kernel, rfl, by decide +kernel, by decide +kernel⟩
theorem sc_law : FnScope ["_law_script", "_law_sizes", "_law_k", "_law_work_here", "_law_begin", "_law_deep", "_law_knot", "_law_found"] ["_law_script"] (defScope s_law) := ⟨rfl, rfl, rfl, by decide +kernel, rfl, by decide +kernel, by decide +kernel⟩
abbrev lp_way_down : Pos := ⟨14, 51, 14, 76⟩
abbrev lq_way_down : Str := "way_down.<locals>.<lambda>"
/-- where the top's defs and tables stand -/
structure Ad where
  a_depths_of_knots : Addr
  d_depths_of_knots : FuncData
  a_way_down : Addr
  d_way_down : FuncData
  a_L_row : Addr
  d_L_row : FuncData
  a_L_size : Addr
  d_L_size : FuncData
  a_L_work : Addr
  d_L_work : FuncData
  a_L_long : Addr
  d_L_long : FuncData
  a_L_tall : Addr
  d_L_tall : FuncData
  a_L_depths : Addr
  d_L_depths : FuncData
  a_L_is_way : Addr
  d_L_is_way : FuncData
  a_law : Addr
  d_law : FuncData
  tc_way_down : Addr
  tp_way_down : Addr
def sp_deepK : Sp := fun vs H Q _ => ∃ (w b g o : Addr) (W : Wk), vs = [.ref w] ∧ IsWkA H w b g o W ∧ W.Ok ∧ ∀ p H', H p = none → Same H H' → H' p = some (.lst ((dL W.first W.gates).map V.int)) → Q (.ref p) H'
def sp_L_tallN : Sp := fun vs H Q _ => ∃ (w b g o : Addr) (W : Wk), vs = [.ref w] ∧ IsWkA H w b g o W ∧ W.Ok ∧ W.gates.length ≤ 12 ∧ W.outs.length ≤ 8 ∧
  ∀ w' g' o' W' H', Same H H' → IsWkA H' w' b g' o' W' → W'.Ok → W'.ins = W.ins → W'.boxes = W.boxes → 1500 ≤ W'.gates.length → Q (.ref w') H'
/-- the depth of a knot -/
def dp (W : Wk) (k : Int) : Int := (dL W.first W.gates).getD k.toNat 0
/-- b lies right below the gate a -/
def Below1 (W : Wk) (a b : Int) : Prop := ∃ g, W.gates[(a - W.first).toNat]? = some g ∧ (b = g.1 / 2 ∨ b = g.2 / 2)
def InG (W : Wk) (a : Int) : Prop := (W.first : Int) ≤ a ∧ a < W.knots
/-- a way down -/
structure WayOk (W : Wk) (knot : Int) (ws : List Int) : Prop where
  hd : ws[0]? = some knot
  ing : ∀ (i : Nat) (a : Int), ws[i]? = some a → InG W a
  nx : ∀ (i : Nat) (a b : Int), ws[i]? = some a → ws[i + 1]? = some b → Below1 W a b
theorem dL_low {n : Nat} (gs : List (Int × Int)) {i : Nat} (h : i < n) : (dL n gs).getD i 0 = 0 := by
  have e := dL_take n gs 0
  have e2 : (dL n gs).getD i 0 = ((dL n gs).take (n + (gs.take 0).length)).getD i 0 := (getD_take (by show i < n + 0; omega)).symm
  rw [e2, e]
  show (List.replicate n (0 : Int)).getD i 0 = 0
  rw [List.getD_eq_getElem?_getD, List.getElem?_replicate]
  split <;> rfl
theorem dL_gate {n : Nat} {gs : List (Int × Int)} (hg : GateOk n gs) {j : Nat} (hj : j < gs.length) : (dL n gs).getD (n + j) 0 = 1 + mx ((dL n gs).getD (gs[j].1 / 2).toNat 0) ((dL n gs).getD (gs[j].2 / 2).toNat 0) := by
  obtain ⟨⟨a0, a1⟩, b0, b1⟩ := hg j gs[j] (List.getElem?_eq_getElem hj)
  have hl : (gs.take j).length = j := by rw [List.length_take, Nat.min_eq_left (by omega)]
  have hl1 : (gs.take (j + 1)).length = j + 1 := by rw [List.length_take, Nat.min_eq_left (by omega)]
  have e := dL_take n gs (j + 1)
  rw [hl1, List.take_succ_eq_append_getElem hj, dL_snoc] at e
  have e0 := dL_take n gs j
  rw [hl] at e0
  have q : ∀ i, i < n + j → (dL n (gs.take j)).getD i 0 = (dL n gs).getD i 0 := fun i h => by rw [← e0, getD_take h]
  have e1 : (dL n gs).getD (n + j) 0 = ((dL n gs).take (n + (j + 1))).getD (n + j) 0 := (getD_take (by omega)).symm
  rw [e1, e]
  unfold dstep
  have hlen : (dL n (gs.take j)).length = n + j := by rw [dL_length, hl]
  rw [List.getD_eq_getElem?_getD, List.getElem?_append_right (by omega), hlen, Nat.sub_self, List.getElem?_cons_zero, Option.getD_some, q _ (by omega), q _ (by omega)]
theorem dL_pos {n : Nat} {gs : List (Int × Int)} (hg : GateOk n gs) : ∀ i, 0 ≤ (dL n gs).getD i 0 := fun i => by
  induction i using Nat.strongRecOn with
  | _ i ih =>
    by_cases h : i < n
    · rw [dL_low gs h]
      exact Int.le_refl _
    · by_cases h2 : i < n + gs.length
      · have hj : i - n < gs.length := by omega
        have e : n + (i - n) = i := by omega
        obtain ⟨⟨a0, a1⟩, b0, b1⟩ := hg (i - n) gs[i - n] (List.getElem?_eq_getElem hj)
        have := dL_gate hg hj
        rw [e] at this
        rw [this]
        have h3 := ih (gs[i - n].1 / 2).toNat (by omega)
        have h4 := ih (gs[i - n].2 / 2).toNat (by omega)
        unfold mx
        split <;> omega
      · rw [List.getD_eq_getElem?_getD, List.getElem?_eq_none (by rw [dL_length]; omega)]
        exact Int.le_refl _
theorem snoc_at {α : Type} {xs : List α} {y a : α} {i : Nat} (h : (xs ++ [y])[i]? = some a) : xs[i]? = some a ∨ (i = xs.length ∧ a = y) := by
  by_cases hi : i < xs.length
  · rw [List.getElem?_append_left hi] at h
    exact .inl h
  · rw [List.getElem?_append_right (by omega)] at h
    cases e : i - xs.length with
    | zero => rw [e] at h; exact .inr ⟨by omega, (Option.some.inj h).symm⟩
    | succ m => rw [e] at h; simp at h
/-- a way begun, and where it has come to -/
structure WayTo (W : Wk) (knot : Int) (ws : List Int) (k : Int) : Prop where
  hd : (ws ++ [k])[0]? = some knot
  ing : ∀ (i : Nat) (a : Int), ws[i]? = some a → InG W a
  nx : ∀ (i : Nat) (a b : Int), ws[i]? = some a → (ws ++ [k])[i + 1]? = some b → Below1 W a b
  len : (ws.length : Int) + dp W k = dp W knot
  k0 : 0 ≤ k
  kn : k < W.knots
theorem WayTo.step {W : Wk} {knot k k' : Int} {ws : List Int} (h : WayTo W knot ws k) (hg : InG W k) (hb : Below1 W k k') (hd : dp W k = 1 + dp W k') (h0 : 0 ≤ k') (hn : k' < W.knots) : WayTo W knot (ws ++ [k]) k' where
  hd := by
    rw [List.getElem?_append_left (by rw [List.length_append, List.length_singleton]; omega)]
    exact h.hd
  ing := fun i a e => by
    rcases snoc_at e with e | ⟨_, rfl⟩
    · exact h.ing i a e
    · exact hg
  nx := fun i a b e1 e2 => by
    rcases snoc_at e1 with e | ⟨rfl, rfl⟩
    · have hi : i < ws.length := (List.getElem?_eq_some_iff.mp e).1
      rw [List.getElem?_append_left (by rw [List.length_append, List.length_singleton]; omega)] at e2
      exact h.nx i a b e e2
    · rcases snoc_at e2 with e | ⟨_, rfl⟩
      · have := (List.getElem?_eq_some_iff.mp e).1
        rw [List.length_append, List.length_singleton] at this
        omega
      · exact hb
  len := by
    have := h.len
    rw [List.length_append, List.length_singleton]
    omega
  k0 := h0
  kn := hn
theorem WayTo.done {W : Wk} {knot k : Int} {ws : List Int} (h : WayTo W knot ws k) (hz : dp W k ≤ 0) (hp : 0 < dp W knot) (hk : 0 ≤ dp W k) : WayOk W knot ws ∧ (ws.length : Int) = dp W knot := by
  have hl := h.len
  have hne : 0 < ws.length := by omega
  refine ⟨⟨?_, h.ing, fun i a b e1 e2 => h.nx i a b e1 (by rw [List.getElem?_append_left (List.getElem?_eq_some_iff.mp e2).1]; exact e2)⟩, by omega⟩
  have := h.hd
  rw [List.getElem?_append_left hne] at this
  exact this
def sp_way_down (P : Addr) : Sp := fun vs H Q _ => ∃ (w b g o : Addr) (W : Wk) (knot : Int), vs = [.ref w, .int knot] ∧ IsWkA H w b g o W ∧ W.Ok ∧ InG W knot ∧ H P = some (.tbl lp_way_down lq_way_down) ∧
  ∀ p (ws : List Int) H', H p = none → Same H H' → H' p = some (.lst (ws.map V.int)) → WayOk W knot ws → (ws.length : Int) = dp W knot → ws.length ≤ 3000 → Q (.ref p) H'
def sp_is_way : Sp := fun vs H Q _ => ∃ (f w b g o : Addr) (W : Wk) (knot depth : Int) (ws : List Int), vs = [.ref f, .ref w, .int knot, .int depth] ∧ H f = some (.lst (ws.map V.int)) ∧ IsWkA H w b g o W ∧ W.Ok ∧ WayOk W knot ws ∧ (ws.length : Int) = depth ∧ ws.length ≤ 3000 ∧ Q (.bl true) H
def sp_law (K : PySem.W.Frag) (P : Addr) : Sp := fun vs H Q _ => ∃ (a : Addr) (ns : List Int), vs = [.ref a] ∧ SqL K H a (ns.map V.int) ∧ ns.length ≤ 63 ∧ H P = some (.tbl lp_way_down lq_way_down) ∧ ∀ H', Q (.bl true) H'
theorem dp_gate {W : Wk} (ok : W.Ok) {k : Int} (hk : InG W k) {g : Int × Int} (hg : W.gates[(k - W.first).toNat]? = some g) : dp W k = 1 + mx (dp W (g.1 / 2)) (dp W (g.2 / 2)) := by
  obtain ⟨h1, h2⟩ := hk
  obtain ⟨hj, e⟩ := List.getElem?_eq_some_iff.mp hg
  have := dL_gate ok.gate hj
  rw [show W.first + (k - W.first).toNat = k.toNat by omega, e] at this
  exact this
theorem dp_pos {W : Wk} (ok : W.Ok) (k : Int) : 0 ≤ dp W k := dL_pos ok.gate _
theorem dp_ing {W : Wk} (ok : W.Ok) {k : Int} (hk : InG W k) : 0 < dp W k := by
  obtain ⟨h1, h2⟩ := id hk
  have hj : (k - W.first).toNat < W.gates.length := by
    have : (W.knots : Int) = W.first + W.gates.length := by unfold Wk.knots; omega
    omega
  rw [dp_gate ok hk (List.getElem?_eq_getElem hj)]
  have a := dp_pos ok (W.gates[(k - W.first).toNat].1 / 2)
  have b := dp_pos ok (W.gates[(k - W.first).toNat].2 / 2)
  unfold mx
  split <;> omega
theorem dp_below {W : Wk} {k : Int} (h0 : 0 ≤ k) (hk : k < W.knots) (hz : 0 < dp W k) : InG W k := by
  refine ⟨?_, hk⟩
  by_cases h : (W.first : Int) ≤ k
  · exact h
  · exfalso
    unfold dp at hz
    rw [dL_low _ (by omega)] at hz
    omega
theorem dL_le {n : Nat} {gs : List (Int × Int)} (hg : GateOk n gs) : ∀ i, i < n + gs.length → (dL n gs).getD i 0 ≤ i := fun i => by
  induction i using Nat.strongRecOn with
  | _ i ih =>
    intro h2
    by_cases h : i < n
    · rw [dL_low gs h]
      omega
    · have hj : i - n < gs.length := by omega
      have e : n + (i - n) = i := by omega
      obtain ⟨⟨a0, a1⟩, b0, b1⟩ := hg (i - n) gs[i - n] (List.getElem?_eq_getElem hj)
      have := dL_gate hg hj
      rw [e] at this
      rw [this]
      have h3 := ih (gs[i - n].1 / 2).toNat (by omega) (by omega)
      have h4 := ih (gs[i - n].2 / 2).toNat (by omega) (by omega)
      unfold mx
      split <;> omega
theorem dp_le {W : Wk} (ok : W.Ok) (k : Int) : dp W k ≤ 2100 := by
  have h7 := ok.ins
  have h8 := ok.boxes
  have hg2 := ok.gates
  have hfe : W.first = 1 + W.ins + W.boxes.length := rfl
  unfold dp
  by_cases h : k.toNat < W.first + W.gates.length
  · have := dL_le ok.gate k.toNat h
    omega
  · rw [List.getD_eq_getElem?_getD, List.getElem?_eq_none (by rw [dL_length]; omega)]
    show (0 : Int) ≤ 2100
    omega

/-- what the top has written -/
structure Tx (w : World) (K : PySem.W.Frag) (mg : Str → Option Value) (A : Ad) : Prop where
  abs : mg "abs" = none
  bool : mg "bool" = none
  int : mg "int" = none
  isinstance : mg "isinstance" = none
  len : mg "len" = none
  list : mg "list" = none
  max : mg "max" = none
  min : mg "min" = none
  range : mg "range" = none
  F_depths_of_knots : Fun K "depths_of_knots" "depths_of_knots" s_depths_of_knots A.a_depths_of_knots A.d_depths_of_knots
  B_depths_of_knots : Binds K A.d_depths_of_knots ["work"] []
  M_depths_of_knots : mg "depths_of_knots" = some (.ref A.a_depths_of_knots)
  F_way_down : Fun K "way_down" "way_down" s_way_down A.a_way_down A.d_way_down
  B_way_down : Binds K A.d_way_down ["work", "knot"] []
  M_way_down : mg "way_down" = some (.ref A.a_way_down)
  F_L_row : Fun K "_law_row" "_law_row" s_L_row A.a_L_row A.d_L_row
  B_L_row : Binds K A.d_L_row ["_law_script", "_law_at", "_law_many"] []
  M_L_row : mg "_law_row" = some (.ref A.a_L_row)
  F_L_size : Fun K "_law_size" "_law_size" s_L_size A.a_L_size A.d_L_size
  B_L_size : Binds K A.d_L_size ["_law_number", "_law_many"] []
  M_L_size : mg "_law_size" = some (.ref A.a_L_size)
  F_L_work : Fun K "_law_work" "_law_work" s_L_work A.a_L_work A.d_L_work
  B_L_work : Binds K A.d_L_work ["_law_row_here", "_law_sizes"] []
  M_L_work : mg "_law_work" = some (.ref A.a_L_work)
  F_L_long : Fun K "_law_long" "_law_long" s_L_long A.a_L_long A.d_L_long
  B_L_long : Binds K A.d_L_long ["_law_work_here", "_law_row_here"] []
  M_L_long : mg "_law_long" = some (.ref A.a_L_long)
  F_L_tall : Fun K "_law_tall" "_law_tall" s_L_tall A.a_L_tall A.d_L_tall
  B_L_tall : Binds K A.d_L_tall ["_law_work_here"] []
  M_L_tall : mg "_law_tall" = some (.ref A.a_L_tall)
  F_L_depths : Fun K "_law_depths" "_law_depths" s_L_depths A.a_L_depths A.d_L_depths
  B_L_depths : Binds K A.d_L_depths ["_law_work_here"] []
  M_L_depths : mg "_law_depths" = some (.ref A.a_L_depths)
  F_L_is_way : Fun K "_law_is_way" "_law_is_way" s_L_is_way A.a_L_is_way A.d_L_is_way
  B_L_is_way : Binds K A.d_L_is_way ["_law_found", "_law_work_here", "_law_knot", "_law_depth"] []
  M_L_is_way : mg "_law_is_way" = some (.ref A.a_L_is_way)
  F_law : Fun K "law" "law" s_law A.a_law A.d_law
  B_law : Binds K A.d_law ["_law_script"] []
  M_law : mg "law" = some (.ref A.a_law)
  L_way_down : A.d_way_down.code = .ref A.tc_way_down
section
variable {P : Program} {w : World} {K : PySem.W.Frag} {mg : Str → Option Value} {base : Heap} {A : Ad}
seal L2.PE L2.PA L2.PT L2.PS L2.PSs
theorem ok_depths_of_knots (T : Tx w K mg A) : FnOk P w K mg base CX0 1 A.a_depths_of_knots A.d_depths_of_knots ["work"] sp_deepK := by
  refine T.F_depths_of_knots.ok sc_depths_of_knots (fun vs H Q E h => ?_) (fun cdv A' outer s H vs Q E hr h => ?_)
  · obtain ⟨w, b, g, o, W, rfl, hW, ok, q⟩ := h
    rfl
  obtain ⟨w, b, g, o, W, rfl, hW, ok, q⟩ := h
  refine ⟨_, (pss_cons (ps_set (i := 1) sc_depths_of_knots.nd rfl (Or.inl rfl) (pe_op op_rep (pe_lst (pa_cons pe_int pa_nil)) (pe_op op_add (pe_op op_add pe_int (pe_ix ix_tup (pv 0) pe_int (fun _ _ => rfl))) (pe_callB call_len rfl T.len PySem.boot_len (pa_cons (pe_ix ix_tup (pv 0) pe_int (fun _ _ => rfl)) pa_nil)))))
    (pss_cons (ps_for PassesOwn.never rfl (pi_list (pe_ix ix_tup (pv 0) pe_int (fun _ _ => rfl))) (pg_tup rfl (pgs_cons (pg_name (i := 2) sc_depths_of_knots.nd rfl (Or.inl rfl)) (pgs_cons (pg_name (i := 3) sc_depths_of_knots.nd rfl (Or.inl rfl)) pgs_nil)))
        (pss_one (ps_expr (pe_bm PySem.F.plainAttrs_list PySem.F.slot_list_append PySem.F.type_list_append mt_append (pv 1) (pa_cons (pe_op op_add pe_int (pe_callB (call_max2 rfl) rfl T.max PyProof.Rows.boot_max (pa_cons (pe_ix ix_list (pv 1) (pe_op op_fdivL (pv 2) pe_int) (fun _ _ => rfl)) (pa_cons (pe_ix ix_list (pv 1) (pe_op op_fdivL (pv 3) pe_int) (fun _ _ => rfl)) pa_nil)))) pa_nil)))))
    (pss_one (ps_ret (pv 1))))), ?_⟩
  obtain ⟨bs, hB⟩ := hW.b
  obtain ⟨gs, hG⟩ := hW.g
  have hbl : (bs.map V.ref).length = W.boxes.length := by rw [List.length_map, hB.length]
  have hgl : (gs.map V.ref).length = W.gates.length := by rw [List.length_map, hG.length]
  have h7 := ok.ins
  have h8 := ok.boxes
  have hg2 := ok.gates
  refine ⟨(by show 1 ≤ sizeLine; decide), fun z hz => ?_⟩
  have s1 := same_new hz (.lst [.int 0])
  have W1 := hW.same s1
  have hfi : (1 + (W.ins : Int) + ((bs.map V.ref).length : Nat)).toNat = W.first := by rw [hbl]; show _ = 1 + W.ins + W.boxes.length; omega
  refine ⟨_, rfl, w, _, _, _, rfl, rfl, SqT.of W1.w, rfl, _, _, rfl, rfl, _, rfl, w, _, _, _, rfl, rfl, SqT.of W1.w, rfl, _, _, rfl, .inl ⟨_, SqL.of (hB.same s1).1, rfl⟩, _, _, rfl, rfl, z, _, _, rfl, rfl, upd_same, by omega, by omega, ?_, fun p hp => ?_⟩
  · rw [hfi]
    show 1 * W.first ≤ _
    exact small (by show 1 * (1 + W.ins + W.boxes.length) ≤ 100000; omega)
  rw [hfi]
  have hrep : (List.replicate W.first [V.int 0]).flatten = (dL W.first (W.gates.take 0)).map V.int := by
    show _ = (List.replicate W.first (0 : Int)).map V.int
    rw [List.map_replicate]
    induction W.first with
    | zero => rfl
    | succ n ih => rw [List.replicate_succ, List.flatten_cons, ih, List.replicate_succ]; rfl
  rw [hrep]
  have s2 := s1.trans (same_new hp (.lst ((dL W.first (W.gates.take 0)).map V.int)))
  have hpn := s1.free hp
  refine ⟨_, rfl, w, _, _, _, rfl, rfl, SqT.of (hW.same s2).w, rfl, g, rfl, ⟨_, SqL.of (hG.same s2).1⟩, for_list (xs := gs.map V.ref) (fun i σ H' => ∃ x y, σ = [some (.ref w), some (.ref p), x, y] ∧ H' p = some (.lst ((dL W.first (W.gates.take i)).map V.int)) ∧ Same H H') ⟨_, _, rfl, upd_same, s2⟩ ?_ ?_ ?_⟩
  · rintro i σ H' _ ⟨x, y, rfl, _, hs⟩
    exact SqL.of (hG.same hs).1
  · rintro i v σ H' hv ⟨x, y, rfl, hp', hs⟩
    have hi : i < W.gates.length := by
      obtain ⟨h, _⟩ := List.getElem?_eq_some_iff.mp hv
      rw [hgl] at h
      exact h
    obtain ⟨r, hr1, hr2⟩ := (hG.same hs).get hi
    rw [hr1] at hv
    cases hv
    obtain ⟨⟨a0, a1⟩, b0, b1⟩ := ok.gate i W.gates[i] (List.getElem?_eq_getElem hi)
    have hdl : (dL W.first (W.gates.take i)).length = W.first + i := by rw [dL_length, List.length_take, Nat.min_eq_left (by omega)]
    obtain ⟨v1, hv1, _, e1⟩ := at_ints (ns := dL W.first (W.gates.take i)) (i := W.gates[i].1 / 2) (by omega) (by rw [hdl]; omega)
    obtain ⟨v2, hv2, _, e2⟩ := at_ints (ns := dL W.first (W.gates.take i)) (i := W.gates[i].2 / 2) (by omega) (by rw [hdl]; omega)
    refine ⟨r, _, rfl, SqT.of hr2, rfl, _, _, rfl, _, _, rfl, rfl, ?_⟩
    refine ⟨_, rfl, .inl ⟨rfl, _, SqL.of hp'⟩, _, rfl, _, rfl, _, _, rfl, rfl, ⟨by decide, by decide⟩, p, _, _, _, rfl, rfl, SqL.of hp', hv1, _, rfl, _, rfl, _, _, rfl, rfl, ⟨by decide, by decide⟩, p, _, _, _, rfl, rfl, SqL.of hp', hv2, _, _, rfl, _, _, rfl, rfl, p, _, _, rfl, rfl, hp', ?_, ?_⟩
    · rw [List.length_map, hdl]
      exact smallL (by show 1 + W.ins + W.boxes.length + i ≤ 100000; omega)
    · refine ⟨_, _, rfl, ?_, sameUpd hs hpn _⟩
      rw [upd_same, List.take_succ_eq_append_getElem hi, dL_snoc, e1, e2]
      show _ = some (HO.lst (List.map V.int (_ ++ _)))
      rw [List.map_append]
      rfl
  · rintro σ H' ⟨x, y, rfl, hp', hs⟩
    refine ⟨_, rfl, q p H' hpn hs ?_⟩
    rw [hgl] at hp'
    rw [hp', List.take_length]
theorem ok_way_down (T : Tx w K mg A) (C_way_down : LamAt mg base A.tc_way_down A.tp_way_down) (G_depths_of_knots : FnOk P w K mg base CX0 1 A.a_depths_of_knots A.d_depths_of_knots ["work"] sp_deepK) : FnOk P w K mg base CX0 2 A.a_way_down A.d_way_down ["work", "knot"] (sp_way_down A.tp_way_down) := by
  refine T.F_way_down.okC T.L_way_down sc_way_down (fun vs H Q E h => ?_) (fun A' outer s H vs Q E hr h => ?_)
  · obtain ⟨w, b, g, o, W, knot, rfl, hW, ok, hkn, hP, q⟩ := h
    rfl
  obtain ⟨w, b, g, o, W, knot, rfl, hW, ok, hkn, hP, q⟩ := h
  refine ⟨_, (pss_cons (ps_set (i := 2) sc_way_down.nd rfl (Or.inr rfl) (pe_call G_depths_of_knots (hr.mono (by first | decide | omega)) rfl T.M_depths_of_knots T.F_depths_of_knots.kp T.B_depths_of_knots .nil pass0 (pa_cons (pv 0) pa_nil)))
    (pss_cons (ps_set (i := 3) sc_way_down.nd rfl (Or.inl rfl) (pe_op op_add (pe_op op_add pe_int (pe_ix ix_tup (pv 0) pe_int (fun _ _ => rfl))) (pe_callB call_len rfl T.len PySem.boot_len (pa_cons (pe_ix ix_tup (pv 0) pe_int (fun _ _ => rfl)) pa_nil))))
    (pss_cons (ps_set (i := 4) sc_way_down.nd rfl (Or.inl rfl) (pe_lst pa_nil))
    (pss_cons (ps_while PassesOwn.never (pt_cmpR op_gt (pe_ix ix_list (pv 2) (pv 1) (fun _ _ => rfl)) pe_int (nomark _))
        (pss_cons (ps_expr (pe_bm PySem.F.plainAttrs_list PySem.F.slot_list_append PySem.F.type_list_append mt_append (pv 4) (pa_cons (pv 1) pa_nil)))
    (pss_cons (ps_set (i := 5) sc_way_down.nd rfl (Or.inl rfl) (pe_ix ix_list (pe_ix ix_tup (pv 0) pe_int (fun _ _ => rfl)) (pe_op op_sub (pv 1) (pv 3)) (fun _ _ => rfl)))
    (pss_one (ps_set (i := 1) sc_way_down.nd rfl (Or.inl rfl) (pe_maxKey (fr := "deep") (x := "below") (qual := lq_way_down) 2 C_way_down rfl hr rfl rfl T.max (pa_cons (pe_op op_fdivL (pe_ix ix_tup (pv 5) pe_int (fun _ _ => rfl)) pe_int) (pa_cons (pe_op op_fdivL (pe_ix ix_tup (pv 5) pe_int (fun _ _ => rfl)) pe_int) pa_nil)) (by first | rfl | decide) rfl rfl rfl rfl rfl rfl rfl rfl rfl rfl (fun _ _ _ _ => rfl) (fun _ _ _ _ _ => (pe_ix (ix_listK (K := K) rfl) (pv 0) (pv 1) (fun _ _ => rfl)))))))))
    (pss_one (ps_ret (pv 4))))))), ?_⟩
  obtain ⟨bs, hB⟩ := hW.b
  obtain ⟨gs, hG⟩ := hW.g
  have hbl : (bs.map V.ref).length = W.boxes.length := by rw [List.length_map, hB.length]
  have hgl : (gs.map V.ref).length = W.gates.length := by rw [List.length_map, hG.length]
  have hfe : W.first = 1 + W.ins + W.boxes.length := rfl
  have hke : (W.knots : Int) = W.first + W.gates.length := by unfold Wk.knots; omega
  have hfi : (1 + (W.ins : Int) + ((bs.map V.ref).length : Nat)) = ((W.first : Nat) : Int) := by rw [hbl, hfe]; omega
  have h7 := ok.ins
  have h8 := ok.boxes
  have hg2 := ok.gates
  have hlenD : (dL W.first W.gates).length = W.first + W.gates.length := dL_length _ _
  refine ⟨_, rfl, w, b, g, o, W, rfl, hW, ok, fun p H1 hp s1 h1 => ?_⟩
  refine ⟨_, rfl, w, _, _, _, rfl, rfl, SqT.of (hW.same s1).w, rfl, _, _, rfl, rfl, _, rfl, w, _, _, _, rfl, rfl, SqT.of (hW.same s1).w, rfl, _, _, rfl, .inl ⟨_, SqL.of (hB.same s1).1, rfl⟩, _, _, rfl, rfl, ?_⟩
  dsimp only
  rw [hfi]
  refine ⟨(by show 0 ≤ sizeLine; decide), fun y hy => ?_⟩
  have s2 := s1.trans (same_new hy (.lst []))
  have hyp : y ≠ p := fun e => by rw [e, h1] at hy; cases hy
  have hyn := s1.free hy
  let WI : Nat → St → Hp → Prop := fun m σ H2 => ∃ (ws : List Int) (k : Int) (x : Option V), σ = [some (.ref w), some (.int k), some (.ref p), some (.int ((W.first : Nat) : Int)), some (.ref y), x] ∧ Same H H2 ∧ H2 p = some (.lst ((dL W.first W.gates).map V.int)) ∧ H2 y = some (.lst (ws.map V.int)) ∧ WayTo W knot ws k ∧ m = (dp W k).toNat
  refine ⟨WI, ⟨_, [], knot, none, rfl, s2, same_new hy _ _ _ h1, upd_same, ⟨rfl, fun i a e => by simp at e, fun i a b e => by simp at e, by show (0 : Int) + _ = _; omega, by have := hkn.1; omega, hkn.2⟩, rfl⟩, ?_⟩
  rintro m σ H2 ⟨ws, k, x, rfl, s3, hp2, hy2, hT, rfl⟩
  obtain ⟨v1, hv1, _, e1⟩ := at_ints (ns := dL W.first W.gates) (i := k) hT.k0 (by rw [hlenD]; have := hT.kn; omega)
  have e1' : v1 = dp W k := e1
  refine ⟨_, rfl, _, rfl, p, _, _, _, rfl, rfl, SqL.of hp2, hv1, _, _, rfl, rfl, _, rfl, ?_⟩
  refine ite2 (fun c => ?_) (fun c => ?_)
  · have c' : (0 : Int) < v1 := of_decide_eq_true c
    rw [e1'] at c'
    have hin : InG W k := dp_below hT.k0 hT.kn c'
    refine ⟨fun σ' H' => ∃ m', m' < (dp W k).toNat ∧ WI m' σ' H', fun _ _ h => h, ?_⟩
    have hwl : (ws.length : Int) ≤ 3000 := by
      have h1 := hT.len
      have h2 := dp_le ok knot
      have h3 := dp_pos ok k
      omega
    refine ⟨_, rfl, .inl ⟨rfl, _, SqL.of hy2⟩, _, rfl, y, _, _, rfl, rfl, hy2, (by rw [List.length_map]; exact smallL (by omega)), ?_⟩
    have s4 := sameUpd s3 hyn (.lst (ws.map V.int ++ [.int k]))
    have hj : (k - W.first).toNat < W.gates.length := by have := hin.1; have := hin.2; omega
    obtain ⟨r, hr1, hr2⟩ := (hG.same s4).get hj
    have hat : atI (gs.map V.ref) (k - ((W.first : Nat) : Int)) = some (.ref r) := by
      have : k - ((W.first : Nat) : Int) = (((k - W.first).toNat : Nat) : Int) := by have := hin.1; omega
      rw [this]
      exact atI_nat hr1
    refine ⟨_, rfl, w, _, _, _, rfl, rfl, SqT.of (hW.same s4).w, rfl, _, rfl, _, rfl, _, _, rfl, rfl, g, _, _, _, rfl, rfl, SqL.of (hG.same s4).1, hat, ?_⟩
    obtain ⟨⟨a0, a1⟩, b0, b1⟩ := ok.gate _ _ (List.getElem?_eq_getElem hj)
    have hd := dp_gate ok hin (List.getElem?_eq_getElem hj)
    generalize hgg : W.gates[(k - W.first).toNat] = gg at *
    have hP4 := s4 _ _ hP
    have hp4 : (upd H2 y (.lst (ws.map V.int ++ [.int k]))) p = some (.lst ((dL W.first W.gates).map V.int)) := by rw [upd_ne hyp.symm]; exact hp2
    refine ⟨_, rfl, r, _, _, _, rfl, rfl, SqT.of hr2, rfl, _, _, rfl, rfl, ⟨by decide, by decide⟩, _, rfl, r, _, _, _, rfl, rfl, SqT.of hr2, rfl, _, _, rfl, rfl, ⟨by decide, by decide⟩, ?_⟩
    obtain ⟨k1, hk1, _, f1⟩ := at_ints (ns := dL W.first W.gates) (i := gg.1 / 2) (by omega) (by rw [hlenD]; omega)
    obtain ⟨k2, hk2, _, f2⟩ := at_ints (ns := dL W.first W.gates) (i := gg.2 / 2) (by omega) (by rw [hlenD]; omega)
    have f1' : k1 = dp W (gg.1 / 2) := f1
    have f2' : k2 = dp W (gg.2 / 2) := f2
    refine ⟨.int (gg.1 / 2), .int (gg.2 / 2), .ref p, k1, k2, rfl, rfl, hP4, fun H5 s5 => ⟨?_, ?_, ?_⟩⟩
    · exact ⟨_, rfl, _, rfl, p, _, _, _, rfl, rfl, SqL.of (s5 _ _ hp4), hk1, rfl, rfl⟩
    · exact ⟨_, rfl, _, rfl, p, _, _, _, rfl, rfl, SqL.of (s5 _ _ hp4), hk2, rfl, rfl⟩
    have hy5 : H5 y = some (.lst ((ws ++ [k]).map V.int)) := by rw [s5 _ _ upd_same, List.map_append]; rfl
    have fin : ∀ k', (k' = gg.1 / 2 ∨ k' = gg.2 / 2) → dp W k = 1 + dp W k' → 0 ≤ k' → k' < W.knots → ∃ m', m' < (dp W k).toNat ∧ WI m' [some (.ref w), some (.int k'), some (.ref p), some (.int ((W.first : Nat) : Int)), some (.ref y), some (.ref r)] H5 := fun k' h1 h2 h3 h4 => by
      have := dp_pos ok k'
      exact ⟨(dp W k').toNat, by omega, ws ++ [k], k', _, rfl, s4.trans s5, s5 _ _ hp4, hy5, hT.step hin ⟨gg, by rw [List.getElem?_eq_getElem hj, hgg], h1⟩ h2 h3 h4, rfl⟩
    have hmx : mx (dp W (gg.1 / 2)) (dp W (gg.2 / 2)) = if k2 > k1 then k2 else k1 := by rw [f1', f2']; rfl
    rw [hmx] at hd
    by_cases hc : k2 > k1
    · rw [if_pos hc] at hd ⊢
      exact fin (gg.2 / 2) (.inr rfl) (by rw [hd, f2']) (by omega) (by rw [hke]; omega)
    · rw [if_neg hc] at hd ⊢
      exact fin (gg.1 / 2) (.inl rfl) (by rw [hd, f1']) (by omega) (by rw [hke]; omega)
  · have c' : ¬ (0 : Int) < v1 := of_decide_eq_false (by simpa using c)
    rw [e1'] at c'
    obtain ⟨h1, h2⟩ := hT.done (by omega) (dp_ing ok hkn) (dp_pos ok k)
    have h3 := dp_le ok knot
    exact ⟨_, rfl, q y ws H2 hyn s3 hy2 h1 h2 (by omega)⟩
theorem ok_L_row (T : Tx w K mg A) : FnOk P w K mg base CX0 1 A.a_L_row A.d_L_row ["_law_script", "_law_at", "_law_many"] (sp_L_row K) := by
  refine T.F_L_row.ok sc_L_row (fun vs H Q E h => ?_) (fun cdv A' outer s H vs Q E hr h => ?_)
  · obtain ⟨a, ns, i, n, rfl, hS, h63, hi, hn, hn2, q⟩ := h
    rfl
  obtain ⟨a, ns, i, n, rfl, hS, h63, hi, hn, hn2, q⟩ := h
  refine ⟨_, (pss_cons (ps_set (i := 3) sc_L_row.nd rfl (Or.inl rfl) pe_int)
    (pss_cons (ps_if (pt_cmpR op_lt (pv 1) (pe_callB call_len rfl T.len PySem.boot_len (pa_cons (pv 0) pa_nil)) (nomark _)) (pss_one (ps_set (i := 3) sc_L_row.nd rfl (Or.inl rfl) (pe_ix ix_list (pv 0) (pv 1) (fun _ _ => rfl)))) pss_nil)
    (pss_cons (ps_set (i := 4) sc_L_row.nd rfl (Or.inl rfl) (pe_callB call_abs rfl T.abs PyProof.Rows.boot_abs (pa_cons (pv 3) pa_nil)))
    (pss_cons (ps_set (i := 5) sc_L_row.nd rfl (Or.inl rfl) (pe_cmpR op_ge (pv 4) (pe_op op_pow pe_int pe_int) (nomark _)))
    (pss_cons (ps_set (i := 6) sc_L_row.nd rfl (Or.inl rfl) (pe_lst pa_nil))
    (pss_cons (ps_for PassesOwn.never rfl (pi_range1 rfl T.range (pa_cons (pv 2) pa_nil)) (pg_name (i := 7) sc_L_row.nd rfl (Or.inl rfl))
        (pss_one (ps_if (PW.pt (pw_and (pt_truth (pv 5) (fun _ => rfl)) (pw_and1 (pt_cmpR op_gt (pv 4) pe_int (nomark _))))) (pss_cons (ps_expr (pe_bm PySem.F.plainAttrs_list PySem.F.slot_list_append PySem.F.type_list_append mt_append (pv 6) (pa_cons (pe_op op_mod (pv 4) (pe_op op_pow pe_int pe_int)) pa_nil)))
    (pss_one (ps_set (i := 4) sc_L_row.nd rfl (Or.inl rfl) (pe_op op_fdivL (pv 4) (pe_op op_pow pe_int pe_int))))) (pss_cons (ps_set (i := 8) sc_L_row.nd rfl (Or.inl rfl) (pe_op op_add (pe_op op_add (pe_op op_add (pe_op op_add (pe_op op_mod (pe_callB call_abs rfl T.abs PyProof.Rows.boot_abs (pa_cons (pv 3) pa_nil)) pe_int) (pe_op op_mul (pe_op op_mul pe_int (pv 7)) (pv 7))) (pe_op op_mul pe_int (pv 1))) (pe_op op_mul pe_int (pv 7))) pe_int))
    (pss_cons (ps_set (i := 8) sc_L_row.nd rfl (Or.inl rfl) (pe_op op_mod (pe_op op_mul (pv 8) pe_int) pe_int))
    (pss_one (ps_expr (pe_bm PySem.F.plainAttrs_list PySem.F.slot_list_append PySem.F.type_list_append mt_append (pv 6) (pa_cons (pe_op op_mod (pe_op op_add (pe_op op_mod (pe_op op_mul (pv 8) (pv 8)) pe_int) (pe_op op_fdivL (pv 8) pe_int)) (pe_op op_pow pe_int pe_int)) pa_nil)))))))))
    (pss_one (ps_ret (pv 6))))))))), ?_⟩
  have hl : (ns.map V.int).length = ns.length := List.length_map _
  refine ⟨_, rfl, _, rfl, _, _, rfl, .inl ⟨_, hS, rfl⟩, _, _, rfl, rfl, _, rfl, ?_⟩
  refine ite2 (fun c => ?_) (fun c => ?_)
  · have c' : i < (((ns.map V.int).length : Nat) : Int) := of_decide_eq_true c
    rw [hl] at c'
    obtain ⟨cell, hv, _⟩ := at_ints hi c'
    refine ⟨_, rfl, _, rfl, a, _, _, _, rfl, rfl, hS, hv, ?_⟩
    refine ⟨_, rfl, _, rfl, ?_⟩
    refine ⟨_, rfl, _, _, rfl, rfl, ⟨by decide, by decide, by decide⟩, _, _, rfl, rfl, ?_⟩
    refine ⟨(by show 0 ≤ sizeLine; decide), fun p hp => ?_⟩
    refine ⟨_, rfl, _, rfl, by omega, by omega, for_range (lo := 0) (RowInv a p i n H)
      ⟨_, _, _, [], none, none, rfl, by split <;> omega, rfl, (fun _ h => nomatch h), same_new hp _, upd_same⟩ ?_ ?_⟩
    · rintro j σ H1 hj ⟨cell, great, rest, rs, x, y, rfl, hr0, hrs, hd, hs1, hp1⟩
      have hlen : (rs.map V.int).length < sizeLine := by rw [List.length_map]; exact smallL (by omega)
      have big : ∀ v : Int, 0 ≤ v → v < 1000000 → ∀ (rest' : Int) (x' y' : Option V), 0 ≤ rest' → RowInv a p i n H (j + 1) [some (V.ref a), some (.int i), some (.int n), some (.int cell), some (.int rest'), some (.bl great), some (.ref p), x', y'] (upd H1 p (.lst (rs.map V.int ++ [.int v]))) := fun v h0 h1 rest' x' y' hr' =>
        ⟨cell, great, rest', rs ++ [v], _, _, rfl, hr', by rw [List.length_append, hrs]; rfl, hd.snoc h0 h1, sameUpd hs1 hp _, by rw [upd_same, List.map_append]; rfl⟩
      refine ⟨_, rfl, _, rfl, ?_⟩
      refine ite2 (fun c1 => ?_) (fun c1 => ?_)
      · refine ⟨_, rfl, _, _, rfl, rfl, _, rfl, ?_⟩
        refine ite2 (fun c2 => ?_) (fun c2 => ?_)
        · refine ⟨_, rfl, .inl ⟨rfl, _, SqL.of hp1⟩, _, rfl, _, _, rfl, rfl, ⟨by decide, by decide, by decide⟩, _, _, rfl, rfl, (by show (0 : Int) < 10 ^ 4; decide), p, _, _, rfl, rfl, hp1, hlen, ?_⟩
          refine ⟨_, rfl, _, _, rfl, rfl, ⟨by decide, by decide, by decide⟩, _, _, rfl, rfl, (by show (0 : Int) < 10 ^ 4 ∧ (10 : Int) ^ 4 < bigB; exact ⟨by decide, by decide⟩), ?_⟩
          exact big _ (Int.emod_nonneg _ (by decide)) (Int.lt_trans (Int.emod_lt_of_pos rest (show (0 : Int) < 10 ^ (4 : Int).toNat by decide)) (by decide)) _ _ _ (Int.ediv_nonneg hr0 (show (0 : Int) ≤ 10 ^ (4 : Int).toNat by decide))
        · refine ⟨_, rfl, _, rfl, _, _, rfl, rfl, (by show (0 : Int) < 1000003; decide), _, rfl, _, _, rfl, rfl, .inl ⟨by decide, by decide⟩, _, rfl, _, _, rfl, rfl, .inr ⟨by omega, by omega⟩, _, _, rfl, rfl, _, rfl, _, _, rfl, rfl, .inl ⟨by decide, by decide⟩, _, _, rfl, rfl, _, rfl, _, _, rfl, rfl, .inl ⟨by decide, by decide⟩, _, _, rfl, rfl, _, _, rfl, rfl, ?_⟩
          refine ⟨_, rfl, _, _, rfl, rfl, .inr ⟨by decide, by decide⟩, _, _, rfl, rfl, (by show (0 : Int) < 2147483647; decide), ?_⟩
          refine ⟨_, rfl, .inl ⟨rfl, _, SqL.of hp1⟩, _, rfl, _, rfl, _, _, rfl, rfl, .inl ⟨by omega, by omega⟩, _, _, rfl, rfl, (by show (0 : Int) < 2147483629; decide), _, rfl, _, _, rfl, rfl, ⟨by decide, by decide⟩, _, _, rfl, rfl, _, _, rfl, rfl, ⟨by decide, by decide, by decide⟩, _, _, rfl, rfl, (by show (0 : Int) < 10 ^ 6; decide), p, _, _, rfl, rfl, hp1, hlen, ?_⟩
          exact big _ (Int.emod_nonneg _ (by decide)) (Int.lt_of_lt_of_le (Int.emod_lt_of_pos _ (show (0 : Int) < 10 ^ (6 : Int).toNat by decide)) (by decide)) _ _ _ hr0
      · refine iteF ?_
        refine ⟨_, rfl, _, rfl, _, _, rfl, rfl, (by show (0 : Int) < 1000003; decide), _, rfl, _, _, rfl, rfl, .inl ⟨by decide, by decide⟩, _, rfl, _, _, rfl, rfl, .inr ⟨by omega, by omega⟩, _, _, rfl, rfl, _, rfl, _, _, rfl, rfl, .inl ⟨by decide, by decide⟩, _, _, rfl, rfl, _, rfl, _, _, rfl, rfl, .inl ⟨by decide, by decide⟩, _, _, rfl, rfl, _, _, rfl, rfl, ?_⟩
        refine ⟨_, rfl, _, _, rfl, rfl, .inr ⟨by decide, by decide⟩, _, _, rfl, rfl, (by show (0 : Int) < 2147483647; decide), ?_⟩
        refine ⟨_, rfl, .inl ⟨rfl, _, SqL.of hp1⟩, _, rfl, _, rfl, _, _, rfl, rfl, .inl ⟨by omega, by omega⟩, _, _, rfl, rfl, (by show (0 : Int) < 2147483629; decide), _, rfl, _, _, rfl, rfl, ⟨by decide, by decide⟩, _, _, rfl, rfl, _, _, rfl, rfl, ⟨by decide, by decide, by decide⟩, _, _, rfl, rfl, (by show (0 : Int) < 10 ^ 6; decide), p, _, _, rfl, rfl, hp1, hlen, ?_⟩
        exact big _ (Int.emod_nonneg _ (by decide)) (Int.lt_of_lt_of_le (Int.emod_lt_of_pos _ (show (0 : Int) < 10 ^ (6 : Int).toNat by decide)) (by decide)) _ _ _ hr0
    · rintro σ H1 ⟨cell, great, rest, rs, x, y, rfl, hr0, hrs, hd, hs1, hp1⟩
      exact ⟨_, rfl, q p rs H1 hp hs1 hp1 (by rw [hrs]; omega) hd⟩
  · refine ⟨_, rfl, _, rfl, ?_⟩
    refine ⟨_, rfl, _, _, rfl, rfl, ⟨by decide, by decide, by decide⟩, _, _, rfl, rfl, ?_⟩
    refine ⟨(by show 0 ≤ sizeLine; decide), fun p hp => ?_⟩
    refine ⟨_, rfl, _, rfl, by omega, by omega, for_range (lo := 0) (RowInv a p i n H)
      ⟨_, _, _, [], none, none, rfl, by split <;> omega, rfl, (fun _ h => nomatch h), same_new hp _, upd_same⟩ ?_ ?_⟩
    · rintro j σ H1 hj ⟨cell, great, rest, rs, x, y, rfl, hr0, hrs, hd, hs1, hp1⟩
      have hlen : (rs.map V.int).length < sizeLine := by rw [List.length_map]; exact smallL (by omega)
      have big : ∀ v : Int, 0 ≤ v → v < 1000000 → ∀ (rest' : Int) (x' y' : Option V), 0 ≤ rest' → RowInv a p i n H (j + 1) [some (V.ref a), some (.int i), some (.int n), some (.int cell), some (.int rest'), some (.bl great), some (.ref p), x', y'] (upd H1 p (.lst (rs.map V.int ++ [.int v]))) := fun v h0 h1 rest' x' y' hr' =>
        ⟨cell, great, rest', rs ++ [v], _, _, rfl, hr', by rw [List.length_append, hrs]; rfl, hd.snoc h0 h1, sameUpd hs1 hp _, by rw [upd_same, List.map_append]; rfl⟩
      refine ⟨_, rfl, _, rfl, ?_⟩
      refine ite2 (fun c1 => ?_) (fun c1 => ?_)
      · refine ⟨_, rfl, _, _, rfl, rfl, _, rfl, ?_⟩
        refine ite2 (fun c2 => ?_) (fun c2 => ?_)
        · refine ⟨_, rfl, .inl ⟨rfl, _, SqL.of hp1⟩, _, rfl, _, _, rfl, rfl, ⟨by decide, by decide, by decide⟩, _, _, rfl, rfl, (by show (0 : Int) < 10 ^ 4; decide), p, _, _, rfl, rfl, hp1, hlen, ?_⟩
          refine ⟨_, rfl, _, _, rfl, rfl, ⟨by decide, by decide, by decide⟩, _, _, rfl, rfl, (by show (0 : Int) < 10 ^ 4 ∧ (10 : Int) ^ 4 < bigB; exact ⟨by decide, by decide⟩), ?_⟩
          exact big _ (Int.emod_nonneg _ (by decide)) (Int.lt_trans (Int.emod_lt_of_pos rest (show (0 : Int) < 10 ^ (4 : Int).toNat by decide)) (by decide)) _ _ _ (Int.ediv_nonneg hr0 (show (0 : Int) ≤ 10 ^ (4 : Int).toNat by decide))
        · refine ⟨_, rfl, _, rfl, _, _, rfl, rfl, (by show (0 : Int) < 1000003; decide), _, rfl, _, _, rfl, rfl, .inl ⟨by decide, by decide⟩, _, rfl, _, _, rfl, rfl, .inr ⟨by omega, by omega⟩, _, _, rfl, rfl, _, rfl, _, _, rfl, rfl, .inl ⟨by decide, by decide⟩, _, _, rfl, rfl, _, rfl, _, _, rfl, rfl, .inl ⟨by decide, by decide⟩, _, _, rfl, rfl, _, _, rfl, rfl, ?_⟩
          refine ⟨_, rfl, _, _, rfl, rfl, .inr ⟨by decide, by decide⟩, _, _, rfl, rfl, (by show (0 : Int) < 2147483647; decide), ?_⟩
          refine ⟨_, rfl, .inl ⟨rfl, _, SqL.of hp1⟩, _, rfl, _, rfl, _, _, rfl, rfl, .inl ⟨by omega, by omega⟩, _, _, rfl, rfl, (by show (0 : Int) < 2147483629; decide), _, rfl, _, _, rfl, rfl, ⟨by decide, by decide⟩, _, _, rfl, rfl, _, _, rfl, rfl, ⟨by decide, by decide, by decide⟩, _, _, rfl, rfl, (by show (0 : Int) < 10 ^ 6; decide), p, _, _, rfl, rfl, hp1, hlen, ?_⟩
          exact big _ (Int.emod_nonneg _ (by decide)) (Int.lt_of_lt_of_le (Int.emod_lt_of_pos _ (show (0 : Int) < 10 ^ (6 : Int).toNat by decide)) (by decide)) _ _ _ hr0
      · refine iteF ?_
        refine ⟨_, rfl, _, rfl, _, _, rfl, rfl, (by show (0 : Int) < 1000003; decide), _, rfl, _, _, rfl, rfl, .inl ⟨by decide, by decide⟩, _, rfl, _, _, rfl, rfl, .inr ⟨by omega, by omega⟩, _, _, rfl, rfl, _, rfl, _, _, rfl, rfl, .inl ⟨by decide, by decide⟩, _, _, rfl, rfl, _, rfl, _, _, rfl, rfl, .inl ⟨by decide, by decide⟩, _, _, rfl, rfl, _, _, rfl, rfl, ?_⟩
        refine ⟨_, rfl, _, _, rfl, rfl, .inr ⟨by decide, by decide⟩, _, _, rfl, rfl, (by show (0 : Int) < 2147483647; decide), ?_⟩
        refine ⟨_, rfl, .inl ⟨rfl, _, SqL.of hp1⟩, _, rfl, _, rfl, _, _, rfl, rfl, .inl ⟨by omega, by omega⟩, _, _, rfl, rfl, (by show (0 : Int) < 2147483629; decide), _, rfl, _, _, rfl, rfl, ⟨by decide, by decide⟩, _, _, rfl, rfl, _, _, rfl, rfl, ⟨by decide, by decide, by decide⟩, _, _, rfl, rfl, (by show (0 : Int) < 10 ^ 6; decide), p, _, _, rfl, rfl, hp1, hlen, ?_⟩
        exact big _ (Int.emod_nonneg _ (by decide)) (Int.lt_of_lt_of_le (Int.emod_lt_of_pos _ (show (0 : Int) < 10 ^ (6 : Int).toNat by decide)) (by decide)) _ _ _ hr0
    · rintro σ H1 ⟨cell, great, rest, rs, x, y, rfl, hr0, hrs, hd, hs1, hp1⟩
      exact ⟨_, rfl, q p rs H1 hp hs1 hp1 (by rw [hrs]; omega) hd⟩
theorem ok_L_size (T : Tx w K mg A) : FnOk P w K mg base CX0 1 A.a_L_size A.d_L_size ["_law_number", "_law_many"] sp_L_size := by
  refine T.F_L_size.ok sc_L_size (fun vs H Q E h => ?_) (fun cdv A' outer s H vs Q E hr h => ?_)
  · obtain ⟨n, m, rfl, hn, hm, hm2, q⟩ := h
    rfl
  obtain ⟨n, m, rfl, hn, hm, hm2, q⟩ := h
  refine ⟨_, (pss_one (ps_ret (pe_op op_add (pe_op op_mod (pv 0) (pv 1)) (pe_op op_mul pe_int (pe_callTy call_int1 rfl T.int PyProof.Rows.boot_int (pa_cons (pe_cmpR op_eq (pe_op op_mod (pe_op op_fdivL (pv 0) (pv 1)) pe_int) pe_int (nomark _)) pa_nil)))))), ?_⟩
  exact ⟨_, rfl, _, rfl, _, _, rfl, rfl, hm, _, rfl, _, rfl, _, _, rfl, rfl, ⟨hm, Int.lt_trans hm2 (by decide)⟩, _, _, rfl, rfl, (by show (0 : Int) < 8; decide), rfl, .inr ⟨_, rfl, _, _, rfl, rfl, .inl ⟨by decide, by decide⟩, _, _, rfl, rfl, q⟩⟩
theorem ok_L_work (T : Tx w K mg A) (G_L_size : FnOk P w K mg base CX0 1 A.a_L_size A.d_L_size ["_law_number", "_law_many"] sp_L_size) : FnOk P w K mg base CX0 2 A.a_L_work A.d_L_work ["_law_row_here", "_law_sizes"] (sp_L_work K) := by
  refine T.F_L_work.ok sc_L_work (fun vs H Q E h => ?_) (fun cdv A' outer s H vs Q E hr h => ?_)
  · obtain ⟨a, z, rs, zs, rfl, hA, hZ, hrs, hd, hz4, hz0, q⟩ := h
    rfl
  obtain ⟨a, z, rs, zs, rfl, hA, hZ, hrs, hd, hz4, hz0, q⟩ := h
  refine ⟨_, (pss_cons (ps_set (i := 2) sc_L_work.nd rfl (Or.inl rfl) (pe_call G_L_size (hr.mono (by first | decide | omega)) rfl T.M_L_size T.F_L_size.kp T.B_L_size .nil pass0 (pa_cons (pe_ix ix_list (pv 1) pe_int (fun _ _ => rfl)) (pa_cons pe_int pa_nil))))
    (pss_cons (ps_set (i := 3) sc_L_work.nd rfl (Or.inl rfl) (pe_call G_L_size (hr.mono (by first | decide | omega)) rfl T.M_L_size T.F_L_size.kp T.B_L_size .nil pass0 (pa_cons (pe_ix ix_list (pv 1) pe_int (fun _ _ => rfl)) (pa_cons pe_int pa_nil))))
    (pss_cons (ps_set (i := 4) sc_L_work.nd rfl (Or.inr rfl) (pe_op op_add (pe_op op_add pe_int (pv 2)) (pv 3)))
    (pss_cons (ps_set (i := 5) sc_L_work.nd rfl (Or.inl rfl) (pe_lst pa_nil))
    (pss_cons (ps_for PassesOwn.never rfl (pi_range1 rfl T.range (pa_cons (pe_op op_mod (pe_ix ix_list (pv 1) pe_int (fun _ _ => rfl)) pe_int) pa_nil)) (pg_name (i := 6) sc_L_work.nd rfl (Or.inl rfl))
        (pss_cons (ps_expr (pe_bm PySem.F.plainAttrs_list PySem.F.slot_list_append PySem.F.type_list_append mt_append (pv 5) (pa_cons (pe_tup (pa_cons (pe_op op_mod (pe_ix ix_list (pv 0) (pe_op op_mul pe_int (pv 6)) (fun _ _ => rfl)) (pe_op op_mul pe_int (pv 4))) (pa_cons (pe_op op_mod (pe_ix ix_list (pv 0) (pe_op op_add (pe_op op_mul pe_int (pv 6)) pe_int) (fun _ _ => rfl)) (pe_op op_mul pe_int (pv 4))) pa_nil))) pa_nil)))
    (pss_one (ps_set (i := 4) sc_L_work.nd rfl (Or.inr rfl) (pe_op op_add (pv 4) pe_int)))))
    (pss_cons (ps_comp [0, 4] sc_L_work.nd (i := 7) rfl (Or.inl rfl) (fun _ _ h => h) rfl (pi_range1 rfl T.range (pa_cons (pv 3) pa_nil)) (fun _ _ _ _ => pts_nil) (fun _ _ _ _ => (pe_tup (pa_cons (pe_op op_mod (pe_ix (ix_listK (K := K) rfl) (pv 1) (pe_op op_add pe_int (pe_op op_mul pe_int (pv 0))) (fun _ _ => rfl)) pe_int) (pa_cons (pe_op op_mod (pe_ix (ix_listK (K := K) rfl) (pv 1) (pe_op op_add pe_int (pe_op op_mul pe_int (pv 0))) (fun _ _ => rfl)) (pe_op op_mul pe_int (pv 2))) pa_nil)))) rfl (show ∀ j ∈ ([0, 4] : List Nat), j < 8 by decide) (show (["_law_k", "_law_row_here", "_law_knots"] : List Str).Nodup by decide +kernel) (by with_unfolding_all rfl))
    (pss_one (ps_ret (pe_tup (pa_cons (pv 2) (pa_cons (pv 7) (pa_cons (pv 5) (pa_cons (pe_comp [0, 4] (fun _ _ h => h) rfl (pi_range1 rfl T.range (pa_cons (pe_call G_L_size (hr.mono (by first | decide | omega)) rfl T.M_L_size T.F_L_size.kp T.B_L_size .nil pass0 (pa_cons (pe_ix ix_list (pv 1) pe_int (fun _ _ => rfl)) (pa_cons pe_int pa_nil))) pa_nil)) (fun _ _ _ _ => pts_nil) (fun _ _ _ _ => (pe_op op_mod (pe_ix (ix_listK (K := K) rfl) (pv 1) (pe_op op_add pe_int (pv 0)) (fun _ _ => rfl)) (pe_op op_mul pe_int (pv 2)))) rfl (show ∀ j ∈ ([0, 4] : List Nat), j < 8 by decide) (show (["_law_k", "_law_row_here", "_law_knots"] : List Str).Nodup by decide +kernel)) pa_nil))))))))))))), ?_⟩
  have zat : ∀ j : Int, 0 ≤ j → j < 4 → ∃ v : Int, atI (zs.map V.int) j = some (.int v) ∧ 0 ≤ v := fun j h0 h1 => by
    obtain ⟨v, h1, h2, _⟩ := at_ints h0 (show j < zs.length by omega)
    exact ⟨v, h1, hz0 v h2⟩
  have rat : ∀ j : Int, 0 ≤ j → j < 60 → ∃ v : Int, atI (rs.map V.int) j = some (.int v) ∧ 0 ≤ v ∧ v < 1000000 := fun j h0 h1 => hd.at h0 (by rw [hrs]; exact h1)
  obtain ⟨z0, hz0', hz0m, hz0e⟩ := at_ints (ns := zs) (i := 0) (by decide) (by omega)
  have hz0p := hz0 z0 hz0m
  have hz0e : z0 = zs.getD 0 0 := hz0e
  obtain ⟨z1, hz1', hz1p⟩ := zat 1 (by decide) (by decide)
  obtain ⟨z2, hz2', hz2p⟩ := zat 2 (by decide) (by decide)
  obtain ⟨z3, hz3', hz3p⟩ := zat 3 (by decide) (by decide)
  refine ⟨_, rfl, z, _, _, _, rfl, rfl, hZ, hz0', _, _, rfl, hz0p, by decide, by decide, ?_⟩
  obtain ⟨i0, i1⟩ := lsz_bound (n := z0) (show (0 : Int) < 4 by decide)
  generalize hins : lsz z0 4 = ins at i0 i1 ⊢
  refine ⟨_, rfl, z, _, _, _, rfl, rfl, hZ, hz1', _, _, rfl, hz1p, by decide, by decide, ?_⟩
  obtain ⟨m0, m1⟩ := lsz_bound (n := z1) (show (0 : Int) < 5 by decide)
  generalize lsz z1 5 = many at m0 m1 ⊢
  obtain ⟨ins, rfl⟩ := Int.eq_ofNat_of_zero_le i0
  obtain ⟨many, rfl⟩ := Int.eq_ofNat_of_zero_le m0
  refine ⟨_, rfl, _, _, rfl, rfl, _, rfl, _, _, rfl, rfl, ?_⟩
  refine ⟨(by show 0 ≤ sizeLine; decide), fun g hg => ?_⟩
  have e1 := Int.emod_nonneg z2 (show (13 : Int) ≠ 0 by decide)
  have e2 := Int.emod_lt_of_pos z2 (show (0 : Int) < 13 by decide)
  refine ⟨_, rfl, z, _, _, _, rfl, rfl, (same_new hg _).seq hZ, hz2', _, _, rfl, rfl, (by show (0 : Int) < 13; decide), _, rfl, by omega, by omega, for_range (lo := 0) (fun j σ H' => ∃ (ts : List Addr) (ps : List (Int × Int)) (x : Option V), σ = [some (.ref a), some (.ref z), some (.int ins), some (.int many), some (.int (1 + ins + many + j)), some (.ref g), x, none] ∧ ps.length = j ∧ PrsR H' g ts ps ∧ Same H H' ∧ ∀ (k : Nat) (q : Int × Int), ps[k]? = some q → (0 ≤ q.1 ∧ q.1 < 2 * (((1 + ins + many : Nat) : Int) + k)) ∧ 0 ≤ q.2 ∧ q.2 < 2 * (((1 + ins + many : Nat) : Int) + k))
    ⟨[], [], none, (by congr 6), rfl, ⟨upd_same, .nil⟩, same_new hg _, fun k q h => by simp at h⟩ ?_ ?_⟩
  · rintro j σ H1 hj ⟨ts, ps, x, rfl, hps, hP, hs1, hb⟩
    obtain ⟨v1, hv1, v10, _⟩ := rat (2 * (0 + (j : Int))) (by omega) (by omega)
    obtain ⟨v2, hv2, v20, _⟩ := rat (2 * (0 + (j : Int)) + 1) (by omega) (by omega)
    have kp : (0 : Int) < 2 * (1 + (ins : Int) + many + j) := by omega
    refine ⟨_, rfl, .inl ⟨rfl, _, SqL.of hP.1⟩, _, rfl, _, rfl, _, _, rfl, rfl, .inl ⟨by decide, by decide⟩, a, _, _, _, rfl, rfl, hs1.seq hA, hv1, _, rfl, _, _, rfl, rfl, .inl ⟨by decide, by decide⟩, _, _, rfl, rfl, kp, _, rfl, _, rfl, _, _, rfl, rfl, .inl ⟨by decide, by decide⟩, _, _, rfl, rfl, a, _, _, _, rfl, rfl, hs1.seq hA, hv2, _, rfl, _, _, rfl, rfl, .inl ⟨by decide, by decide⟩, _, _, rfl, rfl, kp, (by show 2 ≤ sizeLine; decide), fun t ht => ?_⟩
    have hgt : g ≠ t := fun e => by rw [← e, hP.1] at ht; cases ht
    refine ⟨g, _, _, rfl, rfl, (by rw [upd_ne hgt]; exact hP.1), (by rw [List.length_map, hP.length]; exact smallL (by omega)), ?_⟩
    refine ⟨_, rfl, _, _, rfl, rfl, ?_⟩
    refine ⟨ts ++ [t], ps ++ [(v1 % (2 * (1 + (ins : Int) + many + j)), v2 % (2 * (1 + (ins : Int) + many + j)))], some (.int (0 + (j : Int))), (by rw [show (1 + (ins : Int) + many + ((j + 1 : Nat) : Int)) = 1 + ins + many + j + 1 by push_cast; omega]; rfl), by rw [List.length_append, hps]; rfl, hP.push ht _ _, sameUpd (sameUpd hs1 (hs1.free ht) _) hg _, fun k q hk => ?_⟩
    by_cases hlt : k < ps.length
    · rw [List.getElem?_append_left hlt] at hk
      exact hb k q hk
    · rw [List.getElem?_append_right (by omega)] at hk
      have hk0 : k - ps.length = 0 := by
        cases h : k - ps.length with
        | zero => rfl
        | succ m => rw [h] at hk; simp at hk
      rw [hk0] at hk
      have hq := Option.some.inj hk
      subst hq
      have hkj : k = j := by omega
      subst hkj
      refine ⟨⟨Int.emod_nonneg _ (by omega), ?_⟩, Int.emod_nonneg _ (by omega), ?_⟩
      · have := Int.emod_lt_of_pos v1 kp
        push_cast
        omega
      · have := Int.emod_lt_of_pos v2 kp
        push_cast
        omega
  · rintro σ H1 ⟨ts, ps, x, rfl, hps, hP, hs1, hb⟩
    generalize hkn : 1 + (ins : Int) + many + ((z2 % 13).toNat : Int) = kn
    have kp : (0 : Int) < 2 * kn := by omega
    refine ⟨_, rfl, _, rfl, by omega, by omega, comp_range (lo := 0) (fun j ys H' => ∃ (bs : List Addr) (qs : List (Int × Int)), ys = bs.map V.ref ∧ qs.length = j ∧ Paired (fun r (p : Int × Int) => H' r = some (.tup [.int p.1, .int p.2])) bs qs ∧ Same H1 H' ∧ ∀ b ∈ qs, (b.1 = 0 ∨ b.1 = 1) ∧ 0 ≤ b.2 ∧ b.2 < 2 * kn)
      ⟨[], [], rfl, rfl, .nil, Same.refl _, fun _ h => nomatch h⟩ ?_ ?_ ?_⟩
    · rintro j ys H' hj ⟨bs, qs, rfl, hqs, hB, _, _⟩
      rw [List.length_map, Paired.length hB]
      exact smallL (by omega)
    · rintro j ys H2 hj ⟨bs, qs, rfl, hqs, hB, hs2, hbb⟩
      obtain ⟨v1, hv1, v10, _⟩ := rat (24 + 2 * (0 + (j : Int))) (by omega) (by omega)
      obtain ⟨v2, hv2, v20, _⟩ := rat (25 + 2 * (0 + (j : Int))) (by omega) (by omega)
      unfold tYes
      refine iteT ⟨_, rfl, _, rfl, _, _, rfl, rfl, .inl ⟨by decide, by decide⟩, _, _, rfl, rfl, a, _, _, _, rfl, rfl, (hs1.trans hs2).seq hA, hv1, _, _, rfl, rfl, (by show (0 : Int) < 2; decide), _, rfl, _, rfl, _, _, rfl, rfl, .inl ⟨by decide, by decide⟩, _, _, rfl, rfl, a, _, _, _, rfl, rfl, (hs1.trans hs2).seq hA, hv2, _, rfl, _, _, rfl, rfl, .inl ⟨by decide, by decide⟩, _, _, rfl, rfl, kp, (by show 2 ≤ sizeLine; decide), fun t ht => ?_⟩
      refine ⟨bs ++ [t], qs ++ [(v1 % 2, v2 % (2 * kn))], by rw [List.map_append]; rfl, by rw [List.length_append, hqs]; rfl, pairsNew _ _ hB ht, hs2.trans (same_new ht _), fun b hb' => ?_⟩
      rcases List.mem_append.mp hb' with h | h
      · exact hbb b h
      · rw [List.mem_singleton.mp h]
        exact ⟨by show v1 % 2 = 0 ∨ v1 % 2 = 1; omega, Int.emod_nonneg _ (by omega), Int.emod_lt_of_pos _ kp⟩
    · rintro ys H2 ⟨bs, qs, rfl, hqs, hB, hs2, hbb⟩ b hbn
      have hs3 := hs2.trans (same_new hbn (.lst (bs.map V.ref)))
      refine ⟨_, rfl, _, rfl, _, rfl, _, rfl, z, _, _, _, rfl, rfl, ((hs1.trans hs3).seq hZ), hz3', _, _, rfl, hz3p, by decide, by decide, ?_⟩
      obtain ⟨n0, n1⟩ := lsz_bound (n := z3) (show (0 : Int) < 4 by decide)
      generalize lsz z3 4 = no at n0 n1 ⊢
      refine ⟨_, rfl, by omega, by omega, comp_range (lo := 0) (fun j ys H' => ∃ os : List Int, ys = os.map V.int ∧ os.length = j ∧ H' = _ ∧ ∀ o ∈ os, 0 ≤ o ∧ o < 2 * kn) ⟨[], rfl, rfl, rfl, fun _ h => nomatch h⟩ ?_ ?_ ?_⟩
      · rintro j ys H' hj ⟨os, rfl, ho, _, _⟩
        rw [List.length_map]
        exact smallL (by omega)
      · rintro j ys H' hj ⟨os, rfl, ho, rfl, hob⟩
        obtain ⟨v1, hv1, v10, _⟩ := rat (40 + (0 + (j : Int))) (by omega) (by omega)
        unfold tYes
        refine iteT ⟨_, rfl, _, rfl, _, _, rfl, rfl, a, _, _, _, rfl, rfl, (hs1.trans hs3).seq hA, hv1, _, rfl, _, _, rfl, rfl, .inl ⟨by decide, by decide⟩, _, _, rfl, rfl, kp, ?_⟩
        refine ⟨os ++ [v1 % (2 * kn)], by rw [List.map_append]; rfl, by rw [List.length_append, ho]; rfl, rfl, fun o h => ?_⟩
        rcases List.mem_append.mp h with h | h
        · exact hob o h
        · rw [List.mem_singleton.mp h]
          exact ⟨Int.emod_nonneg _ (by omega), Int.emod_lt_of_pos _ kp⟩
      · rintro ys H' ⟨os, rfl, ho, rfl, hob⟩ o hon
        have hs4 := hs3.trans (same_new hon (.lst (os.map V.int)))
        refine ⟨(by show 4 ≤ sizeLine; decide), fun w hw => ?_⟩
        have hs5 := hs4.trans (same_new hw (.tup [.int ins, .ref b, .ref g, .ref o]))
        refine q w b g o ⟨ins, qs, ps, os⟩ _ ((hs1.trans hs4).free hw) ((hs1.trans hs2).free hbn) hg ((hs1.trans hs3).free hon) (hs1.trans hs5) ⟨upd_same, ⟨bs, ?_⟩, ⟨ts, hP.same hs5⟩, ?_⟩ ⟨by show ins ≤ 7; omega, by show qs.length ≤ 8; omega, by show ps.length ≤ 2000; omega, by show os.length ≤ 20; omega, fun k g' hk => ?_, fun b' hb' => ?_, fun o' ho' => ?_⟩ (by show ps.length ≤ 12; omega) (by show os.length ≤ 8; omega) (by show (ins : Int) = _; rw [← hz0e, hins])
        · have hs' := (same_new hon (.lst (os.map V.int))).trans (same_new hw (.tup [.int ins, .ref b, .ref g, .ref o]))
          refine PrsR.same hs' ⟨upd_same, pairedMono (fun r p q => ?_) hB⟩
          rw [upd_ne (ne_of_none q hbn)]
          exact q
        · exact (same_new hw _) _ _ upd_same
        · have := hb k g' hk
          show (0 ≤ g'.1 ∧ g'.1 < 2 * (((1 + ins + qs.length : Nat) : Int) + k)) ∧ 0 ≤ g'.2 ∧ g'.2 < 2 * (((1 + ins + qs.length : Nat) : Int) + k)
          have e : qs.length = many := by omega
          rw [e]
          exact this
        · have := hbb b' hb'
          show (b'.1 = 0 ∨ b'.1 = 1) ∧ 0 ≤ b'.2 ∧ b'.2 < 2 * ((1 + ins + qs.length + ps.length : Nat) : Int)
          refine ⟨this.1, this.2.1, ?_⟩
          push_cast
          omega
        · have := hob o' ho'
          show 0 ≤ o' ∧ o' < 2 * ((1 + ins + qs.length + ps.length : Nat) : Int)
          refine ⟨this.1, ?_⟩
          push_cast
          omega
theorem ok_L_long (T : Tx w K mg A) : FnOk P w K mg base CX0 1 A.a_L_long A.d_L_long ["_law_work_here", "_law_row_here"] (sp_L_long K) := by
  refine T.F_L_long.ok sc_L_long (fun vs H Q E h => ?_) (fun cdv A' outer s H vs Q E hr h => ?_)
  · obtain ⟨w, b, g, o, r, W, rs, rfl, hW, ok, h12, hR, hrs, hd, q⟩ := h
    rfl
  obtain ⟨w, b, g, o, r, W, rs, rfl, hW, ok, h12, hR, hrs, hd, q⟩ := h
  refine ⟨_, (pss_cons (ps_set (i := 2) sc_L_long.nd rfl (Or.inl rfl) (pe_op op_add (pe_op op_add (pe_op op_add pe_int (pe_ix ix_tup (pv 0) pe_int (fun _ _ => rfl))) (pe_callB call_len rfl T.len PySem.boot_len (pa_cons (pe_ix ix_tup (pv 0) pe_int (fun _ _ => rfl)) pa_nil))) (pe_callB call_len rfl T.len PySem.boot_len (pa_cons (pe_ix ix_tup (pv 0) pe_int (fun _ _ => rfl)) pa_nil))))
    (pss_cons (ps_set (i := 3) sc_L_long.nd rfl (Or.inl rfl) (pe_callTy call_list_of rfl T.list PyProof.Rows.boot_list (pa_cons (pe_ix ix_tup (pv 0) pe_int (fun _ _ => rfl)) pa_nil)))
    (pss_cons (ps_for PassesOwn.never rfl (pi_range1 rfl T.range (pa_cons pe_int pa_nil)) (pg_name (i := 4) sc_L_long.nd rfl (Or.inl rfl))
        (pss_one (ps_expr (pe_bm PySem.F.plainAttrs_list PySem.F.slot_list_append PySem.F.type_list_append mt_append (pv 3) (pa_cons (pe_tup (pa_cons (pe_op op_add (pe_op op_mul pe_int (pe_op op_sub (pe_op op_add (pv 2) (pv 4)) pe_int)) (pe_op op_mod (pe_op op_fdivL (pe_ix ix_list (pv 1) (pv 4) (fun _ _ => rfl)) pe_int) pe_int)) (pa_cons (pe_op op_mod (pe_ix ix_list (pv 1) (pv 4) (fun _ _ => rfl)) (pe_op op_mul pe_int (pe_op op_add (pv 2) (pv 4)))) pa_nil))) pa_nil)))))
    (pss_one (ps_ret (pe_tup (pa_cons (pe_ix ix_tup (pv 0) pe_int (fun _ _ => rfl)) (pa_cons (pe_ix ix_tup (pv 0) pe_int (fun _ _ => rfl)) (pa_cons (pv 3) (pa_cons (pe_ix ix_tup (pv 0) pe_int (fun _ _ => rfl)) pa_nil)))))))))), ?_⟩
  obtain ⟨bs, hB⟩ := hW.b
  obtain ⟨gs, hG⟩ := hW.g
  have hbl : (bs.map V.ref).length = W.boxes.length := by rw [List.length_map, hB.length]
  have hgl : (gs.map V.ref).length = W.gates.length := by rw [List.length_map, hG.length]
  have h7 := ok.ins
  have h8 := ok.boxes
  have hkn : W.knots = 1 + W.ins + W.boxes.length + W.gates.length := rfl
  have hki : (1 + (W.ins : Int) + ((bs.map V.ref).length : Nat) + ((gs.map V.ref).length : Nat)) = ((W.knots : Nat) : Int) := by rw [hbl, hgl, hkn]; omega
  refine ⟨_, rfl, w, _, _, _, rfl, rfl, SqT.of hW.w, rfl, _, _, rfl, rfl, _, rfl, w, _, _, _, rfl, rfl, SqT.of hW.w, rfl, _, _, rfl, .inl ⟨_, SqL.of hB.1, rfl⟩, _, _, rfl, rfl, _, rfl, w, _, _, _, rfl, rfl, SqT.of hW.w, rfl, _, _, rfl, .inl ⟨_, SqL.of hG.1, rfl⟩, _, _, rfl, rfl, ?_⟩
  dsimp only
  rw [hki]
  refine ⟨_, rfl, w, _, _, _, rfl, rfl, SqT.of hW.w, rfl, g, _, rfl, .inl (SqL.of hG.1), fun p hp => ?_⟩
  have s0 := same_new hp (.lst (gs.map V.ref))
  refine ⟨_, rfl, by decide, by decide, for_range (lo := 0) (fun i σ H' => ∃ (ts : List Addr) (ps : List (Int × Int)) (x : Option V), σ = [some (.ref w), some (.ref r), some (.int (W.knots : Nat)), some (.ref p), x] ∧ ps.length = W.gates.length + i ∧ PrsR H' p ts ps ∧ Same H H' ∧ GateOk W.first ps)
    ⟨gs, W.gates, none, rfl, rfl, ⟨upd_same, (hG.same s0).2⟩, s0, ok.gate⟩ ?_ ?_⟩
  · rintro i σ H1 hi ⟨ts, ps, x, rfl, hps, hP, s1, hgo⟩
    have hi40 : i < 40 := hi
    obtain ⟨v, hv, v0, _⟩ := hd.at (i := 0 + (i : Int)) (by omega) (by rw [hrs]; omega)
    have kp : (0 : Int) < 2 * ((W.knots : Nat) + (0 + (i : Int))) := by omega
    refine ⟨_, rfl, .inl ⟨rfl, _, SqL.of hP.1⟩, _, rfl, _, rfl, _, _, rfl, rfl, _, _, rfl, rfl, _, _, rfl, rfl, .inl ⟨by decide, by decide⟩, _, rfl, _, rfl, r, _, _, _, rfl, rfl, SqL.of (s1 _ _ hR), hv, _, _, rfl, rfl, ⟨by decide, by decide⟩, _, _, rfl, rfl, (by show (0 : Int) < 2; decide), _, _, rfl, rfl, _, rfl, _, rfl, r, _, _, _, rfl, rfl, SqL.of (s1 _ _ hR), hv, _, rfl, _, rfl, _, _, rfl, rfl, _, _, rfl, rfl, .inl ⟨by decide, by decide⟩, _, _, rfl, rfl, kp, (by show 2 ≤ sizeLine; decide), fun t ht => ?_⟩
    have hpt : p ≠ t := fun e => by rw [← e, hP.1] at ht; cases ht
    refine ⟨p, _, _, rfl, rfl, (by rw [upd_ne hpt]; exact hP.1), (by rw [List.length_map, hP.length]; exact smallL (by omega)), ?_⟩
    have hfk : (W.first : Int) + ps.length = (W.knots : Nat) + (i : Int) := by rw [hps, hkn]; show ((1 + W.ins + W.boxes.length : Nat) : Int) + _ = _; omega
    have hmod := Int.emod_lt_of_pos v kp
    refine ⟨ts ++ [t], _, _, rfl, ?_, hP.push ht _ _, sameUpd (sameUpd s1 (s1.free ht) _) hp _, hgo.snoc ?_ ?_ (Int.emod_nonneg _ (by omega)) ?_⟩
    · rw [List.length_append, hps]; rfl
    · omega
    · rw [hfk]; omega
    · rw [hfk]; omega
  · rintro σ H1 ⟨ts, ps, x, rfl, hps, hP, s1, hgo⟩
    have hps : ps.length = W.gates.length + 40 := hps
    have W1 := hW.same s1
    refine ⟨_, rfl, w, _, _, _, rfl, rfl, SqT.of W1.w, rfl, _, rfl, w, _, _, _, rfl, rfl, SqT.of W1.w, rfl, _, rfl, _, rfl, w, _, _, _, rfl, rfl, SqT.of W1.w, rfl, (by show 4 ≤ sizeLine; decide), fun w' hw' => ?_⟩
    have s2 := same_new hw' (.tup [.int W.ins, .ref b, .ref p, .ref o])
    refine q w' p ⟨W.ins, W.boxes, ps, W.outs⟩ _ (s1.trans s2) ⟨upd_same, W1.b.same s2, ⟨ts, hP.same s2⟩, s2 _ _ W1.o⟩ ⟨h7, h8, by show ps.length ≤ 2000; omega, ok.outs, hgo, fun b' hb' => ?_, fun o' ho' => ?_⟩ rfl rfl
    · obtain ⟨h1, h2, h3⟩ := ok.box b' hb'
      refine ⟨h1, h2, ?_⟩
      show b'.2 < 2 * ((1 + W.ins + W.boxes.length + ps.length : Nat) : Int)
      rw [hkn] at h3
      omega
    · obtain ⟨h2, h3⟩ := ok.out o' ho'
      refine ⟨h2, ?_⟩
      show o' < 2 * ((1 + W.ins + W.boxes.length + ps.length : Nat) : Int)
      rw [hkn] at h3
      omega
theorem ok_L_tall (T : Tx w K mg A) : FnOk P w K mg base CX0 1 A.a_L_tall A.d_L_tall ["_law_work_here"] sp_L_tallN := by
  refine T.F_L_tall.ok sc_L_tall (fun vs H Q E h => ?_) (fun cdv A' outer s H vs Q E hr h => ?_)
  · obtain ⟨w, b, g, o, W, rfl, hW, ok, h12, ho8, q⟩ := h
    rfl
  obtain ⟨w, b, g, o, W, rfl, hW, ok, h12, ho8, q⟩ := h
  refine ⟨_, (pss_cons (ps_set (i := 1) sc_L_tall.nd rfl (Or.inl rfl) (pe_op op_add (pe_op op_add (pe_op op_add pe_int (pe_ix ix_tup (pv 0) pe_int (fun _ _ => rfl))) (pe_callB call_len rfl T.len PySem.boot_len (pa_cons (pe_ix ix_tup (pv 0) pe_int (fun _ _ => rfl)) pa_nil))) (pe_callB call_len rfl T.len PySem.boot_len (pa_cons (pe_ix ix_tup (pv 0) pe_int (fun _ _ => rfl)) pa_nil))))
    (pss_cons (ps_set (i := 2) sc_L_tall.nd rfl (Or.inl rfl) (pe_callTy call_list_of rfl T.list PyProof.Rows.boot_list (pa_cons (pe_ix ix_tup (pv 0) pe_int (fun _ _ => rfl)) pa_nil)))
    (pss_cons (ps_for PassesOwn.never rfl (pi_range1 rfl T.range (pa_cons pe_int pa_nil)) (pg_name (i := 3) sc_L_tall.nd rfl (Or.inl rfl))
        (pss_cons (ps_set (i := 4) sc_L_tall.nd rfl (Or.inl rfl) (pe_op op_add (pe_op op_mul pe_int (pe_op op_sub (pe_op op_add (pv 1) (pv 3)) pe_int)) (pe_callTy call_int1 rfl T.int PyProof.Rows.boot_int (pa_cons (pe_cmpR op_eq (pe_op op_mod (pv 3) pe_int) pe_int (nomark _)) pa_nil))))
    (pss_one (ps_expr (pe_bm PySem.F.plainAttrs_list PySem.F.slot_list_append PySem.F.type_list_append mt_append (pv 2) (pa_cons (pe_tup (pa_cons (pv 4) (pa_cons (pe_op op_add (pe_op op_mul pe_int (pe_callTy call_int1 rfl T.int PyProof.Rows.boot_int (pa_cons (pe_cmpR op_gt (pe_ix ix_tup (pv 0) pe_int (fun _ _ => rfl)) pe_int (nomark _)) pa_nil))) (pe_op op_mod (pe_op op_fdivL (pv 3) pe_int) pe_int)) pa_nil))) pa_nil))))))
    (pss_one (ps_ret (pe_tup (pa_cons (pe_ix ix_tup (pv 0) pe_int (fun _ _ => rfl)) (pa_cons (pe_ix ix_tup (pv 0) pe_int (fun _ _ => rfl)) (pa_cons (pv 2) (pa_cons (pe_op op_cat (pe_ix ix_tup (pv 0) pe_int (fun _ _ => rfl)) (pe_lst (pa_cons (pe_op op_mul pe_int (pe_op op_add (pv 1) pe_int)) pa_nil))) pa_nil)))))))))), ?_⟩
  obtain ⟨bs, hB⟩ := hW.b
  obtain ⟨gs, hG⟩ := hW.g
  have hbl : (bs.map V.ref).length = W.boxes.length := by rw [List.length_map, hB.length]
  have hgl : (gs.map V.ref).length = W.gates.length := by rw [List.length_map, hG.length]
  have h7 := ok.ins
  have h8 := ok.boxes
  have hkn : W.knots = 1 + W.ins + W.boxes.length + W.gates.length := rfl
  have hki : (1 + (W.ins : Int) + ((bs.map V.ref).length : Nat) + ((gs.map V.ref).length : Nat)) = ((W.knots : Nat) : Int) := by rw [hbl, hgl, hkn]; omega
  refine ⟨_, rfl, w, _, _, _, rfl, rfl, SqT.of hW.w, rfl, _, _, rfl, rfl, _, rfl, w, _, _, _, rfl, rfl, SqT.of hW.w, rfl, _, _, rfl, .inl ⟨_, SqL.of hB.1, rfl⟩, _, _, rfl, rfl, _, rfl, w, _, _, _, rfl, rfl, SqT.of hW.w, rfl, _, _, rfl, .inl ⟨_, SqL.of hG.1, rfl⟩, _, _, rfl, rfl, ?_⟩
  dsimp only
  rw [hki]
  refine ⟨_, rfl, w, _, _, _, rfl, rfl, SqT.of hW.w, rfl, g, _, rfl, .inl (SqL.of hG.1), fun p hp => ?_⟩
  have s0 := same_new hp (.lst (gs.map V.ref))
  refine ⟨_, rfl, by decide, by decide, for_range (lo := 0) (fun i σ H' => ∃ (ts : List Addr) (ps : List (Int × Int)) (x y : Option V), σ = [some (.ref w), some (.int (W.knots : Nat)), some (.ref p), x, y] ∧ ps.length = W.gates.length + i ∧ PrsR H' p ts ps ∧ Same H H' ∧ GateOk W.first ps)
    ⟨gs, W.gates, none, none, rfl, rfl, ⟨upd_same, (hG.same s0).2⟩, s0, ok.gate⟩ ?_ ?_⟩
  · rintro i σ H1 hi ⟨ts, ps, x, y, rfl, hps, hP, s1, hgo⟩
    have hi40 : i < 1500 := hi
    refine ⟨_, rfl, _, rfl, _, _, rfl, rfl, _, _, rfl, rfl, _, _, rfl, rfl, .inl ⟨by decide, by decide⟩, _, rfl, _, _, rfl, rfl, (by show (0 : Int) < 5; decide), rfl, .inr ⟨_, rfl, _, _, rfl, rfl, ?_⟩⟩
    refine ⟨_, rfl, .inl ⟨rfl, _, SqL.of hP.1⟩, _, rfl, _, rfl, w, _, _, _, rfl, rfl, SqT.of (hW.same s1).w, rfl, _, _, rfl, rfl, .inr ⟨_, rfl, _, _, rfl, rfl, .inl ⟨by decide, by decide⟩, _, rfl, _, _, rfl, rfl, ⟨by decide, by decide⟩, _, _, rfl, rfl, (by show (0 : Int) < 2; decide), _, _, rfl, rfl, (by show 2 ≤ sizeLine; decide), fun t ht => ?_⟩⟩
    have hpt : p ≠ t := fun e => by rw [← e, hP.1] at ht; cases ht
    refine ⟨p, _, _, rfl, rfl, (by rw [upd_ne hpt]; exact hP.1), (by rw [List.length_map, hP.length]; exact smallL (by omega)), ?_⟩
    have hfk : (W.first : Int) + ps.length = (W.knots : Nat) + (i : Int) := by rw [hps, hkn]; show ((1 + W.ins + W.boxes.length : Nat) : Int) + _ = _; omega
    refine ⟨ts ++ [t], _, _, _, rfl, ?_, hP.push ht _ _, sameUpd (sameUpd s1 (s1.free ht) _) hp _, hgo.snoc ?_ ?_ ?_ ?_⟩
    · rw [List.length_append, hps]; rfl
    · split <;> omega
    · rw [hfk]; split <;> omega
    · split <;> omega
    · rw [hfk]
      by_cases h0 : 0 < W.ins
      · split <;> omega
      · have e : decide ((0 : Int) < (W.ins : Int)) = false := decide_eq_false (by omega)
        rw [e]
        simp only [Bool.false_eq_true, if_false]
        omega
  · rintro σ H1 ⟨ts, ps, x, y, rfl, hps, hP, s1, hgo⟩
    have hps : ps.length = W.gates.length + 1500 := hps
    have W1 := hW.same s1
    refine ⟨_, rfl, w, _, _, _, rfl, rfl, SqT.of W1.w, rfl, _, rfl, w, _, _, _, rfl, rfl, SqT.of W1.w, rfl, _, rfl, _, rfl, w, _, _, _, rfl, rfl, SqT.of W1.w, rfl, _, rfl, _, _, rfl, rfl, _, _, rfl, rfl, .inl ⟨by decide, by decide⟩, (by show 1 ≤ sizeLine; decide), fun z hz => ?_⟩
    have s2 := same_new hz (.lst [.int (2 * (((W.knots : Nat) : Int) + 1499))])
    refine ⟨o, z, _, _, rfl, rfl, s2 _ _ W1.o, upd_same, (by rw [List.length_map]; exact small (by show W.outs.length + 1 ≤ 100000; omega)), fun o' ho' => ?_⟩
    have s3 := s2.trans (same_new ho' (.lst (W.outs.map V.int ++ [.int (2 * (((W.knots : Nat) : Int) + 1499))])))
    refine ⟨(by show 4 ≤ sizeLine; decide), fun w' hw' => ?_⟩
    have s4 := same_new hw' (.tup [.int W.ins, .ref b, .ref p, .ref o'])
    refine q w' p o' ⟨W.ins, W.boxes, ps, W.outs ++ [2 * (((W.knots : Nat) : Int) + 1499)]⟩ _ ((s1.trans s3).trans s4) ⟨upd_same, W1.b.same (s3.trans s4), ⟨ts, hP.same (s3.trans s4)⟩, s4 _ _ (by rw [upd_same, List.map_append]; rfl)⟩ ⟨h7, h8, by show ps.length ≤ 2000; omega, by show (W.outs ++ [_]).length ≤ 20; rw [List.length_append, List.length_singleton]; omega, hgo, fun b' hb' => ?_, fun o1 ho1 => ?_⟩ rfl rfl (by show 1500 ≤ ps.length; omega)
    · obtain ⟨h1, h2, h3⟩ := ok.box b' hb'
      refine ⟨h1, h2, ?_⟩
      show b'.2 < 2 * ((1 + W.ins + W.boxes.length + ps.length : Nat) : Int)
      rw [hkn] at h3
      omega
    · show 0 ≤ o1 ∧ o1 < 2 * ((1 + W.ins + W.boxes.length + ps.length : Nat) : Int)
      rcases List.mem_append.mp ho1 with h | h
      · obtain ⟨h2, h3⟩ := ok.out o1 h
        rw [hkn] at h3
        exact ⟨h2, by omega⟩
      · rw [List.mem_singleton.mp h, hkn]
        omega
theorem ok_L_depths (T : Tx w K mg A) : FnOk P w K mg base CX0 1 A.a_L_depths A.d_L_depths ["_law_work_here"] sp_deepK := by
  refine T.F_L_depths.ok sc_L_depths (fun vs H Q E h => ?_) (fun cdv A' outer s H vs Q E hr h => ?_)
  · obtain ⟨w, b, g, o, W, rfl, hW, ok, q⟩ := h
    rfl
  obtain ⟨w, b, g, o, W, rfl, hW, ok, q⟩ := h
  refine ⟨_, (pss_cons (ps_comp [] sc_L_depths.nd (i := 1) rfl (Or.inl rfl) (fun _ _ h => h) rfl (pi_range1 rfl T.range (pa_cons (pe_op op_add (pe_op op_add pe_int (pe_ix ix_tup (pv 0) pe_int (fun _ _ => rfl))) (pe_callB call_len rfl T.len PySem.boot_len (pa_cons (pe_ix ix_tup (pv 0) pe_int (fun _ _ => rfl)) pa_nil))) pa_nil)) (fun _ _ _ _ => pts_nil) (fun _ _ _ _ => pe_int) rfl (show ∀ j ∈ ([] : List Nat), j < 4 by decide) (show (["_law_k"] : List Str).Nodup by decide +kernel) (by with_unfolding_all rfl))
    (pss_cons (ps_for PassesOwn.never rfl (pi_list (pe_ix ix_tup (pv 0) pe_int (fun _ _ => rfl))) (pg_tup rfl (pgs_cons (pg_name (i := 2) sc_L_depths.nd rfl (Or.inl rfl)) (pgs_cons (pg_name (i := 3) sc_L_depths.nd rfl (Or.inl rfl)) pgs_nil)))
        (pss_one (ps_expr (pe_bm PySem.F.plainAttrs_list PySem.F.slot_list_append PySem.F.type_list_append mt_append (pv 1) (pa_cons (pe_op op_add (pe_callB (call_max2 rfl) rfl T.max PyProof.Rows.boot_max (pa_cons (pe_ix ix_list (pv 1) (pe_op op_fdivL (pv 2) pe_int) (fun _ _ => rfl)) (pa_cons (pe_ix ix_list (pv 1) (pe_op op_fdivL (pv 3) pe_int) (fun _ _ => rfl)) pa_nil))) pe_int) pa_nil)))))
    (pss_one (ps_ret (pv 1))))), ?_⟩
  obtain ⟨bs, hB⟩ := hW.b
  obtain ⟨gs, hG⟩ := hW.g
  have hbl : (bs.map V.ref).length = W.boxes.length := by rw [List.length_map, hB.length]
  have hgl : (gs.map V.ref).length = W.gates.length := by rw [List.length_map, hG.length]
  have h7 := ok.ins
  have h8 := ok.boxes
  have hg2 := ok.gates
  have hfe : W.first = 1 + W.ins + W.boxes.length := rfl
  have hfi : (1 + (W.ins : Int) + ((bs.map V.ref).length : Nat)) = ((W.first : Nat) : Int) := by rw [hbl, hfe]; omega
  refine ⟨_, rfl, w, _, _, _, rfl, rfl, SqT.of hW.w, rfl, _, _, rfl, rfl, _, rfl, w, _, _, _, rfl, rfl, SqT.of hW.w, rfl, _, _, rfl, .inl ⟨_, SqL.of hB.1, rfl⟩, _, _, rfl, rfl, _, rfl, by rw [hfi]; omega, by rw [hfi]; omega, comp_range (lo := 0) (fun i ys H' => ys = (List.replicate i (0 : Int)).map V.int ∧ H = H') ⟨rfl, rfl⟩ ?_ ?_ ?_⟩
  · rintro i ys H' hi ⟨rfl, _⟩
    rw [hfi] at hi
    rw [List.length_map, List.length_replicate]
    exact smallL (by omega)
  · rintro i ys H' hi ⟨rfl, rfl⟩
    unfold tYes
    refine iteT ⟨?_, rfl⟩
    rw [List.replicate_succ', List.map_append]
    rfl
  rintro ys H' ⟨rfl, rfl⟩ p hp
  rw [hfi, Int.toNat_natCast]
  have s2 := same_new hp (.lst ((dL W.first (W.gates.take 0)).map V.int))
  have hpn := hp
  refine ⟨_, rfl, w, _, _, _, rfl, rfl, SqT.of (hW.same s2).w, rfl, g, rfl, ⟨_, SqL.of (hG.same s2).1⟩, for_list (xs := gs.map V.ref) (fun i σ H' => ∃ x y, σ = [some (.ref w), some (.ref p), x, y] ∧ H' p = some (.lst ((dL W.first (W.gates.take i)).map V.int)) ∧ Same H H') ⟨_, _, rfl, upd_same, s2⟩ ?_ ?_ ?_⟩
  · rintro i σ H' _ ⟨x, y, rfl, _, hs⟩
    exact SqL.of (hG.same hs).1
  · rintro i v σ H' hv ⟨x, y, rfl, hp', hs⟩
    have hi : i < W.gates.length := by
      obtain ⟨h, _⟩ := List.getElem?_eq_some_iff.mp hv
      rw [hgl] at h
      exact h
    obtain ⟨r, hr1, hr2⟩ := (hG.same hs).get hi
    rw [hr1] at hv
    cases hv
    obtain ⟨⟨a0, a1⟩, b0, b1⟩ := ok.gate i W.gates[i] (List.getElem?_eq_getElem hi)
    have hdl : (dL W.first (W.gates.take i)).length = W.first + i := by rw [dL_length, List.length_take, Nat.min_eq_left (by omega)]
    obtain ⟨v1, hv1, _, e1⟩ := at_ints (ns := dL W.first (W.gates.take i)) (i := W.gates[i].1 / 2) (by omega) (by rw [hdl]; omega)
    obtain ⟨v2, hv2, _, e2⟩ := at_ints (ns := dL W.first (W.gates.take i)) (i := W.gates[i].2 / 2) (by omega) (by rw [hdl]; omega)
    refine ⟨r, _, rfl, SqT.of hr2, rfl, _, _, rfl, _, _, rfl, rfl, ?_⟩
    refine ⟨_, rfl, .inl ⟨rfl, _, SqL.of hp'⟩, _, rfl, _, rfl, _, _, rfl, rfl, ⟨by decide, by decide⟩, p, _, _, _, rfl, rfl, SqL.of hp', hv1, _, rfl, _, rfl, _, _, rfl, rfl, ⟨by decide, by decide⟩, p, _, _, _, rfl, rfl, SqL.of hp', hv2, _, _, rfl, _, _, rfl, rfl, p, _, _, rfl, rfl, hp', ?_, ?_⟩
    · rw [List.length_map, hdl]
      exact smallL (by show 1 + W.ins + W.boxes.length + i ≤ 100000; omega)
    · refine ⟨_, _, rfl, ?_, sameUpd hs hpn _⟩
      rw [upd_same, List.take_succ_eq_append_getElem hi, dL_snoc, e1, e2]
      dsimp only
      rw [Int.add_comm _ 1]
      show _ = some (HO.lst (List.map V.int (_ ++ _)))
      rw [List.map_append]
      rfl
  · rintro σ H' ⟨x, y, rfl, hp', hs⟩
    refine ⟨_, rfl, q p H' hpn hs ?_⟩
    rw [hgl] at hp'
    rw [hp', List.take_length]
theorem ok_L_is_way (T : Tx w K mg A) : FnOk P w K mg base CX0 1 A.a_L_is_way A.d_L_is_way ["_law_found", "_law_work_here", "_law_knot", "_law_depth"] sp_is_way := by
  refine T.F_L_is_way.ok sc_L_is_way (fun vs H Q E h => ?_) (fun cdv A' outer s H vs Q E hr h => ?_)
  · obtain ⟨f, w, b, g, o, W, knot, depth, ws, rfl, hf, hW, ok, hT, hdep, h3000, q⟩ := h
    rfl
  obtain ⟨f, w, b, g, o, W, knot, depth, ws, rfl, hf, hW, ok, hT, hdep, h3000, q⟩ := h
  refine ⟨_, (pss_cons (ps_set (i := 4) sc_L_is_way.nd rfl (Or.inl rfl) (pe_op op_add (pe_op op_add pe_int (pe_ix ix_tup (pv 1) pe_int (fun _ _ => rfl))) (pe_callB call_len rfl T.len PySem.boot_len (pa_cons (pe_ix ix_tup (pv 1) pe_int (fun _ _ => rfl)) pa_nil))))
    (pss_cons (ps_if (PW.pt (pw_or (pt_not (pt_truth (pe_callB (call_isinst (T := "list")) rfl T.isinstance PyProof.Rows.boot_isinstance (pa_cons (pv 0) (pa_cons (pe_bltn (v := .ty "list") rfl T.list PyProof.Rows.boot_list rfl) pa_nil))) (fun _ => rfl))) (pw_or (pt_cmpR op_ne (pe_callB call_len rfl T.len PySem.boot_len (pa_cons (pv 0) pa_nil)) (pv 3) (nomark _)) (pw_or1 (pt_cmpR op_ne (pe_ix ix_list (pv 0) pe_int (fun _ _ => rfl)) (pv 2) (nomark _)))))) (pss_one (ps_ret pe_bl)) pss_nil)
    (pss_cons (ps_for PassesOwn.never rfl (pi_range1 rfl T.range (pa_cons (pe_callB call_len rfl T.len PySem.boot_len (pa_cons (pv 0) pa_nil)) pa_nil)) (pg_name (i := 5) sc_L_is_way.nd rfl (Or.inl rfl))
        (pss_cons (ps_set (i := 6) sc_L_is_way.nd rfl (Or.inl rfl) (pe_ix ix_list (pv 0) (pv 5) (fun _ _ => rfl)))
    (pss_cons (ps_if (PW.pt (pw_or (pt_not (pt_truth (pe_callB (call_isinst (T := "int")) rfl T.isinstance PyProof.Rows.boot_isinstance (pa_cons (pv 6) (pa_cons (pe_bltn (v := .ty "int") rfl T.int PyProof.Rows.boot_int rfl) pa_nil))) (fun _ => rfl))) (pw_or (pt_truth (pe_callB (call_isinst (T := "bool")) rfl T.isinstance PyProof.Rows.boot_isinstance (pa_cons (pv 6) (pa_cons (pe_bltn (v := .ty "bool") rfl T.bool PyProof.Rows.boot_bool rfl) pa_nil))) (fun _ => rfl)) (pw_or1 (pt_not (pt_chain op_le op_lt (pv 4) (pv 6) (pe_op op_add (pv 4) (pe_callB call_len rfl T.len PySem.boot_len (pa_cons (pe_ix ix_tup (pv 1) pe_int (fun _ _ => rfl)) pa_nil))))))))) (pss_one (ps_ret pe_bl)) pss_nil)
    (pss_one (ps_if (pt_cmpR op_gt (pv 5) pe_int (nomark _)) (pss_cons (ps_asg (pe_ix ix_list (pe_ix ix_tup (pv 1) pe_int (fun _ _ => rfl)) (pe_op op_sub (pe_ix ix_list (pv 0) (pe_op op_sub (pv 5) pe_int) (fun _ _ => rfl)) (pv 4)) (fun _ _ => rfl)) (pg_tup rfl (pgs_cons (pg_name (i := 7) sc_L_is_way.nd rfl (Or.inl rfl)) (pgs_cons (pg_name (i := 8) sc_L_is_way.nd rfl (Or.inl rfl)) pgs_nil))))
    (pss_one (ps_if (PW.pt (pw_and (pt_cmpR op_ne (pv 6) (pe_op op_fdivL (pv 7) pe_int) (nomark _)) (pw_and1 (pt_cmpR op_ne (pv 6) (pe_op op_fdivL (pv 8) pe_int) (nomark _))))) (pss_one (ps_ret pe_bl)) pss_nil))) pss_nil)))))
    (pss_one (ps_ret pe_bl))))), ?_⟩
  obtain ⟨bs, hB⟩ := hW.b
  obtain ⟨gs, hG⟩ := hW.g
  have hbl : (bs.map V.ref).length = W.boxes.length := by rw [List.length_map, hB.length]
  have hgl : (gs.map V.ref).length = W.gates.length := by rw [List.length_map, hG.length]
  have hwl : (ws.map V.int).length = ws.length := List.length_map _
  have hfe : W.first = 1 + W.ins + W.boxes.length := rfl
  have hke : (W.knots : Int) = W.first + W.gates.length := by unfold Wk.knots; omega
  have hfi : (1 + (W.ins : Int) + ((bs.map V.ref).length : Nat)) = ((W.first : Nat) : Int) := by rw [hbl, hfe]; omega
  refine ⟨_, rfl, w, _, _, _, rfl, rfl, SqT.of hW.w, rfl, _, _, rfl, rfl, _, rfl, w, _, _, _, rfl, rfl, SqT.of hW.w, rfl, _, _, rfl, .inl ⟨_, SqL.of hB.1, rfl⟩, _, _, rfl, rfl, ?_⟩
  dsimp only
  rw [hfi]
  have h0 : atI (ws.map V.int) 0 = some (.int knot) := atI_nat (j := 0) (by rw [List.getElem?_map, hT.hd]; rfl)
  refine ⟨_, rfl, _, _, true, rfl, TyOf.lst hf, rfl, _, rfl, ?_⟩
  refine iteF ?_
  refine ⟨_, rfl, _, _, rfl, .inl ⟨_, SqL.of hf, rfl⟩, _, rfl, rfl, _, rfl, ?_⟩
  refine ite_f (by rw [hwl, hdep]; simp) ?_
  refine ⟨_, rfl, f, _, _, _, rfl, rfl, SqL.of hf, h0, _, rfl, rfl, _, rfl, ?_⟩
  refine ite_f (by simp) ?_
  refine ⟨_, rfl, _, _, rfl, .inl ⟨_, SqL.of hf, rfl⟩, _, rfl, by rw [hwl]; omega, by rw [hwl]; omega, for_range (lo := 0) (fun i σ H' => ∃ x y u v, σ = [some (.ref f), some (.ref w), some (.int knot), some (.int depth), some (.int ((W.first : Nat) : Int)), x, y, u, v] ∧ H = H') ⟨_, _, _, _, rfl, rfl⟩ ?_ ?_⟩
  · rintro i σ H' hi ⟨x, y, u, v, rfl, rfl⟩
    have hi' : i < ws.length := by rw [hwl] at hi; omega
    have hat : ∀ j : Nat, (hj : j < ws.length) → atI (ws.map V.int) ((j : Nat) : Int) = some (.int ws[j]) := fun j hj => atI_nat (by rw [List.getElem?_map, List.getElem?_eq_getElem hj]; rfl)
    obtain ⟨g1, g2⟩ := hT.ing i ws[i] (List.getElem?_eq_getElem hi')
    refine ⟨_, rfl, _, rfl, f, _, _, _, rfl, rfl, SqL.of hf, (by rw [Int.zero_add]; exact hat i hi'), ?_⟩
    refine ⟨_, rfl, _, _, true, rfl, TyOf.int _, rfl, _, rfl, ?_⟩
    refine iteF ?_
    refine ⟨_, rfl, _, _, false, rfl, TyOf.int _, rfl, _, rfl, ?_⟩
    refine iteF ?_
    refine ⟨_, rfl, _, rfl, _, _, rfl, rfl, _, rfl, ?_⟩
    refine ite_t (decide_eq_true g1) ?_
    refine ⟨_, rfl, _, rfl, w, _, _, _, rfl, rfl, SqT.of hW.w, rfl, _, _, rfl, .inl ⟨_, SqL.of hG.1, rfl⟩, _, _, rfl, rfl, _, _, rfl, rfl, _, rfl, ?_⟩
    refine ite_f (by rw [decide_eq_true (by rw [hgl]; omega)]; rfl) ?_
    refine ⟨_, rfl, _, _, rfl, rfl, _, rfl, ?_⟩
    refine ite2 (fun c => ?_) (fun c => ?_)
    · have c' : (0 : Int) < 0 + (i : Int) := of_decide_eq_true c
      have hi1 : i - 1 < ws.length := by omega
      have hii : i - 1 + 1 = i := by omega
      obtain ⟨p1, p2⟩ := hT.ing (i - 1) ws[i - 1] (List.getElem?_eq_getElem hi1)
      obtain ⟨gg, hg1, hg2⟩ := hT.nx (i - 1) ws[i - 1] ws[i] (List.getElem?_eq_getElem hi1) (by rw [hii]; exact List.getElem?_eq_getElem hi')
      obtain ⟨hj, ej⟩ := List.getElem?_eq_some_iff.mp hg1
      obtain ⟨r, hr1, hr2⟩ := hG.get hj
      rw [ej] at hr2
      refine ⟨_, rfl, w, _, _, _, rfl, rfl, SqT.of hW.w, rfl, _, rfl, _, rfl, _, _, rfl, rfl, f, _, _, _, rfl, rfl, SqL.of hf, (by rw [show (0 : Int) + (i : Int) - 1 = ((i - 1 : Nat) : Int) by omega]; exact hat (i - 1) hi1), _, rfl, _, _, rfl, rfl, g, _, _, _, rfl, rfl, SqL.of hG.1, (by rw [show ws[i - 1] - ((W.first : Nat) : Int) = (((ws[i - 1] - W.first).toNat : Nat) : Int) by omega]; exact atI_nat hr1), r, _, rfl, SqT.of hr2, rfl, _, _, rfl, _, _, rfl, rfl, ?_⟩
      refine ⟨_, rfl, _, rfl, _, _, rfl, rfl, ⟨by decide, by decide⟩, rfl, _, rfl, ?_⟩
      refine ite2 (fun d1 => ?_) (fun d1 => ?_)
      · refine ⟨_, rfl, _, rfl, _, _, rfl, rfl, ⟨by decide, by decide⟩, rfl, _, rfl, ?_⟩
        refine ite2 (fun d2 => ?_) (fun d2 => ?_)
        · exfalso
          rcases hg2 with e | e
          · rw [e] at d1
            simp at d1
          · rw [e] at d2
            simp at d2
        · exact ⟨_, _, _, _, rfl, rfl⟩
      · exact ite_f rfl ⟨_, _, _, _, rfl, rfl⟩
    · exact ⟨_, _, _, _, rfl, rfl⟩
  · rintro σ H' ⟨x, y, u, v, rfl, rfl⟩
    exact q
theorem ok_law (T : Tx w K mg A) (G_L_row : FnOk P w K mg base CX0 1 A.a_L_row A.d_L_row ["_law_script", "_law_at", "_law_many"] (sp_L_row K)) (G_L_work : FnOk P w K mg base CX0 2 A.a_L_work A.d_L_work ["_law_row_here", "_law_sizes"] (sp_L_work K)) (G_L_depths : FnOk P w K mg base CX0 1 A.a_L_depths A.d_L_depths ["_law_work_here"] sp_deepK) (G_L_tall : FnOk P w K mg base CX0 1 A.a_L_tall A.d_L_tall ["_law_work_here"] sp_L_tallN) (G_way_down : FnOk P w K mg base CX0 2 A.a_way_down A.d_way_down ["work", "knot"] (sp_way_down A.tp_way_down)) (G_L_long : FnOk P w K mg base CX0 1 A.a_L_long A.d_L_long ["_law_work_here", "_law_row_here"] (sp_L_long K)) (G_L_is_way : FnOk P w K mg base CX0 1 A.a_L_is_way A.d_L_is_way ["_law_found", "_law_work_here", "_law_knot", "_law_depth"] sp_is_way) : FnOk P w K mg base CX0 3 A.a_law A.d_law ["_law_script"] (sp_law K A.tp_way_down) := by
  refine T.F_law.ok sc_law (fun vs H Q E h => ?_) (fun cdv A' outer s H vs Q E hr h => ?_)
  · obtain ⟨a, ns, rfl, hS, h63, hP, q⟩ := h
    rfl
  obtain ⟨a, ns, rfl, hS, h63, hP, q⟩ := h
  refine ⟨_, (pss_cons (ps_set (i := 1) sc_law.nd rfl (Or.inl rfl) (pe_call G_L_row (hr.mono (by first | decide | omega)) rfl T.M_L_row T.F_L_row.kp T.B_L_row .nil pass0 (pa_cons (pv 0) (pa_cons pe_int (pa_cons pe_int pa_nil)))))
    (pss_cons (ps_for PassesOwn.never rfl (pi_range2 rfl T.range (pa_cons pe_int (pa_cons (pe_callB (call_max2 rfl) rfl T.max PyProof.Rows.boot_max (pa_cons pe_int (pa_cons (pe_callB (call_min2 rfl) rfl T.min PyProof.Rows.boot_min (pa_cons (pe_callB call_len rfl T.len PySem.boot_len (pa_cons (pv 0) pa_nil)) (pa_cons pe_int pa_nil))) pa_nil))) pa_nil))) (pg_name (i := 2) sc_law.nd rfl (Or.inl rfl))
        (pss_cons (ps_set (i := 3) sc_law.nd rfl (Or.inl rfl) (pe_call G_L_work (hr.mono (by first | decide | omega)) rfl T.M_L_work T.F_L_work.kp T.B_L_work .nil pass0 (pa_cons (pe_call G_L_row (hr.mono (by first | decide | omega)) rfl T.M_L_row T.F_L_row.kp T.B_L_row .nil pass0 (pa_cons (pv 0) (pa_cons (pv 2) (pa_cons pe_int pa_nil)))) (pa_cons (pe_op op_cat (pe_slice sl_list (pv 1) po_none (po_some pe_int)) (pe_lst (pa_cons (pe_op op_add (pe_ix ix_list (pv 1) pe_int (fun _ _ => rfl)) (pe_op op_mul pe_int (pv 2))) (pa_cons (pe_ix ix_list (pv 1) pe_int (fun _ _ => rfl)) pa_nil)))) pa_nil))))
    (pss_cons (ps_set (i := 4) sc_law.nd rfl (Or.inl rfl) (pe_op op_add (pe_op op_add pe_int (pe_ix ix_tup (pv 3) pe_int (fun _ _ => rfl))) (pe_callB call_len rfl T.len PySem.boot_len (pa_cons (pe_ix ix_tup (pv 3) pe_int (fun _ _ => rfl)) pa_nil))))
    (pss_cons (ps_if (pt_cmpR op_eq (pe_op op_mod (pe_op op_add (pe_ix ix_list (pv 1) pe_int (fun _ _ => rfl)) (pv 2)) pe_int) pe_int (nomark _)) (pss_cons (ps_set (i := 3) sc_law.nd rfl (Or.inl rfl) (pe_call G_L_tall (hr.mono (by first | decide | omega)) rfl T.M_L_tall T.F_L_tall.kp T.B_L_tall .nil pass0 (pa_cons (pv 3) pa_nil)))
    (pss_one (ps_set (i := 4) sc_law.nd rfl (Or.inl rfl) (pe_op op_sub (pe_op op_add (pe_op op_add (pe_op op_add pe_int (pe_ix ix_tup (pv 3) pe_int (fun _ _ => rfl))) (pe_callB call_len rfl T.len PySem.boot_len (pa_cons (pe_ix ix_tup (pv 3) pe_int (fun _ _ => rfl)) pa_nil))) (pe_callB call_len rfl T.len PySem.boot_len (pa_cons (pe_ix ix_tup (pv 3) pe_int (fun _ _ => rfl)) pa_nil))) pe_int)))) (pss_one (ps_if (pt_cmpR op_eq (pe_op op_mod (pe_op op_add (pe_ix ix_list (pv 1) pe_int (fun _ _ => rfl)) (pv 2)) pe_int) pe_int (nomark _)) (pss_one (ps_set (i := 3) sc_law.nd rfl (Or.inl rfl) (pe_call G_L_long (hr.mono (by first | decide | omega)) rfl T.M_L_long T.F_L_long.kp T.B_L_long .nil pass0 (pa_cons (pv 3) (pa_cons (pe_call G_L_row (hr.mono (by first | decide | omega)) rfl T.M_L_row T.F_L_row.kp T.B_L_row .nil pass0 (pa_cons (pv 0) (pa_cons (pe_op op_add (pv 2) pe_int) (pa_cons pe_int pa_nil)))) pa_nil))))) pss_nil)))
    (pss_cons (ps_set (i := 5) sc_law.nd rfl (Or.inl rfl) (pe_call G_L_depths (hr.mono (by first | decide | omega)) rfl T.M_L_depths T.F_L_depths.kp T.B_L_depths .nil pass0 (pa_cons (pv 3) pa_nil)))
    (pss_one (ps_for PassesOwn.never rfl (pi_range2 rfl T.range (pa_cons (pv 4) (pa_cons (pe_callB call_len rfl T.len PySem.boot_len (pa_cons (pv 5) pa_nil)) pa_nil))) (pg_name (i := 6) sc_law.nd rfl (Or.inl rfl))
        (pss_cons (ps_set (i := 7) sc_law.nd rfl (Or.inl rfl) (pe_call G_way_down (hr.mono (by first | decide | omega)) rfl T.M_way_down T.F_way_down.kp T.B_way_down .nil pass0 (pa_cons (pv 3) (pa_cons (pv 6) pa_nil))))
    (pss_cons (ps_if (pt_not (pt_truth (pe_call G_L_is_way (hr.mono (by first | decide | omega)) rfl T.M_L_is_way T.F_L_is_way.kp T.B_L_is_way .nil pass0 (pa_cons (pv 7) (pa_cons (pv 3) (pa_cons (pv 6) (pa_cons (pe_ix ix_list (pv 5) (pv 6) (fun _ _ => rfl)) pa_nil))))) (fun _ => rfl))) (pss_one (ps_ret pe_bl)) pss_nil)
    (pss_cons (ps_expr (pe_bm PySem.F.plainAttrs_list PySem.F.slot_list_append PySem.F.type_list_append mt_append (pv 7) (pa_cons (pe_un un_neg pe_int) pa_nil)))
    (pss_one (ps_if (pt_not (pt_truth (pe_call G_L_is_way (hr.mono (by first | decide | omega)) rfl T.M_L_is_way T.F_L_is_way.kp T.B_L_is_way .nil pass0 (pa_cons (pe_call G_way_down (hr.mono (by first | decide | omega)) rfl T.M_way_down T.F_way_down.kp T.B_way_down .nil pass0 (pa_cons (pv 3) (pa_cons (pv 6) pa_nil))) (pa_cons (pv 3) (pa_cons (pv 6) (pa_cons (pe_ix ix_list (pv 5) (pv 6) (fun _ _ => rfl)) pa_nil))))) (fun _ => rfl))) (pss_one (ps_ret pe_bl)) pss_nil))))))))))))
    (pss_one (ps_ret pe_bl)))), ?_⟩
  have hl : (ns.map V.int).length = ns.length := List.length_map _
  refine ⟨_, rfl, a, ns, _, _, rfl, hS, h63, by decide, by decide, by decide, fun z zs H1 hz s1 hz1 hzl hzd => ?_⟩
  refine ⟨_, rfl, _, _, rfl, .inl ⟨_, s1.seq hS, rfl⟩, _, _, rfl, _, _, rfl, _, _, rfl, ⟨by decide, by decide, ?_, ?_⟩, for_range (lo := 1) (fun i σ H' => ∃ x y u v t l, σ = [some (.ref a), some (.ref z), x, y, u, v, t, l] ∧ Same H1 H') ⟨_, _, _, _, _, _, rfl, Same.refl _⟩ ?_ ?_⟩
  · rw [hl]; split <;> split <;> omega
  · rw [hl]; split <;> split <;> omega
  · rintro i σ H2 hi ⟨x, y, u, v, t, l, rfl, s2⟩
    have hi16 : i ≤ 15 := by rw [hl] at hi; split at hi <;> (try split at hi) <;> omega
    have zp : ∀ j : Int, 0 ≤ j → j < 5 → ∃ v : Int, atI (zs.map V.int) j = some (.int v) ∧ 0 ≤ v ∧ v < 1000000 := fun j h0 h1 => hzd.at h0 (by omega)
    obtain ⟨z2, hz2, z20, _⟩ := zp 2 (by decide) (by decide)
    obtain ⟨z3, hz3, z30, _⟩ := zp 3 (by decide) (by decide)
    obtain ⟨z4, hz4, z40, _⟩ := zp 4 (by decide) (by decide)
    have hz1' := s2 _ _ hz1
    refine ⟨_, rfl, _, rfl, a, ns, _, _, rfl, (s1.trans s2).seq hS, h63, by omega, by decide, by decide, fun r rs H3 hr s3 hr3 hrl hrd => ?_⟩
    refine ⟨_, rfl, _, rfl, z, _, rfl, SqL.of (s3 _ _ hz1'), fun p1 hp1 => ?_⟩
    have s4 := s3.trans (same_new hp1 (.lst (cutV (zs.map V.int) none (some 2))))
    refine ⟨_, rfl, z, _, _, _, rfl, rfl, SqL.of (s4 _ _ hz1'), hz2, _, rfl, _, _, rfl, rfl, .inl ⟨by decide, by decide⟩, _, _, rfl, rfl, _, rfl, z, _, _, _, rfl, rfl, SqL.of (s4 _ _ hz1'), hz3, (by show 2 ≤ sizeLine; decide), fun p2 hp2 => ?_⟩
    have hcut : cutV (zs.map V.int) none (some 2) = (zs.take 2).map V.int := by
      rw [show (2 : Int) = ((2 : Nat) : Int) from rfl, cut_to (by rw [List.length_map]; omega), List.map_take]
    have s5 := same_new hp2 (.lst [.int (z2 + 5 * (1 + (i : Int))), .int z3])
    refine ⟨p1, p2, _, _, rfl, rfl, s5 _ _ upd_same, upd_same, (by rw [hcut, List.length_map, List.length_take]; exact small (by show min 2 _ + 2 ≤ 100000; omega)), fun p3 hp3 => ?_⟩
    have s6 := (s4.trans s5).trans (same_new hp3 (.lst (cutV (zs.map V.int) none (some 2) ++ [.int (z2 + 5 * (1 + (i : Int))), .int z3])))
    have r6 : ((_ : Hp)) r = _ := ((same_new hp1 (.lst (cutV (zs.map V.int) none (some 2)))).trans (s5.trans (same_new hp3 (.lst (cutV (zs.map V.int) none (some 2) ++ [.int (z2 + 5 * (1 + (i : Int))), .int z3]))))) _ _ hr3
    refine ⟨r, p3, rs, zs.take 2 ++ [z2 + 5 * (1 + (i : Int)), z3], rfl, SqL.of r6, SqL.of (by rw [upd_same, hcut, List.map_append]; rfl), by omega, hrd, by rw [List.length_append, List.length_take]; show 4 ≤ min 2 _ + 2; omega, fun r hr => ?_, fun w b g o W H7 _ _ _ _ s7 hW ok h12 ho8 _ => ?_⟩
    · rcases List.mem_append.mp hr with h | h
      · exact (hzd r (List.mem_of_mem_take h)).1
      · simp only [List.mem_cons, List.not_mem_nil, or_false] at h
        rcases h with rfl | rfl <;> omega
    have s17 : Same H2 H7 := s6.trans s7
    have hz7 := s17 _ _ hz1'
    have hP7 := s17 _ _ (s2 _ _ (s1 _ _ hP))
    obtain ⟨bs, hB⟩ := hW.b
    have hbl : (bs.map V.ref).length = W.boxes.length := by rw [List.length_map, hB.length]
    have hfi : (1 + (W.ins : Int) + ((bs.map V.ref).length : Nat)) = ((W.first : Nat) : Int) := by rw [hbl]; show _ = ((1 + W.ins + W.boxes.length : Nat) : Int); omega
    refine ⟨_, rfl, w, _, _, _, rfl, rfl, SqT.of hW.w, rfl, _, _, rfl, rfl, _, rfl, w, _, _, _, rfl, rfl, SqT.of hW.w, rfl, _, _, rfl, .inl ⟨_, SqL.of hB.1, rfl⟩, _, _, rfl, rfl, ?_⟩
    dsimp only
    rw [hfi]
    refine ⟨_, rfl, z, _, _, _, rfl, rfl, SqL.of hz7, hz4, _, rfl, _, _, rfl, rfl, _, _, rfl, rfl, (by show (0 : Int) < 16; decide), rfl, _, rfl, ?_⟩
    refine ite2 (fun c => ?_) (fun c => ?_)
    · refine ⟨_, rfl, w, b, g, o, W, rfl, hW, ok, h12, ho8, fun w g o W' H8 s8 hW ok hins hbx h15 => ?_⟩
      have s18 := s17.trans s8
      have hP8 := s8 _ _ hP7
      obtain ⟨bs, hB⟩ := hW.b
      obtain ⟨gs, hG⟩ := hW.g
      have hbl : (bs.map V.ref).length = W'.boxes.length := by rw [List.length_map, hB.length]
      have hgl : (gs.map V.ref).length = W'.gates.length := by rw [List.length_map, hG.length]
      have hfe : W'.first = 1 + W'.ins + W'.boxes.length := rfl
      refine ⟨_, rfl, w, _, _, _, rfl, rfl, SqT.of hW.w, rfl, _, _, rfl, rfl, _, rfl, w, _, _, _, rfl, rfl, SqT.of hW.w, rfl, _, _, rfl, .inl ⟨_, SqL.of hB.1, rfl⟩, _, _, rfl, rfl, _, rfl, w, _, _, _, rfl, rfl, SqT.of hW.w, rfl, _, _, rfl, .inl ⟨_, SqL.of hG.1, rfl⟩, _, _, rfl, rfl, _, _, rfl, rfl, ?_⟩
      dsimp only
      obtain ⟨bg, hbg⟩ : ∃ bg : Int, bg = 1 + (W'.ins : Int) + ((bs.map V.ref).length : Nat) + ((gs.map V.ref).length : Nat) - 1 := ⟨_, rfl⟩
      rw [← hbg]
      have hb1 : (W'.first : Int) ≤ bg := by rw [hbg, hbl, hgl]; omega
      have hb2 : bg ≤ 4000 := by rw [hbg, hbl, hgl]; have := ok.gates; have := ok.ins; have := ok.boxes; omega
      have hg2 := ok.gates
      have hi7 := ok.ins
      have hb8 := ok.boxes
      have hfe9 : W'.first = 1 + W'.ins + W'.boxes.length := rfl
      have hke9 : (W'.knots : Int) = W'.first + W'.gates.length := by unfold Wk.knots; omega
      refine ⟨_, rfl, w, b, g, o, W', rfl, hW, ok, fun d H10 hd s20 hd1 => ?_⟩
      have hdl : ((dL W'.first W'.gates).map V.int).length = W'.first + W'.gates.length := by rw [List.length_map, dL_length]
      refine ⟨_, rfl, _, rfl, _, _, rfl, .inl ⟨_, SqL.of hd1, rfl⟩, _, _, rfl, ⟨by omega, by omega, by rw [hdl]; omega, by rw [hdl]; omega⟩, for_range (lo := bg) (fun i σ H' => ∃ kk x y, σ = [some (.ref a), some (.ref z), kk, some (.ref w), some (.int bg), some (.ref d), x, y] ∧ Same H10 H') ⟨_, _, _, rfl, Same.refl _⟩ ?_ ?_⟩
      · rintro j σ H11 hj ⟨kk, x, y, rfl, s21⟩
        have hj' : bg + (j : Int) < W'.knots := by rw [hdl] at hj; omega
        have hin : InG W' (bg + (j : Int)) := ⟨by omega, hj'⟩
        have s22 := s20.trans s21
        obtain ⟨v1, hv1, _, e1⟩ := at_ints (ns := dL W'.first W'.gates) (i := bg + (j : Int)) (by omega) (by rw [dL_length]; omega)
        have e1' : v1 = dp W' (bg + (j : Int)) := e1
        refine ⟨_, rfl, _, rfl, w, b, g, o, W', _, rfl, hW.same s22, ok, hin, s22 _ _ hP8, fun f ws H12 hf s23 hf1 hT hlen h3 => ?_⟩
        refine ⟨_, rfl, _, rfl, _, rfl, _, rfl, _, rfl, d, _, _, _, rfl, rfl, SqL.of (s23 _ _ (s21 _ _ hd1)), hv1, f, w, b, g, o, W', _, _, ws, rfl, hf1, hW.same (s22.trans s23), ok, hT, by rw [hlen, e1'], h3, _, rfl, ?_⟩
        refine iteF ?_
        refine ⟨_, rfl, .inl ⟨rfl, _, SqL.of hf1⟩, _, rfl, f, _, _, rfl, rfl, hf1, (by rw [List.length_map]; exact smallL (by omega)), ?_⟩
        have s24 := sameUpd s23 hf (.lst (ws.map V.int ++ [.int (-1)]))
        refine ⟨_, rfl, _, rfl, w, b, g, o, W', _, rfl, hW.same (s22.trans s24), ok, hin, s24 _ _ (s22 _ _ hP8), fun f' ws' H13 hf' s25 hf1' hT' hlen' h3' => ?_⟩
        refine ⟨_, rfl, _, rfl, _, rfl, _, rfl, d, _, _, _, rfl, rfl, SqL.of (s25 _ _ (s24 _ _ (s21 _ _ hd1))), hv1, f', w, b, g, o, W', _, _, ws', rfl, hf1', hW.same ((s22.trans s24).trans s25), ok, hT', by rw [hlen', e1'], h3', _, rfl, ?_⟩
        refine iteF ?_
        exact ⟨_, _, _, rfl, s21.trans (s24.trans s25)⟩
      · rintro σ H11 ⟨kk, x, y, rfl, s21⟩
        exact ⟨_, _, _, _, _, _, rfl, s2.trans (s18.trans (s20.trans s21))⟩
    · refine ⟨_, rfl, z, _, _, _, rfl, rfl, SqL.of hz7, hz4, _, rfl, _, _, rfl, rfl, _, _, rfl, rfl, (by show (0 : Int) < 2; decide), rfl, _, rfl, ?_⟩
      refine ite2 (fun c => ?_) (fun c => ?_)
      · refine ⟨_, rfl, _, rfl, _, rfl, _, _, rfl, rfl, a, ns, _, _, rfl, (s1.trans (s2.trans s17)).seq hS, h63, by omega, by decide, by decide, fun r8 rs8 H8 hr8 s8 hr83 hrl8 hrd8 => ?_⟩
        refine ⟨w, b, g, o, r8, W, rs8, rfl, hW.same s8, ok, h12, hr83, by omega, hrd8, fun w g W' H9 s9 hW ok hins hbx => ?_⟩
        have s18 := (s17.trans s8).trans s9
        have hP8 := s9 _ _ (s8 _ _ hP7)
        obtain ⟨bg, hbg⟩ : ∃ bg : Int, bg = ((W.first : Nat) : Int) := ⟨_, rfl⟩
        rw [← hbg]
        have hb1 : (W'.first : Int) ≤ bg := by rw [hbg]; show ((1 + W'.ins + W'.boxes.length : Nat) : Int) ≤ ((1 + W.ins + W.boxes.length : Nat) : Int); rw [hins, hbx]; omega
        have hb2 : bg ≤ 4000 := by rw [hbg]; have e : W.first = 1 + W'.ins + W'.boxes.length := (by rw [hins, hbx]; rfl); have := ok.ins; have := ok.boxes; omega
        have hg2 := ok.gates
        have hi7 := ok.ins
        have hb8 := ok.boxes
        have hfe9 : W'.first = 1 + W'.ins + W'.boxes.length := rfl
        have hke9 : (W'.knots : Int) = W'.first + W'.gates.length := by unfold Wk.knots; omega
        refine ⟨_, rfl, w, b, g, o, W', rfl, hW, ok, fun d H10 hd s20 hd1 => ?_⟩
        have hdl : ((dL W'.first W'.gates).map V.int).length = W'.first + W'.gates.length := by rw [List.length_map, dL_length]
        refine ⟨_, rfl, _, rfl, _, _, rfl, .inl ⟨_, SqL.of hd1, rfl⟩, _, _, rfl, ⟨by omega, by omega, by rw [hdl]; omega, by rw [hdl]; omega⟩, for_range (lo := bg) (fun i σ H' => ∃ kk x y, σ = [some (.ref a), some (.ref z), kk, some (.ref w), some (.int bg), some (.ref d), x, y] ∧ Same H10 H') ⟨_, _, _, rfl, Same.refl _⟩ ?_ ?_⟩
        · rintro j σ H11 hj ⟨kk, x, y, rfl, s21⟩
          have hj' : bg + (j : Int) < W'.knots := by rw [hdl] at hj; omega
          have hin : InG W' (bg + (j : Int)) := ⟨by omega, hj'⟩
          have s22 := s20.trans s21
          obtain ⟨v1, hv1, _, e1⟩ := at_ints (ns := dL W'.first W'.gates) (i := bg + (j : Int)) (by omega) (by rw [dL_length]; omega)
          have e1' : v1 = dp W' (bg + (j : Int)) := e1
          refine ⟨_, rfl, _, rfl, w, b, g, o, W', _, rfl, hW.same s22, ok, hin, s22 _ _ hP8, fun f ws H12 hf s23 hf1 hT hlen h3 => ?_⟩
          refine ⟨_, rfl, _, rfl, _, rfl, _, rfl, _, rfl, d, _, _, _, rfl, rfl, SqL.of (s23 _ _ (s21 _ _ hd1)), hv1, f, w, b, g, o, W', _, _, ws, rfl, hf1, hW.same (s22.trans s23), ok, hT, by rw [hlen, e1'], h3, _, rfl, ?_⟩
          refine iteF ?_
          refine ⟨_, rfl, .inl ⟨rfl, _, SqL.of hf1⟩, _, rfl, f, _, _, rfl, rfl, hf1, (by rw [List.length_map]; exact smallL (by omega)), ?_⟩
          have s24 := sameUpd s23 hf (.lst (ws.map V.int ++ [.int (-1)]))
          refine ⟨_, rfl, _, rfl, w, b, g, o, W', _, rfl, hW.same (s22.trans s24), ok, hin, s24 _ _ (s22 _ _ hP8), fun f' ws' H13 hf' s25 hf1' hT' hlen' h3' => ?_⟩
          refine ⟨_, rfl, _, rfl, _, rfl, _, rfl, d, _, _, _, rfl, rfl, SqL.of (s25 _ _ (s24 _ _ (s21 _ _ hd1))), hv1, f', w, b, g, o, W', _, _, ws', rfl, hf1', hW.same ((s22.trans s24).trans s25), ok, hT', by rw [hlen', e1'], h3', _, rfl, ?_⟩
          refine iteF ?_
          exact ⟨_, _, _, rfl, s21.trans (s24.trans s25)⟩
        · rintro σ H11 ⟨kk, x, y, rfl, s21⟩
          exact ⟨_, _, _, _, _, _, rfl, s2.trans (s18.trans (s20.trans s21))⟩
      · have s18 := s17
        have hP8 := hP7
        obtain ⟨bg, hbg⟩ : ∃ bg : Int, bg = ((W.first : Nat) : Int) := ⟨_, rfl⟩
        rw [← hbg]
        have hb1 : (W.first : Int) ≤ bg := by omega
        have hb2 : bg ≤ 4000 := by rw [hbg]; have e : W.first = 1 + W.ins + W.boxes.length := rfl; have := ok.ins; have := ok.boxes; omega
        have hg2 := ok.gates
        have hi7 := ok.ins
        have hb8 := ok.boxes
        have hfe9 : W.first = 1 + W.ins + W.boxes.length := rfl
        have hke9 : (W.knots : Int) = W.first + W.gates.length := by unfold Wk.knots; omega
        refine ⟨_, rfl, w, b, g, o, W, rfl, hW, ok, fun d H10 hd s20 hd1 => ?_⟩
        have hdl : ((dL W.first W.gates).map V.int).length = W.first + W.gates.length := by rw [List.length_map, dL_length]
        refine ⟨_, rfl, _, rfl, _, _, rfl, .inl ⟨_, SqL.of hd1, rfl⟩, _, _, rfl, ⟨by omega, by omega, by rw [hdl]; omega, by rw [hdl]; omega⟩, for_range (lo := bg) (fun i σ H' => ∃ kk x y, σ = [some (.ref a), some (.ref z), kk, some (.ref w), some (.int bg), some (.ref d), x, y] ∧ Same H10 H') ⟨_, _, _, rfl, Same.refl _⟩ ?_ ?_⟩
        · rintro j σ H11 hj ⟨kk, x, y, rfl, s21⟩
          have hj' : bg + (j : Int) < W.knots := by rw [hdl] at hj; omega
          have hin : InG W (bg + (j : Int)) := ⟨by omega, hj'⟩
          have s22 := s20.trans s21
          obtain ⟨v1, hv1, _, e1⟩ := at_ints (ns := dL W.first W.gates) (i := bg + (j : Int)) (by omega) (by rw [dL_length]; omega)
          have e1' : v1 = dp W (bg + (j : Int)) := e1
          refine ⟨_, rfl, _, rfl, w, b, g, o, W, _, rfl, hW.same s22, ok, hin, s22 _ _ hP8, fun f ws H12 hf s23 hf1 hT hlen h3 => ?_⟩
          refine ⟨_, rfl, _, rfl, _, rfl, _, rfl, _, rfl, d, _, _, _, rfl, rfl, SqL.of (s23 _ _ (s21 _ _ hd1)), hv1, f, w, b, g, o, W, _, _, ws, rfl, hf1, hW.same (s22.trans s23), ok, hT, by rw [hlen, e1'], h3, _, rfl, ?_⟩
          refine iteF ?_
          refine ⟨_, rfl, .inl ⟨rfl, _, SqL.of hf1⟩, _, rfl, f, _, _, rfl, rfl, hf1, (by rw [List.length_map]; exact smallL (by omega)), ?_⟩
          have s24 := sameUpd s23 hf (.lst (ws.map V.int ++ [.int (-1)]))
          refine ⟨_, rfl, _, rfl, w, b, g, o, W, _, rfl, hW.same (s22.trans s24), ok, hin, s24 _ _ (s22 _ _ hP8), fun f' ws' H13 hf' s25 hf1' hT' hlen' h3' => ?_⟩
          refine ⟨_, rfl, _, rfl, _, rfl, _, rfl, d, _, _, _, rfl, rfl, SqL.of (s25 _ _ (s24 _ _ (s21 _ _ hd1))), hv1, f', w, b, g, o, W, _, _, ws', rfl, hf1', hW.same ((s22.trans s24).trans s25), ok, hT', by rw [hlen', e1'], h3', _, rfl, ?_⟩
          refine iteF ?_
          exact ⟨_, _, _, rfl, s21.trans (s24.trans s25)⟩
        · rintro σ H11 ⟨kk, x, y, rfl, s21⟩
          exact ⟨_, _, _, _, _, _, rfl, s2.trans (s18.trans (s20.trans s21))⟩
  · rintro σ H2 ⟨x, y, u, v, t, l, rfl, s2⟩
    exact q H2
end

theorem all_ok {P : Program} {w : World} {K : PySem.W.Frag} {mg : Str → Option Value} {base : Heap} {A : Ad} (T : Tx w K mg A) (C_way_down : LamAt mg base A.tc_way_down A.tp_way_down) : FnOk P w K mg base CX0 3 A.a_law A.d_law ["_law_script"] (sp_law K A.tp_way_down) := by
  have G_depths_of_knots := ok_depths_of_knots (P := P) (base := base) T
  have G_way_down := ok_way_down (P := P) (base := base) T C_way_down G_depths_of_knots
  have G_L_row := ok_L_row (P := P) (base := base) T
  have G_L_size := ok_L_size (P := P) (base := base) T
  have G_L_work := ok_L_work (P := P) (base := base) T G_L_size
  have G_L_long := ok_L_long (P := P) (base := base) T
  have G_L_tall := ok_L_tall (P := P) (base := base) T
  have G_L_depths := ok_L_depths (P := P) (base := base) T
  have G_L_is_way := ok_L_is_way (P := P) (base := base) T
  exact ok_law T G_L_row G_L_work G_L_depths G_L_tall G_way_down G_L_long G_L_is_way
theorem of_len1 {fd : FuncData} {ns : List Str} (h : ∀ a0, bindArgs fd ⟨[a0], []⟩ = pure (ns.zip [a0])) : ∀ us : List Value, us.length = 1 → bindArgs fd ⟨us, []⟩ = pure (ns.zip us) := fun us hl => by
  match us, hl with
  | [a0], _ => exact h a0
theorem of_len2 {fd : FuncData} {ns : List Str} (h : ∀ a0 a1, bindArgs fd ⟨[a0, a1], []⟩ = pure (ns.zip [a0, a1])) : ∀ us : List Value, us.length = 2 → bindArgs fd ⟨us, []⟩ = pure (ns.zip us) := fun us hl => by
  match us, hl with
  | [a0, a1], _ => exact h a0 a1
theorem of_len3 {fd : FuncData} {ns : List Str} (h : ∀ a0 a1 a2, bindArgs fd ⟨[a0, a1, a2], []⟩ = pure (ns.zip [a0, a1, a2])) : ∀ us : List Value, us.length = 3 → bindArgs fd ⟨us, []⟩ = pure (ns.zip us) := fun us hl => by
  match us, hl with
  | [a0, a1, a2], _ => exact h a0 a1 a2
theorem of_len4 {fd : FuncData} {ns : List Str} (h : ∀ a0 a1 a2 a3, bindArgs fd ⟨[a0, a1, a2, a3], []⟩ = pure (ns.zip [a0, a1, a2, a3])) : ∀ us : List Value, us.length = 4 → bindArgs fd ⟨us, []⟩ = pure (ns.zip us) := fun us hl => by
  match us, hl with
  | [a0, a1, a2, a3], _ => exact h a0 a1 a2 a3
theorem all_mk {w : World} {K : PySem.W.Frag} {h : Heap} {mg : Str → Option Value} {fa : Addr} (X : K.In h) (G : h.Ns mainGlobals mg) (hfa : mg "law" = some (.ref fa))
    {f0 f1 f2 f3 f4 f5 f6 f7 f8 f9 : Addr} {od0 an0 od1 an1 od2 an2 od3 an3 od4 an4 od5 an5 od6 an6 od7 an7 od8 an8 od9 an9 : Option Addr} {sl0 sl1 sl2 sl3 sl4 sl5 sl6 sl7 sl8 sl9 : Array (Option Value)} {oc0 kV0 dc0 pm0 cd0 ct0 oc1 kV1 dc1 pm1 cd1 ct1 oc2 kV2 dc2 pm2 cd2 ct2 oc3 kV3 dc3 pm3 cd3 ct3 oc4 kV4 dc4 pm4 cd4 ct4 oc5 kV5 dc5 pm5 cd5 ct5 oc6 kV6 dc6 pm6 cd6 ct6 oc7 kV7 dc7 pm7 cd7 ct7 oc8 kV8 dc8 pm8 cd8 ct8 oc9 kV9 dc9 pm9 cd9 ct9 : Value}
    (a0 : PySem.W.nsIn K mainGlobals "depths_of_knots" = some (some (.ref f0))) (l0 : K.lookup f0 = some ⟨oc0, od0, .func (PySem.W.fnOf "depths_of_knots" "depths_of_knots" (defArgs s_depths_of_knots) (defBody s_depths_of_knots) (defScope s_depths_of_knots) .none kV0 dc0 pm0 an0 cd0 ct0), sl0⟩) (c0 : PySem.W.codeIn K cd0 "depths_of_knots" = true) (k0 : PySem.W.keepIn K (.ref f0) = true)
    (a1 : PySem.W.nsIn K mainGlobals "way_down" = some (some (.ref f1))) (l1 : K.lookup f1 = some ⟨oc1, od1, .func (PySem.W.fnOf "way_down" "way_down" (defArgs s_way_down) (defBody s_way_down) (defScope s_way_down) .none kV1 dc1 pm1 an1 cd1 ct1), sl1⟩) (c1 : PySem.W.codeIn K cd1 "way_down" = true) (k1 : PySem.W.keepIn K (.ref f1) = true)
    (a2 : PySem.W.nsIn K mainGlobals "_law_row" = some (some (.ref f2))) (l2 : K.lookup f2 = some ⟨oc2, od2, .func (PySem.W.fnOf "_law_row" "_law_row" (defArgs s_L_row) (defBody s_L_row) (defScope s_L_row) .none kV2 dc2 pm2 an2 cd2 ct2), sl2⟩) (c2 : PySem.W.codeIn K cd2 "_law_row" = true) (k2 : PySem.W.keepIn K (.ref f2) = true)
    (a3 : PySem.W.nsIn K mainGlobals "_law_size" = some (some (.ref f3))) (l3 : K.lookup f3 = some ⟨oc3, od3, .func (PySem.W.fnOf "_law_size" "_law_size" (defArgs s_L_size) (defBody s_L_size) (defScope s_L_size) .none kV3 dc3 pm3 an3 cd3 ct3), sl3⟩) (c3 : PySem.W.codeIn K cd3 "_law_size" = true) (k3 : PySem.W.keepIn K (.ref f3) = true)
    (a4 : PySem.W.nsIn K mainGlobals "_law_work" = some (some (.ref f4))) (l4 : K.lookup f4 = some ⟨oc4, od4, .func (PySem.W.fnOf "_law_work" "_law_work" (defArgs s_L_work) (defBody s_L_work) (defScope s_L_work) .none kV4 dc4 pm4 an4 cd4 ct4), sl4⟩) (c4 : PySem.W.codeIn K cd4 "_law_work" = true) (k4 : PySem.W.keepIn K (.ref f4) = true)
    (a5 : PySem.W.nsIn K mainGlobals "_law_long" = some (some (.ref f5))) (l5 : K.lookup f5 = some ⟨oc5, od5, .func (PySem.W.fnOf "_law_long" "_law_long" (defArgs s_L_long) (defBody s_L_long) (defScope s_L_long) .none kV5 dc5 pm5 an5 cd5 ct5), sl5⟩) (c5 : PySem.W.codeIn K cd5 "_law_long" = true) (k5 : PySem.W.keepIn K (.ref f5) = true)
    (a6 : PySem.W.nsIn K mainGlobals "_law_tall" = some (some (.ref f6))) (l6 : K.lookup f6 = some ⟨oc6, od6, .func (PySem.W.fnOf "_law_tall" "_law_tall" (defArgs s_L_tall) (defBody s_L_tall) (defScope s_L_tall) .none kV6 dc6 pm6 an6 cd6 ct6), sl6⟩) (c6 : PySem.W.codeIn K cd6 "_law_tall" = true) (k6 : PySem.W.keepIn K (.ref f6) = true)
    (a7 : PySem.W.nsIn K mainGlobals "_law_depths" = some (some (.ref f7))) (l7 : K.lookup f7 = some ⟨oc7, od7, .func (PySem.W.fnOf "_law_depths" "_law_depths" (defArgs s_L_depths) (defBody s_L_depths) (defScope s_L_depths) .none kV7 dc7 pm7 an7 cd7 ct7), sl7⟩) (c7 : PySem.W.codeIn K cd7 "_law_depths" = true) (k7 : PySem.W.keepIn K (.ref f7) = true)
    (a8 : PySem.W.nsIn K mainGlobals "_law_is_way" = some (some (.ref f8))) (l8 : K.lookup f8 = some ⟨oc8, od8, .func (PySem.W.fnOf "_law_is_way" "_law_is_way" (defArgs s_L_is_way) (defBody s_L_is_way) (defScope s_L_is_way) .none kV8 dc8 pm8 an8 cd8 ct8), sl8⟩) (c8 : PySem.W.codeIn K cd8 "_law_is_way" = true) (k8 : PySem.W.keepIn K (.ref f8) = true)
    (a9 : PySem.W.nsIn K mainGlobals "law" = some (some (.ref f9))) (l9 : K.lookup f9 = some ⟨oc9, od9, .func (PySem.W.fnOf "law" "law" (defArgs s_law) (defBody s_law) (defScope s_law) .none kV9 dc9 pm9 an9 cd9 ct9), sl9⟩) (c9 : PySem.W.codeIn K cd9 "law" = true) (k9 : PySem.W.keepIn K (.ref f9) = true)
    (z0 : PySem.W.nsIn K mainGlobals "abs" = some none)
    (z1 : PySem.W.nsIn K mainGlobals "bool" = some none)
    (z2 : PySem.W.nsIn K mainGlobals "int" = some none)
    (z3 : PySem.W.nsIn K mainGlobals "isinstance" = some none)
    (z4 : PySem.W.nsIn K mainGlobals "len" = some none)
    (z5 : PySem.W.nsIn K mainGlobals "list" = some none)
    (z6 : PySem.W.nsIn K mainGlobals "max" = some none)
    (z7 : PySem.W.nsIn K mainGlobals "min" = some none)
    (z8 : PySem.W.nsIn K mainGlobals "range" = some none)
    {tc_way_down tp_way_down : Addr} {occ_way_down : Value} {odc_way_down : Option Addr} {vs_way_down : Array Value} {slc_way_down : Array (Option Value)} (ee_way_down : cd1 = .ref tc_way_down) (lc_way_down : K.lookup tc_way_down = some ⟨occ_way_down, odc_way_down, .fields vs_way_down, slc_way_down⟩) (vp_way_down : vs_way_down[11]? = some (.ref tp_way_down))
    (ndT : ([tp_way_down] : List Addr).Nodup)
    : ∃ A : Ad, A.a_law = fa ∧ (∀ (s : Shared) (v : Value), BindsTo s A.d_law ⟨[v], []⟩ [("_law_script", v)]) ∧ Tx w K mg A ∧ PySem.W.tabIn K "way_down" = some (A.tc_way_down, A.tp_way_down) ∧ ([A.tp_way_down] : List Addr).Nodup := by
  have e := hfa.symm.trans (PySem.W.mg_of X G a9)
  cases e
  have F0 := fun_mk (st := s_depths_of_knots) l0 c0 k0
  have F1 := fun_mk (st := s_way_down) l1 c1 k1
  have F2 := fun_mk (st := s_L_row) l2 c2 k2
  have F3 := fun_mk (st := s_L_size) l3 c3 k3
  have F4 := fun_mk (st := s_L_work) l4 c4 k4
  have F5 := fun_mk (st := s_L_long) l5 c5 k5
  have F6 := fun_mk (st := s_L_tall) l6 c6 k6
  have F7 := fun_mk (st := s_L_depths) l7 c7 k7
  have F8 := fun_mk (st := s_L_is_way) l8 c8 k8
  have F9 := fun_mk (st := s_law) l9 c9 k9
  subst ee_way_down
  have tb_way_down : PySem.W.tabIn K "way_down" = some (tc_way_down, tp_way_down) := by
    unfold PySem.W.tabIn
    rw [a1]
    dsimp only
    rw [l1]
    dsimp only
    rw [lc_way_down]
    dsimp only
    rw [vp_way_down]
  refine ⟨⟨f0, PySem.W.fnOf "depths_of_knots" "depths_of_knots" (defArgs s_depths_of_knots) (defBody s_depths_of_knots) (defScope s_depths_of_knots) .none kV0 dc0 pm0 an0 cd0 ct0, f1, PySem.W.fnOf "way_down" "way_down" (defArgs s_way_down) (defBody s_way_down) (defScope s_way_down) .none kV1 dc1 pm1 an1 (.ref tc_way_down) ct1, f2, PySem.W.fnOf "_law_row" "_law_row" (defArgs s_L_row) (defBody s_L_row) (defScope s_L_row) .none kV2 dc2 pm2 an2 cd2 ct2, f3, PySem.W.fnOf "_law_size" "_law_size" (defArgs s_L_size) (defBody s_L_size) (defScope s_L_size) .none kV3 dc3 pm3 an3 cd3 ct3, f4, PySem.W.fnOf "_law_work" "_law_work" (defArgs s_L_work) (defBody s_L_work) (defScope s_L_work) .none kV4 dc4 pm4 an4 cd4 ct4, f5, PySem.W.fnOf "_law_long" "_law_long" (defArgs s_L_long) (defBody s_L_long) (defScope s_L_long) .none kV5 dc5 pm5 an5 cd5 ct5, f6, PySem.W.fnOf "_law_tall" "_law_tall" (defArgs s_L_tall) (defBody s_L_tall) (defScope s_L_tall) .none kV6 dc6 pm6 an6 cd6 ct6, f7, PySem.W.fnOf "_law_depths" "_law_depths" (defArgs s_L_depths) (defBody s_L_depths) (defScope s_L_depths) .none kV7 dc7 pm7 an7 cd7 ct7, f8, PySem.W.fnOf "_law_is_way" "_law_is_way" (defArgs s_L_is_way) (defBody s_L_is_way) (defScope s_L_is_way) .none kV8 dc8 pm8 an8 cd8 ct8, fa, PySem.W.fnOf "law" "law" (defArgs s_law) (defBody s_law) (defScope s_law) .none kV9 dc9 pm9 an9 cd9 ct9, tc_way_down, tp_way_down⟩, rfl, fun s v => .of_eq rfl, ?_, tb_way_down, ndT⟩
  exact ⟨PySem.W.mg_none_of X G z0, PySem.W.mg_none_of X G z1, PySem.W.mg_none_of X G z2, PySem.W.mg_none_of X G z3, PySem.W.mg_none_of X G z4, PySem.W.mg_none_of X G z5, PySem.W.mg_none_of X G z6, PySem.W.mg_none_of X G z7, PySem.W.mg_none_of X G z8, F0, F0.binds fun _ _ _ _ _ _ us hl => of_len1 (fun _ => rfl) us hl, PySem.W.mg_of X G a0, F1, F1.binds fun _ _ _ _ _ _ us hl => of_len2 (fun _ _ => rfl) us hl, PySem.W.mg_of X G a1, F2, F2.binds fun _ _ _ _ _ _ us hl => of_len3 (fun _ _ _ => rfl) us hl, PySem.W.mg_of X G a2, F3, F3.binds fun _ _ _ _ _ _ us hl => of_len2 (fun _ _ => rfl) us hl, PySem.W.mg_of X G a3, F4, F4.binds fun _ _ _ _ _ _ us hl => of_len2 (fun _ _ => rfl) us hl, PySem.W.mg_of X G a4, F5, F5.binds fun _ _ _ _ _ _ us hl => of_len2 (fun _ _ => rfl) us hl, PySem.W.mg_of X G a5, F6, F6.binds fun _ _ _ _ _ _ us hl => of_len1 (fun _ => rfl) us hl, PySem.W.mg_of X G a6, F7, F7.binds fun _ _ _ _ _ _ us hl => of_len1 (fun _ => rfl) us hl, PySem.W.mg_of X G a7, F8, F8.binds fun _ _ _ _ _ _ us hl => of_len4 (fun _ _ _ _ => rfl) us hl, PySem.W.mg_of X G a8, F9, F9.binds fun _ _ _ _ _ _ us hl => of_len1 (fun _ => rfl) us hl, PySem.W.mg_of X G a9, rfl⟩
theorem walk {l : PySem.W.OpenLaw} {q : Program} {loose : List Str} {XP : (Str → Option Value) → Heap → Prop} {YP : World → Heap → Prop} {d : DefRec} {K : Params → PySem.W.Frag} (hn : l.most = some 63) (hdf : d.params.defaults = []) (hnm : d.name = "law")
    (hY : ∀ (w : World) (h : Heap), YP w h → (K w.params).In h) (hNo : ∀ w : World, PySem.W.noTabs (K w.params) = true) (hr_way_down : ∃ d, (PyProof.Rows.recsOf q).find? (fun e => e.name == ("way_down" : Str)) = some d)
    (F : ∀ (w : World) (mg : Str → Option Value) (fa : Addr) (h : Heap), (K w.params).In h → h.Ns mainGlobals mg → mg "law" = some (.ref fa) →
      ∃ A : Ad, A.a_law = fa ∧ (∀ (s : Shared) (v : Value), BindsTo s A.d_law ⟨[v], []⟩ [("_law_script", v)]) ∧ Tx w (K w.params) mg A ∧ PySem.W.tabIn (K w.params) "way_down" = some (A.tc_way_down, A.tp_way_down) ∧ ([A.tp_way_down] : List Addr).Nodup) :
    PySem.W.WalkO q loose XP YP l.row.toRowW d [] (fun f vs => PySem.call f vs) := by
  refine L2.walk_ofT (n := 63) (k := 3) (x := "_law_script") hn (by decide) hdf ⟨rfl, by decide, by decide⟩ hY (fun w mg mb ls mean fa h k1 k2 TT k3 => ?_)
  obtain ⟨A, rfl, hb, T, tb_way_down, nd⟩ := F w mg fa h k1 k2 (by rw [← hnm]; exact k3)
  refine ⟨A.d_law, [(A.tc_way_down, A.tp_way_down, lp_way_down, lq_way_down)], (sp_law (K w.params) A.tp_way_down), hb, fun t ht => ?_, nd, hNo w, fun base _ _ C => all_ok T (C (A.tc_way_down, A.tp_way_down, lp_way_down, lq_way_down) (by simp)), fun H a ns hl ht hS => ⟨a, ns, rfl, hS, hl, ht (A.tc_way_down, A.tp_way_down, lp_way_down, lq_way_down) (by simp), fun _ => rfl⟩⟩
  simp only [List.mem_cons, List.not_mem_nil, or_false] at ht
  rcases ht with rfl
  obtain ⟨_, z⟩ := hr_way_down
  exact PySem.W.tab_of TT k1 z tb_way_down
end K23
open PySem PySem.W PyProof.Rows
set_option maxRecDepth 100000 in
set_option maxHeartbeats 0 in
theorem PySem.Challenge.cw_lampforge_k23_ways_down_holds : PySem.Challenge.rw_lampforge_k23_ways_down.Holds := by
  w_on; o_law; k_head; (case hw => w_witness2)
  k_fill
  refine K23.walk (l := PySem.Challenge.rw_lampforge_k23_ways_down) rfl rfl rfl (fun w h Y => PySem.W.km_in_of Y) (fun w => by kernel_rfl) ⟨_, rfl⟩ ?F
  case F =>
    intro w mg fa h KX G hmg
    refine' K23.all_mk KX G hmg ?a0 ?l0 ?c0 ?k0 ?a1 ?l1 ?c1 ?k1 ?a2 ?l2 ?c2 ?k2 ?a3 ?l3 ?c3 ?k3 ?a4 ?l4 ?c4 ?k4 ?a5 ?l5 ?c5 ?k5 ?a6 ?l6 ?c6 ?k6 ?a7 ?l7 ?c7 ?k7 ?a8 ?l8 ?c8 ?k8 ?a9 ?l9 ?c9 ?k9 ?z0 ?z1 ?z2 ?z3 ?z4 ?z5 ?z6 ?z7 ?z8 ?ee_way_down ?lc_way_down ?vp_way_down ?ndT
    (case a0 => k_is)
    (case l0 => k_is)
    (case c0 => k_is)
    (case k0 => k_is)
    (case a1 => k_is)
    (case l1 => k_is)
    (case c1 => k_is)
    (case k1 => k_is)
    (case a2 => k_is)
    (case l2 => k_is)
    (case c2 => k_is)
    (case k2 => k_is)
    (case a3 => k_is)
    (case l3 => k_is)
    (case c3 => k_is)
    (case k3 => k_is)
    (case a4 => k_is)
    (case l4 => k_is)
    (case c4 => k_is)
    (case k4 => k_is)
    (case a5 => k_is)
    (case l5 => k_is)
    (case c5 => k_is)
    (case k5 => k_is)
    (case a6 => k_is)
    (case l6 => k_is)
    (case c6 => k_is)
    (case k6 => k_is)
    (case a7 => k_is)
    (case l7 => k_is)
    (case c7 => k_is)
    (case k7 => k_is)
    (case a8 => k_is)
    (case l8 => k_is)
    (case c8 => k_is)
    (case k8 => k_is)
    (case a9 => k_is)
    (case l9 => k_is)
    (case c9 => k_is)
    (case k9 => k_is)
    (case z0 => k_is)
    (case z1 => k_is)
    (case z2 => k_is)
    (case z3 => k_is)
    (case z4 => k_is)
    (case z5 => k_is)
    (case z6 => k_is)
    (case z7 => k_is)
    (case z8 => k_is)
    (case ee_way_down => exact rfl)
    (case lc_way_down => k_is)
    (case vp_way_down => exact rfl)
    (case ndT => decide)

