import PyProof.Rows.All
import Wide.All
import OpenK.AllK
import Wide.FinOn
import Lean
import PyProof.EqAt
import PyProof.EqKinds
import PyProof.TupleCall
import KE.BitLaws
import KE.KMinKey
import PySem.Challenge.RW_lampforge_k66_papers_written_and_read
set_option genSizeOfSpec false
noncomputable section
set_option Elab.async false
set_option linter.all false
set_option maxRecDepth 100000
/-! THE HAND LAYER, for ints, bools, texts, own classes, LISTS and tuples (index, slices, in, append, pop ..), calls, loops. Paste it whole ahead of your own text; what your proof does not reach may be deleted. -/
namespace L2
open PySem PySem.Spec PyProof.Rows

/-- a key: an int or a str -/
abbrev Key := Sum Int Str
def keyIs : Key → Value → Bool
  | .inl k, v => Value.isInt k v
  | .inr x, v => Value.isStrOf x v
def keyH (w : World) : Key → Int
  | .inl k => hashInt k
  | .inr x => hashStr w x
theorem keyIs_shape : ∀ {k : Key} {v : Value}, keyIs k v = true → (∃ i t, k = Sum.inl i ∧ v = Value.int i t) ∨ (∃ x t, k = Sum.inr x ∧ v = Value.str x t)
  | .inl i, v, h => by
    obtain ⟨t, e⟩ := Value.isInt_shape (k := i) (v := v) h
    exact .inl ⟨i, t, rfl, e⟩
  | .inr x, v, h => by
    obtain ⟨t, e⟩ := Value.isStrOf_shape (x := x) (v := v) h
    exact .inr ⟨x, t, rfl, e⟩
theorem key_ll (a b : Int) : decide ((Sum.inl a : Key) = Sum.inl b) = (a == b) := by
  by_cases e : a = b
  · subst e; simp
  · have h : ¬ (Sum.inl a : Key) = Sum.inl b := fun q => e (Sum.inl.inj q)
    rw [decide_eq_false h]
    exact (beq_eq_false_iff_ne.mpr e).symm
theorem key_rr (a b : Str) : decide ((Sum.inr a : Key) = Sum.inr b) = decide (a = b) := by
  by_cases e : a = b
  · subst e; simp
  · have h : ¬ (Sum.inr a : Key) = Sum.inr b := fun q => e (Sum.inr.inj q)
    rw [decide_eq_false h, decide_eq_false e]
theorem key_lr (a : Int) (b : Str) : decide ((Sum.inl a : Key) = Sum.inr b) = false := decide_eq_false (fun q => nomatch q)
theorem key_rl (a : Str) (b : Int) : decide ((Sum.inr a : Key) = Sum.inl b) = false := decide_eq_false (fun q => nomatch q)

def mixKind (prog : Program) (w : World) : PySem.KeyKind prog w Key where
  is := keyIs
  hash := keyH w
  inj := fun v a b ha hb => by
    rcases keyIs_shape ha with ⟨i, t, rfl, rfl⟩ | ⟨x, t, rfl, rfl⟩
    · rcases keyIs_shape hb with ⟨j, u, rfl, e⟩ | ⟨y, u, rfl, e⟩
      · injection e with e1 _; rw [e1]
      · exact nomatch e
    · rcases keyIs_shape hb with ⟨j, u, rfl, e⟩ | ⟨y, u, rfl, e⟩
      · exact nomatch e
      · injection e with e1 _; rw [e1]
  byValue := fun k v h => by
    rcases keyIs_shape h with ⟨i, t, rfl, rfl⟩ | ⟨x, t, rfl, rfl⟩ <;> rfl
  pyHash := fun hv h => by
    rcases keyIs_shape hv with ⟨i, t, rfl, rfl⟩ | ⟨x, t, rfl, rfl⟩
    · exact wpAny_pyHash_int h
    · exact wpAny_pyHash_str h
  eqBool := fun hu hv h => by
    rcases keyIs_shape hu with ⟨i, t, rfl, rfl⟩ | ⟨x, t, rfl, rfl⟩
    · rcases keyIs_shape hv with ⟨j, u, rfl, rfl⟩ | ⟨y, u, rfl, rfl⟩
      · rw [key_ll] at h; exact wpAny_eqBool_int h
      · rw [key_lr] at h; exact SeqAt.EqAt.int_str i t y u _ _ _ _ h
    · rcases keyIs_shape hv with ⟨j, u, rfl, rfl⟩ | ⟨y, u, rfl, rfl⟩
      · rw [key_rl] at h; exact SeqAt.EqAt.str_int x t j u _ _ _ _ h
      · rw [key_rr] at h; exact wpAny_eqBool_str h
  «strs» := fun k x t v h => by
    rcases keyIs_shape h with ⟨i, u, rfl, e⟩ | ⟨y, u, rfl, e⟩
    · exact nomatch e
    · injection e with e1 _
      subst e1
      cases v <;> rfl

end L2

namespace L2
open PySem PySem.Spec PyProof.Rows

/-- a value, without the heap -/
inductive V where
  | non | bl (b : Bool) | int (i : Int) | str (x : Str) | byt (b : Array UInt8) | flt (b : UInt64) | ref (a : Addr) | ty (n : String)
  deriving DecidableEq

def RelV : V → Value → Prop
  | .non, u => u = Value.none
  | .bl b, u => u = Value.bool b
  | .int i, u => ∃ t, u = Value.int i t
  | .str x, u => ∃ t, u = Value.str x t
  | .byt b, u => ∃ t, u = Value.bytes b t
  | .flt b, u => ∃ t, u = Value.float b t
  | .ref a, u => u = Value.ref a
  | .ty n, u => u = Value.type n

abbrev Vals : List V → List Value → Prop := Paired RelV
theorem Vals.length {xs : List V} {us : List Value} (r : Vals xs us) : xs.length = us.length := Paired.length r
theorem Vals.get : ∀ {xs : List V} {us : List Value} {i : Nat} {x : V}, Vals xs us → xs[i]? = some x → ∃ u, us[i]? = some u ∧ RelV x u
  | _, _, _, _, .nil, e => by simp at e
  | _, _, 0, _, .cons r _, e => by simp at e; subst e; exact ⟨_, rfl, r⟩
  | _, _, i + 1, x, .cons _ t, e => by
    obtain ⟨u, h1, h2⟩ := Vals.get (i := i) (x := x) t (by simpa using e)
    exact ⟨u, by simpa using h1, h2⟩
theorem Vals.set {x : V} {u : Value} (r : RelV x u) : ∀ {xs : List V} {us : List Value} (i : Nat), Vals xs us → Vals (xs.set i x) (us.set i u)
  | _, _, _, .nil => .nil
  | _, _, 0, .cons _ t => .cons r t
  | _, _, i + 1, .cons q t => .cons q (Vals.set r i t)
theorem Vals.append : ∀ {xs ys : List V} {us ws : List Value}, Vals xs us → Vals ys ws → Vals (xs ++ ys) (us ++ ws)
  | _, _, _, _, .nil, s => s
  | _, _, _, _, .cons r t, s => .cons r (Vals.append t s)
theorem Vals.take : ∀ {xs : List V} {us : List Value} (n : Nat), Vals xs us → Vals (xs.take n) (us.take n)
  | _, _, 0, _ => .nil
  | _, _, _ + 1, .nil => .nil
  | _, _, n + 1, .cons r t => .cons r (Vals.take n t)
theorem Vals.drop : ∀ {xs : List V} {us : List Value} (n : Nat), Vals xs us → Vals (xs.drop n) (us.drop n)
  | _, _, 0, r => r
  | _, _, _ + 1, .nil => .nil
  | _, _, n + 1, .cons _ t => Vals.drop n t
def RelO : Option V → Option Value → Prop
  | some v, some u => RelV v u
  | none, none => True
  | _, _ => False
def KV {κ : Type} : List (κ × V) → List (κ × Value) → Prop := Paired fun (p : κ × V) (q : κ × Value) => p.1 = q.1 ∧ RelV p.2 q.2

/-- a key of a dict (00_mix): an int or a text -/
def kV : Key → V
  | .inl i => .int i
  | .inr x => .str x

/-- what stands at a tracked address -/
inductive HO where
  /-- a list -/
  | lst (xs : List V)
  /-- a tuple (never changes) -/
  | tup (xs : List V)
  /-- a dict whose keys are ints and texts; one whose keys are tuples of ints and texts (the empty one is both) -/
  | dK (kvs : List (Key × V)) | dT (kvs : List (List Key × V))
  /-- a set of ints: its members, its size -/
  | set (S : Int → Bool) (n : Nat)
  /-- an instance of the class at C, its dict at dx, its attributes -/
  | ins (C dx : Addr) (fs : List (Str × V))
  /-- the dict of the instance at x -/
  | own (x : Addr)
  /-- the dict of an exception -/
  | xd (fs : List (Str × V))
  /-- a bound method, f of x -/
  | met (f x : Addr)
  /-- a range object lo, lo + 1, .. below hi -/
  | rng (lo hi : Int)
  /-- a thing that is known to the object (the script; a dict while a loop walks it): read, never written while it is so -/
  | frz (o : Obj) (u : HO)
  /-- a code object's table -/
  | tbl (pos : Pos) (qual : Str)
  /-- any other thing, by what is true of its one object (a def of one's own: SetO a S n := HO.ext fun h => ..) -/
  | ext (φ : Heap → Prop)

abbrev Hp := Addr → Option HO
def upd (H : Hp) (a : Addr) (o : HO) : Hp := fun b => if b = a then some o else H b
theorem upd_same {H : Hp} {a : Addr} {o : HO} : upd H a o a = some o := by unfold upd; rw [if_pos rfl]
theorem upd_ne {H : Hp} {a b : Addr} {o : HO} (h : b ≠ a) : upd H a o b = H b := by unfold upd; rw [if_neg h]
theorem ne_of_none {H : Hp} {a b : Addr} {o : HO} (h : H a = some o) (h' : H b = none) : a ≠ b := by
  intro e; subst e; rw [h] at h'; cases h'

section
variable (P : Program) (w : World)
def ObjOk (H : Hp) (h : Heap) (a : Addr) : HO → Prop
  | .lst xs => xs.length ≤ sizeLine ∧ ∃ (its : List Value) (n : Nat), Vals xs its ∧ h.get? a = some { cls := .type "list", data := .seq its.toArray n }
  | .tup xs => xs.length ≤ sizeLine ∧ ∃ its : List Value, Vals xs its ∧ IsTup h a its.toArray
  | .dK kvs => kvs.length ≤ sizeLine ∧ (a == sysModules) = false ∧ ∃ vs, KV kvs vs ∧ h.DictOf (mixKind P w) a vs
  | .dT kvs => kvs.length ≤ sizeLine ∧ (a == sysModules) = false ∧ ∃ xs : List (List Key × Addr × Value),
      Paired (fun (p : List Key × V) (q : List Key × Addr × Value) => p.1 = q.1 ∧ H q.2.1 = some (.tup (p.1.map kV)) ∧ RelV p.2 q.2.2) kvs xs ∧
      ∃ o es ep, h.get? a = some o ∧ o.ExactDict ∧ o.data = .dict es ep ∧ es.toList = xs.map (entryOfKey (tupleKind (mixKind P w))) ∧ (xs.map (·.1)).Nodup
  | .set S n => h.SetOf (intKind P w) a S n
  | .ins C dx fs => H dx = some (.own a) ∧ fs.length ≤ 1000 ∧ dx ≠ a ∧ h.get? a = some (PySem.W.instObj C dx) ∧
      ∃ mA, h.Ns1 dx mA ∧ (∀ f, RelO (fs.lookup f) (mA f)) ∧ PySem.Within mA (fs.map (·.1))
  | .own _ => ∃ o, h.get? a = some o
  | .xd fs => ∃ mA, h.Ns1 a mA ∧ ∀ f, RelO (fs.lookup f) (mA f)
  | .rng lo hi => ∃ t u v, h.get? a = some { cls := .type "range", data := .fields #[.int lo t, .int hi u, .int 1 v] }
  | .frz o u => h.get? a = some o ∧ ObjOk H h a u
  | .tbl pos qual => ∃ ps : Array Value, h.get? a = some { cls := .none, data := .fields ps } ∧ TriplesOk ps.toList ∧ (codeAmong pos ps.toList = none ∨ ∃ c oc vs tq, codeAmong pos ps.toList = some (.ref c) ∧ H c = some (.frz oc (.own a)) ∧ oc.data = .fields vs ∧ vs[1]? = some (.str qual tq))
  | .met f x => h.get? a = some (PySem.W.methodObj (.ref f) (.ref x))
  | .ext φ => φ h ∧ (∃ o, h.get? a = some o) ∧ ∀ h1 h2 : Heap, φ h1 → (∀ o, h1.get? a = some o → h2.get? a = some o) → φ h2
/-- the abstract heap is held -/
def HOk (H : Hp) (h : Heap) : Prop := ∀ a o, H a = some o → ObjOk P w H h a o
end

section
variable {P : Program} {w : World} {H H' : Hp} {h h' : Heap} {a : Addr} {o : HO}
theorem ObjOk.lt (x : ObjOk P w H h a o) : a < h.objs.size := by
  cases o with
  | lst xs => obtain ⟨_, _, _, _, e⟩ := x; exact Heap.lt_size e
  | tup xs => obtain ⟨_, _, _, p⟩ := x; exact p.lt
  | dK kvs => obtain ⟨_, _, _, _, o, _, _, e, _⟩ := x; exact Heap.lt_size e
  | dT kvs => obtain ⟨_, _, _, _, o, _, _, e, _⟩ := x; exact Heap.lt_size e
  | set S n => obtain ⟨o, _, _, _, e, _⟩ := x; exact Heap.lt_size e
  | ins C dx fs => obtain ⟨_, _, _, e, _⟩ := x; exact Heap.lt_size e
  | own y => obtain ⟨_, e⟩ := x; exact Heap.lt_size e
  | xd fs => obtain ⟨_, ⟨_, _, _, e, _⟩, _⟩ := x; exact Heap.lt_size e
  | rng lo hi => obtain ⟨_, _, _, e⟩ := x; exact Heap.lt_size e
  | frz ob u => obtain ⟨e, _⟩ := x; exact Heap.lt_size e
  | tbl pos qual => obtain ⟨_, e, _⟩ := x; exact Heap.lt_size e
  | met f y => exact Heap.lt_size (show h.get? a = some _ from x)
  | ext φ => obtain ⟨_, ⟨_, e⟩, _⟩ := x; exact Heap.lt_size e
theorem Paired.mapP {α β : Type} {F G : α → β → Prop} : ∀ {l₁ : List α} {l₂ : List β}, Paired F l₁ l₂ → (∀ a b, F a b → G a b) → Paired G l₁ l₂
  | _, _, .nil, _ => .nil
  | _, _, .cons r t, f => .cons (f _ _ r) (Paired.mapP t f)
/-- what an object's description leans on: its own object, its own dict, the tuples -/
theorem ObjOk.stay (x : ObjOk P w H h a o) (k : ∀ b u, (b = a ∨ H b = some (.own a)) → h.get? b = some u → h'.get? b = some u)
    (ho : ∀ b, H b = some (.own a) → H' b = some (.own a)) (ht : ∀ b xs, H b = some (.tup xs) → H' b = some (.tup xs)) (hz : ∀ b o u, H b = some (.frz o u) → H' b = some (.frz o u)) : ObjOk P w H' h' a o := by
  induction o with
  | lst xs => obtain ⟨z, its, n, r, e⟩ := x; exact ⟨z, its, n, r, k _ _ (.inl rfl) e⟩
  | tup xs => obtain ⟨z, its, r, ob, e, c⟩ := x; exact ⟨z, its, r, ob, k _ _ (.inl rfl) e, c⟩
  | dK kvs => obtain ⟨z, y, vs, r, ob, es, ep, e, c⟩ := x; exact ⟨z, y, vs, r, ob, es, ep, k _ _ (.inl rfl) e, c⟩
  | dT kvs =>
    obtain ⟨z, y, xs, r, ob, es, ep, e, c⟩ := x
    exact ⟨z, y, xs, Paired.mapP r fun p q z => ⟨z.1, ht _ _ z.2.1, z.2.2⟩, ob, es, ep, k _ _ (.inl rfl) e, c⟩
  | set S n => obtain ⟨ob, es, ep, t, e, c⟩ := x; exact ⟨ob, es, ep, t, k _ _ (.inl rfl) e, c⟩
  | ins C dx fs =>
    obtain ⟨d, z, ne, e, mA, ⟨od, es, ep, e2, c⟩, r⟩ := x
    exact ⟨ho _ d, z, ne, k _ _ (.inl rfl) e, mA, ⟨od, es, ep, k _ _ (.inr d) e2, c⟩, r⟩
  | own y => obtain ⟨ob, e⟩ := x; exact ⟨ob, k _ _ (.inl rfl) e⟩
  | xd fs => obtain ⟨mA, ⟨od, es, ep, e, c⟩, r⟩ := x; exact ⟨mA, ⟨od, es, ep, k _ _ (.inl rfl) e, c⟩, r⟩
  | rng lo hi => obtain ⟨t, u, v, e⟩ := x; exact ⟨t, u, v, k _ _ (.inl rfl) e⟩
  | frz ob u ih => obtain ⟨e, q⟩ := x; exact ⟨k _ _ (.inl rfl) e, ih q⟩
  | tbl pos qual =>
    obtain ⟨ps, e, t, c⟩ := x
    refine ⟨ps, k a _ (.inl rfl) e, t, ?_⟩
    rcases c with c | ⟨c, oc, vs, tq, c1, c2, c3⟩
    · exact .inl c
    · exact .inr ⟨c, oc, vs, tq, c1, hz _ _ _ c2, c3⟩
  | met f y =>
    have e : h.get? a = some (PySem.W.methodObj (.ref f) (.ref y)) := x
    show h'.get? a = some (PySem.W.methodObj (.ref f) (.ref y))
    exact k a _ (.inl rfl) e
  | ext φ => obtain ⟨p, ⟨o, e⟩, st⟩ := x; exact ⟨st _ _ p fun o q => k _ _ (.inl rfl) q, ⟨o, k _ _ (.inl rfl) e⟩, st⟩
theorem HOk.lt (x : HOk P w H h) (e : H a = some o) : a < h.objs.size := (x a o e).lt
theorem HOk.fresh (x : HOk P w H h) (e : h.objs.size ≤ a) : H a = none := by
  cases q : H a with
  | none => rfl
  | some u => exact absurd (Nat.lt_of_lt_of_le (x.lt q) e) (Nat.lt_irrefl _)
/-- every object of the heap is kept -/
theorem HOk.kept (x : HOk P w H h) (k : ∀ b u, h.get? b = some u → h'.get? b = some u) : HOk P w H h' := fun a o e =>
  (x a o e).stay (fun b u _ q => k b u q) (fun _ q => q) (fun _ _ q => q) fun _ _ _ q => q
/-- a new object is laid and tracked -/
theorem HOk.laid (x : HOk P w H h) (k : ∀ b u, h.get? b = some u → h'.get? b = some u) (hp : h.objs.size ≤ a) (new : ObjOk P w (upd H a o) h' a o) : HOk P w (upd H a o) h' := fun b u e => by
  have hn := x.fresh hp
  by_cases hb : b = a
  · subst hb; rw [upd_same] at e; cases e; exact new
  · rw [upd_ne hb] at e
    exact (x b u e).stay (fun c v _ q => k c v q) (fun c q => by rw [upd_ne (ne_of_none q hn)]; exact q) (fun c xs q => by rw [upd_ne (ne_of_none q hn)]; exact q) fun c ob xs q => by rw [upd_ne (ne_of_none q hn)]; exact q
end

/-- what may be read as u: it is u, or a known u -/
def Rd (H : Hp) (a : Addr) (u : HO) : Prop := H a = some u ∨ ∃ o, H a = some (.frz o u)
theorem Rd.ok {P : Program} {w : World} {H : Hp} {h : Heap} {a : Addr} {u : HO} (r : Rd H a u) (x : HOk P w H h) : ObjOk P w H h a u := by
  rcases r with r | ⟨o, r⟩
  · exact x a u r
  · obtain ⟨_, q⟩ := x a _ r
    exact q
/-- what may be written -/
def Mut : Option HO → Prop
  | some (.lst _) => True
  | some (.dK _) => True
  | some (.dT _) => True
  | some (.set _ _) => True
  | some (.ins _ _ _) => True
  | some (.ext _) => True
  | _ => False
section
variable {P : Program} {w : World} {H : Hp} {h h' : Heap} {x e : Addr} {o' : HO}
/-- the object at e is changed: x itself, or the dict of the instance x -/
theorem HOk.write (ok : HOk P w H h) (mu : Mut (H x)) (he : e = x ∨ H e = some (.own x)) (k : ∀ b u, b ≠ e → h.get? b = some u → h'.get? b = some u) (heo : ∃ u, h'.get? e = some u)
    (new : ObjOk P w (upd H x o') h' x o') : HOk P w (upd H x o') h' := fun b u q => by
  have nown : ∀ c y, H c = some (.own y) → c ≠ x := fun c y r z => by subst z; rw [r] at mu; exact mu
  have ntup : ∀ c xs, H c = some (.tup xs) → c ≠ x := fun c xs r z => by subst z; rw [r] at mu; exact mu
  by_cases hb : b = x
  · subst hb; rw [upd_same] at q; cases q; exact new
  · rw [upd_ne hb] at q
    by_cases hbe : b = e
    · have q' : H b = some (.own x) := by
        rcases he with z | z
        · exact absurd (hbe.trans z) hb
        · rw [hbe]; exact z
      rw [q] at q'; cases q'
      obtain ⟨v, hv⟩ := heo
      exact ⟨v, by rw [hbe]; exact hv⟩
    · refine (ok b u q).stay (fun c v hc r => k c v ?_ r) (fun c r => by rw [upd_ne (nown c b r)]; exact r) (fun c xs r => by rw [upd_ne (ntup c xs r)]; exact r) fun c ob xs r => by rw [upd_ne (fun z => by subst z; rw [r] at mu; exact mu)]; exact r
      rcases hc with rfl | hc
      · exact hbe
      · rintro rfl
        rcases he with z | z
        · exact nown c b hc z
        · rw [hc] at z; cases z; exact hb rfl
end

/-! ### kept unless tracked; of the frames at fs (the callers') the slots may change (an exception that passes writes there); of the records at ex (iterators) nothing is said -/
structure Un (fs ex : List Addr) (H H' : Hp) (h h' : Heap) : Prop where
  keep : ∀ b o, h.get? b = some o → H b = none → b ∉ fs → b ∉ ex → h'.get? b = some o
  slot : ∀ b o, h.get? b = some o → H b = none → b ∈ fs → b ∉ ex → ∃ sl, h'.get? b = some { o with slots := sl }
  free : ∀ b o, h.get? b = some o → H b = none → b ∉ ex → H' b = none
  there : ∀ b o, h.get? b = some o → b ∉ ex → ∃ o', h'.get? b = some o'
  tups : ∀ b xs, H b = some (.tup xs) → H' b = some (.tup xs)
  frzs : ∀ b o u, H b = some (.frz o u) → H' b = some (.frz o u)
  tbls : ∀ b p q, H b = some (.tbl p q) → H' b = some (.tbl p q)
section
variable {fs fs' ex ex' : List Addr} {H H1 H2 : Hp} {h h1 h2 h' : Heap} {a x e : Addr} {o : HO}
theorem Un.any (u : Un fs ex H H1 h h1) {b : Addr} {ob : Obj} (q : h.get? b = some ob) (n : H b = none) (hx : b ∉ ex) : ∃ sl, h1.get? b = some { ob with slots := sl } := by
  by_cases hb : b ∈ fs
  · exact u.slot b ob q n hb hx
  · exact ⟨ob.slots, u.keep b ob q n hb hx⟩
theorem Un.kept (k : ∀ b u, h.get? b = some u → h'.get? b = some u) : Un fs ex H H h h' :=
  ⟨fun b ob q _ _ _ => k b ob q, fun b ob q _ _ _ => ⟨ob.slots, k b ob q⟩, fun _ _ _ n _ => n, fun b ob q _ => ⟨ob, k b ob q⟩, fun _ _ q => q, fun _ _ _ q => q, fun _ _ _ q => q⟩
theorem Un.refl : Un fs ex H H h h := Un.kept fun _ _ q => q
theorem Un.laid (k : ∀ b u, h.get? b = some u → h'.get? b = some u) (hp : h.objs.size ≤ a) (hn : H a = none) : Un fs ex H (upd H a o) h h' where
  keep := fun b u q _ _ _ => k b u q
  slot := fun b u q _ _ _ => ⟨u.slots, k b u q⟩
  free := fun b u q n _ => by rw [upd_ne (Nat.ne_of_lt (Nat.lt_of_lt_of_le (Heap.lt_size q) hp))]; exact n
  there := fun b u q _ => ⟨u, k b u q⟩
  tups := fun b xs q => by rw [upd_ne (ne_of_none q hn)]; exact q
  frzs := fun b u xs q => by rw [upd_ne (ne_of_none q hn)]; exact q
  tbls := fun b p q z => by rw [upd_ne (ne_of_none z hn)]; exact z
theorem Un.write (mu : Mut (H x)) (he : e = x ∨ H e = some (.own x)) (k : ∀ b u, b ≠ e → h.get? b = some u → h'.get? b = some u) (heo : ∃ u, h'.get? e = some u) : Un fs ex H (upd H x o) h h' := by
  have hx : ∀ b, H b = none → b ≠ x := fun b n z => by subst z; rw [n] at mu; exact mu
  have hb : ∀ b, H b = none → b ≠ e := fun b n z => by
    subst z
    rcases he with r | r
    · exact hx b n r
    · rw [n] at r; cases r
  have hm : ∀ b u, H b = some u → ¬ Mut (some u) → b ≠ x := fun b u q nm z => by subst z; rw [q] at mu; exact nm mu
  refine ⟨fun b u q n _ _ => k b u (hb b n) q, fun b u q n _ _ => ⟨u.slots, k b u (hb b n) q⟩, fun b u q n _ => by rw [upd_ne (hx b n)]; exact n, fun b u q _ => ?_,
    fun b xs q => by rw [upd_ne (hm b _ q fun z => z)]; exact q, fun b u xs q => by rw [upd_ne (hm b _ q fun z => z)]; exact q, fun b p q z => by rw [upd_ne (hm b _ z fun y => y)]; exact z⟩
  by_cases hbe : b = e
  · subst hbe; exact heo
  · exact ⟨u, k b u hbe q⟩
end

/-! ### the heap without what is tracked -/
def trk (h : Heap) (H : Hp) : List Addr := (List.range h.objs.size).filter fun a => (H a).isSome
def hidT (h : Heap) (H : Hp) : Heap := PySem.W.hideAll h (trk h H)
theorem hidT_size (h : Heap) (H : Hp) : (hidT h H).objs.size = h.objs.size := PySem.W.hideAll_size _ _
theorem hidT_get {h : Heap} {H : Hp} {b : Addr} {o : Obj} (e : h.get? b = some o) (n : H b = none) : (hidT h H).get? b = some o :=
  PySem.W.hideAll_get _ e fun hm => by
    have q : (H b).isSome = true := (List.mem_filter.mp hm).2
    rw [n] at q; simp at q
theorem of_hidT {h : Heap} {H : Hp} {b : Addr} {o : Obj} (e : (hidT h H).get? b = some o) : h.get? b = some o ∧ H b = none := by
  have e' : h.get? b = some o := PySem.W.of_hideAll (trk h H) e
  refine ⟨e', ?_⟩
  cases q : H b with
  | none => rfl
  | some x =>
    have hm : b ∈ trk h H := List.mem_filter.mpr ⟨List.mem_range.mpr (Heap.lt_size e'), by simp [q]⟩
    have z : (hidT h H).get? b = none := PySem.W.hideAll_none (trk h H) hm
    rw [z] at e; cases e

/-! ### OpenK's ledger, filled with every new object but one -/
def allNews (g h : Heap) (L : Addr) : List (Addr × Obj) := (List.range h.objs.size).filterMap fun a => if a = L ∨ (g.get? a).isSome = true then none else (h.get? a).map fun o => (a, o)
def rest (g h : Heap) (L d : Addr) : List (Addr × Obj) := (allNews g h L).filter fun p => decide (p.1 ≠ d)
end L2

namespace L2
open PySem PySem.Spec PyProof.Rows

/-- the module's facts, over the base: the heap at the law's entry without what is tracked there -/
structure Mod (K : PySem.W.Frag) (mg : Str → Option Value) (base : Heap) : Prop where
  kin : K.In base
  glob : base.Ns mainGlobals mg
  blt : ∃ mb, base.Ns builtinsNs mb ∧ ∀ x : Str, x ≠ "__name__" → mb x = bootBuiltins x
  nolimit : base.NoLimit

/-- the context: a def's body (or a comprehension's block) running. base: fixed through the whole law; s₀, H₀: the entry; outer: the frames whose slots others may change (a def's callers); stack: all frames that run;
   ex: iterators that were made ahead of the entry and are walked here (a comprehension's); fn: the names whose cells were made at the entry (a def: all; a comprehension's block: its own); calm: not within an except suite; pn: pins that every state bears; xe: what is wanted of an exception that leaves the code -/
structure Cx where
  prog : Program
  w : World
  K : PySem.W.Frag
  mg : Str → Option Value
  base : Heap
  A : Around
  N : List Str
  s₀ : Shared
  H₀ : Hp
  env : Env
  outer : List Env
  stack : List Env
  ex : List Addr
  fn : Str → Bool
  calm : Bool
  pn : List (Addr × Obj)
  xe : Value → Shared → Prop
/-- the callers' frames -/
def frs (l : List Env) : List Addr := l.filterMap (·.frame)
abbrev Cx.fs (X : Cx) : List Addr := frs X.outer

def Vis (sc : Scope) (x : Str) : Prop := sc.names.lookup x = some .local ∨ sc.names.lookup x = some .cell ∨ sc.names.lookup x = some .free
def Loc (sc : Scope) (x : Str) : Prop := sc.names.lookup x = some .local ∨ sc.names.lookup x = some .cell
def Look (env : Env) (h : Heap) (m : Str → Option Value) (x : Str) (u : Value) : Prop :=
  (env.kindOf x = some .local ∧ m x = some u) ∨ ((env.kindOf x = some .cell ∨ env.kindOf x = some .free) ∧ ∃ c, env.cells.lookup x = some c ∧ h.IsCell c (some u))

structure Cx.Ok (X : Cx) : Prop where
  mod : Mod X.K X.mg X.base
  kind : X.env.scope.kind = .function
  glob : X.env.globals = mainGlobals
  blt : X.env.builtins = builtinsNs
  above : X.s₀.heap.objs.size ≤ X.env.locals
  inj : ∀ x y c, X.env.cells.lookup x = some c → X.env.cells.lookup y = some c → x = y
  has : ∀ x, (X.env.kindOf x = some .cell ∨ X.env.kindOf x = some .free) → ∃ c, X.env.cells.lookup x = some c
  cab : ∀ x c, X.fn x = true → X.env.cells.lookup x = some c → X.s₀.heap.objs.size ≤ c
  hd : X.calm = true → X.A.handled = none
  frames : X.A.frames = some X.stack
  gd : X.A.guards = some []
  stk : X.stack = X.outer ∨ (X.stack = X.env :: X.outer ∧ X.env.frame = some X.env.locals)
  exf : ∀ b ∈ X.ex, b ≠ X.env.locals ∧ ∀ x c, X.env.cells.lookup x = some c → c ≠ b
  bs : ∀ b o, X.base.get? b = some o → X.s₀.heap.get? b = some o ∧ X.H₀ b = none
  bsz : X.base.objs.size ≤ X.s₀.heap.objs.size
  noex : ∀ b o, X.base.get? b = some o → b ∉ X.ex
  exfs : ∀ b ∈ X.ex, b ∉ X.fs
  funs : X.s₀.heap.FunFrames X.base X.outer
  frf : ∀ b ∈ X.fs, X.H₀ b = none

structure Inv (X : Cx) (pins : List (Addr × Obj)) (σ : List (Option V)) (H : Hp) (s : Shared) : Prop where
  ok : X.Ok
  os : s.os = X.s₀.os
  bare : AllBare s.gens
  base : Un X.fs X.ex X.H₀ H X.s₀.heap s.heap
  loc : ∃ m, s.heap.Ns X.env.locals m ∧ ∀ (i : Nat) (x : Str) (v : V), X.N[i]? = some x → σ[i]? = some (some v) → Vis X.env.scope x → ∃ u, RelV v u ∧ Look X.env s.heap m x u
  cell : ∀ x c, X.env.cells.lookup x = some c → ∃ v, s.heap.IsCell c v
  free : H X.env.locals = none
  freeC : ∀ x c, X.env.cells.lookup x = some c → H c = none
  pin : ∀ p ∈ X.pn ++ pins, s.heap.get? p.1 = some p.2 ∧ H p.1 = none ∧ p.1 ≠ X.env.locals ∧ p.1 ∉ X.fs ∧ ∀ v, p.2.data ≠ .cell v
  hok : HOk X.prog X.w H s.heap
  len : σ.length = X.N.length

section
variable {X : Cx} {pins : List (Addr × Obj)} {σ : List (Option V)} {H H' : Hp} {s : Shared} {h' : Heap}

theorem Cx.Ok.nofr (ok : X.Ok) {b : Addr} {o : Obj} (e : X.base.get? b = some o) : b ∉ X.fs := fun hb => by
  have := (ok.funs.mem hb).1
  rw [e] at this; cases this
theorem Inv.bs (I : Inv X pins σ H s) : ∀ b o, X.base.get? b = some o → s.heap.get? b = some o ∧ H b = none := fun b o e =>
  ⟨I.base.keep b o (I.ok.bs b o e).1 (I.ok.bs b o e).2 (I.ok.nofr e) (I.ok.noex b o e), I.base.free b o (I.ok.bs b o e).1 (I.ok.bs b o e).2 (I.ok.noex b o e)⟩
theorem Inv.bk (I : Inv X pins σ H s) : ∀ b o, X.base.get? b = some o → s.heap.get? b = some o := fun b o e => (I.bs b o e).1
theorem Inv.mod (I : Inv X pins σ H s) : Mod X.K X.mg X.base := I.ok.mod
theorem Inv.kIn (I : Inv X pins σ H s) : X.K.In s.heap := I.ok.mod.kin.keeps I.bk
theorem Inv.lt (I : Inv X pins σ H s) : X.env.locals < s.heap.objs.size := let ⟨_, hn, _⟩ := I.loc; hn.lt
theorem Inv.sz (I : Inv X pins σ H s) : X.s₀.heap.objs.size ≤ s.heap.objs.size := Nat.le_trans I.ok.above (Nat.le_of_lt I.lt)
theorem Inv.nofs (I : Inv X pins σ H s) {a : Addr} (h : s.heap.objs.size ≤ a) : a ∉ X.fs := fun hb => by
  obtain ⟨_, o, ho, _⟩ := I.ok.funs.mem hb
  exact absurd (Nat.lt_of_lt_of_le (Heap.lt_size ho) (Nat.le_trans I.sz h)) (Nat.lt_irrefl _)
theorem Inv.cne (I : Inv X pins σ H s) : ∀ x c, X.env.cells.lookup x = some c → c ≠ X.env.locals := fun x c e z => by
  obtain ⟨v, o, ho, hd⟩ := I.cell x c e
  obtain ⟨m, ⟨o', es, ep, ho', hd', _⟩, _⟩ := I.loc
  rw [z, ho'] at ho; cases ho; rw [hd'] at hd; cases hd
theorem Inv.funs (I : Inv X pins σ H s) : s.heap.FunFrames X.base X.outer := by
  have all : ∀ (l : List Env), (∀ b ∈ frs l, b ∈ X.fs) → X.s₀.heap.FunFrames X.base l → s.heap.FunFrames X.base l := by
    intro l
    induction l with
    | nil => intro _ _; trivial
    | cons env r ih =>
      intro hs hl
      obtain ⟨hk, ⟨L, o, hf, hn, ho, hd⟩, hr⟩ := hl
      have hL : L ∈ X.fs := hs L (by unfold frs; rw [List.filterMap_cons, hf]; exact List.mem_cons_self)
      obtain ⟨sl, e⟩ := I.base.slot L o ho (I.ok.frf L hL) hL fun z => I.ok.exfs L z hL
      exact ⟨hk, ⟨L, _, hf, hn, e, hd⟩, ih (fun b hb => hs b (by unfold frs; rw [List.filterMap_cons, hf]; exact List.mem_cons_of_mem _ hb)) hr⟩
  exact all X.outer (fun _ hb => hb) I.ok.funs

/-- the frames that run, for a call -/
theorem Inv.stack (I : Inv X pins σ H s) : s.heap.FunFrames X.base X.stack := by
  rcases I.ok.stk with e | ⟨e, hf⟩
  · rw [e]; exact I.funs
  · rw [e]
    obtain ⟨m, hn, _⟩ := I.loc
    refine .cons (by rw [I.ok.kind]; decide) hf hn ?_ I.funs
    exact Heap.get?_none_of_le (Nat.le_trans I.ok.bsz I.ok.above)
theorem Inv.stkSub (I : Inv X pins σ H s) : ∀ b ∈ frs X.stack, b ∈ X.env.locals :: X.fs := fun b hb => by
  rcases I.ok.stk with e | ⟨e, hf⟩
  · rw [e] at hb; exact List.mem_cons_of_mem _ hb
  · rw [e] at hb
    unfold frs at hb
    rw [List.filterMap_cons, hf] at hb
    exact hb
theorem Inv.stkFree (I : Inv X pins σ H s) : ∀ b ∈ frs X.stack, H b = none := fun b hb => by
  rcases List.mem_cons.mp (I.stkSub b hb) with e | hb
  · rw [e]; exact I.free
  · obtain ⟨_, o, ho, _⟩ := I.ok.funs.mem hb
    exact I.base.free b o ho (I.ok.frf b hb) fun z => I.ok.exfs b z hb

/-- THE STEP: the untracked objects but the frame and the records at ch are kept (the callers' frames up to slots), the frame's map is kept, the new abstract heap is held -/
theorem Inv.step {g' : Array GenState} {t' : Nat} {d' : Drawn} {ch : List Addr} (I : Inv X pins σ H s)
    (hch : ∀ b ∈ ch, (b ∈ X.ex ∨ X.s₀.heap.objs.size ≤ b) ∧ b ≠ X.env.locals ∧ (∀ x c, X.env.cells.lookup x = some c → c ≠ b) ∧ ∀ p ∈ X.pn ++ pins, p.1 ≠ b)
    (keep : ∀ b o, b ≠ X.env.locals → b ∉ X.fs → b ∉ ch → s.heap.get? b = some o → H b = none → h'.get? b = some o)
    (slot : ∀ b o, b ≠ X.env.locals → b ∈ X.fs → b ∉ ch → s.heap.get? b = some o → H b = none → ∃ sl, h'.get? b = some { o with slots := sl }) (free : ∀ b o, b ∉ ch → s.heap.get? b = some o → H b = none → H' b = none)
    (there : ∀ b o, b ∉ ch → s.heap.get? b = some o → ∃ o', h'.get? b = some o')
    (tups : ∀ b xs, H b = some (.tup xs) → H' b = some (.tup xs)) (frzs : ∀ b o u, H b = some (.frz o u) → H' b = some (.frz o u)) (tbls : ∀ b p q, H b = some (.tbl p q) → H' b = some (.tbl p q))
    (ns : ∀ m, s.heap.Ns X.env.locals m → h'.Ns X.env.locals m) (hok : HOk X.prog X.w H' h') (hg : AllBare g') :
    Inv X pins σ H' { s with heap := h', gens := g', drawn := d', toks := t' } := by
  have neL : ∀ b o, X.s₀.heap.get? b = some o → b ≠ X.env.locals := fun b o e => Nat.ne_of_lt (Nat.lt_of_lt_of_le (Heap.lt_size e) I.ok.above)
  have neC : ∀ b o, X.s₀.heap.get? b = some o → b ∉ X.ex → b ∉ ch := fun b o e hx hb => by
    rcases (hch b hb).1 with z | z
    · exact hx z
    · exact absurd (Nat.lt_of_lt_of_le (Heap.lt_size e) z) (Nat.lt_irrefl _)
  have cellK : ∀ x c, X.env.cells.lookup x = some c → ∀ v, s.heap.IsCell c v → h'.IsCell c v := fun x c e v ⟨o, ho, hd⟩ => by
    have nch : c ∉ ch := fun z => (hch c z).2.2.1 x c e rfl
    by_cases hc : c ∈ X.fs
    · obtain ⟨sl, q⟩ := slot c o (I.cne x c e) hc nch ho (I.freeC x c e)
      exact ⟨_, q, hd⟩
    · exact ⟨o, keep c o (I.cne x c e) hc nch ho (I.freeC x c e), hd⟩
  refine ⟨I.ok, I.os, hg, ⟨fun b o e n hb hx => ?_, fun b o e n hb hx => ?_, fun b o e n hx => ?_, fun b o e hx => ?_, fun b xs e => tups b xs (I.base.tups b xs e), fun b o xs e => frzs b o xs (I.base.frzs b o xs e), fun b p q e => tbls b p q (I.base.tbls b p q e)⟩, ?_, fun x c e => ?_, ?_, fun x c e => ?_, fun p hp => ?_, hok, I.len⟩
  · exact keep b o (neL b o e) hb (neC b o e hx) (I.base.keep b o e n hb hx) (I.base.free b o e n hx)
  · obtain ⟨sl, e1⟩ := I.base.slot b o e n hb hx
    obtain ⟨sl', e2⟩ := slot b _ (neL b o e) hb (neC b o e hx) e1 (I.base.free b o e n hx)
    exact ⟨sl', e2⟩
  · obtain ⟨o', e1⟩ := I.base.there b o e hx
    exact free b o' (neC b o e hx) e1 (I.base.free b o e n hx)
  · obtain ⟨o', e1⟩ := I.base.there b o e hx
    exact there b o' (neC b o e hx) e1
  · obtain ⟨m, hn, hl⟩ := I.loc
    refine ⟨m, ns m hn, fun i x v e1 e2 e3 => ?_⟩
    obtain ⟨u, r, l⟩ := hl i x v e1 e2 e3
    refine ⟨u, r, ?_⟩
    rcases l with l | ⟨k, c, e, z⟩
    · exact .inl l
    · exact .inr ⟨k, c, e, cellK x c e _ z⟩
  · obtain ⟨v, z⟩ := I.cell x c e
    exact ⟨v, cellK x c e v z⟩
  · obtain ⟨m, ⟨o, _, _, ho, _⟩, _⟩ := I.loc
    exact free _ o (fun z => (hch _ z).2.1 rfl) ho I.free
  · obtain ⟨v, o, ho, hd⟩ := I.cell x c e
    exact free c o (fun z => (hch c z).2.2.1 x c e rfl) ho (I.freeC x c e)
  · obtain ⟨e, n, ne, nf, d⟩ := I.pin p hp
    have nch : p.1 ∉ ch := fun z => (hch p.1 z).2.2.2 p hp rfl
    exact ⟨keep p.1 p.2 ne nf nch e n, free p.1 p.2 nch e n, ne, nf, d⟩
/-- .. where the frame's own object is kept too -/
theorem Inv.un {t' : Nat} (I : Inv X pins σ H s) (u : Un X.fs [] H H' s.heap h') (hok : HOk X.prog X.w H' h') : Inv X pins σ H' { s with heap := h', toks := t' } := by
  obtain ⟨m, ⟨o, es, ep, ho, r⟩, _⟩ := id I.loc
  obtain ⟨sl, hL⟩ := u.any ho I.free (by simp)
  exact I.step (g' := s.gens) (d' := s.drawn) (ch := []) (fun _ z => nomatch z) (fun b o _ hb _ e n => u.keep b o e n hb (by simp)) (fun b o _ hb _ e n => u.slot b o e n hb (by simp)) (fun b o _ e n => u.free b o e n (by simp)) (fun b o _ e => u.there b o e (by simp)) u.tups u.frzs u.tbls (fun m' hm => by
    obtain ⟨o', es', ep', ho', r'⟩ := hm
    rw [ho] at ho'; cases ho'
    exact ⟨_, es', ep', hL, r'⟩) hok I.bare
/-- behind a call (or a comprehension's block): the slots of this frame may have changed too, the records at ch may have turned -/
theorem Inv.call {g' : Array GenState} {t' : Nat} {d' : Drawn} {ch : List Addr} (I : Inv X pins σ H s) (u : Un (frs X.stack) ch H H' s.heap h') (hok : HOk X.prog X.w H' h') (hg : AllBare g')
    (hch : ∀ b ∈ ch, (b ∈ X.ex ∨ X.s₀.heap.objs.size ≤ b) ∧ b ≠ X.env.locals ∧ (∀ x c, X.env.cells.lookup x = some c → c ≠ b) ∧ ∀ p ∈ X.pn ++ pins, p.1 ≠ b) :
    Inv X pins σ H' { s with heap := h', gens := g', drawn := d', toks := t' } := by
  obtain ⟨m, ⟨o, es, ep, ho, r⟩, _⟩ := id I.loc
  obtain ⟨sl, hL⟩ := u.any ho I.free fun z => (hch _ z).2.1 rfl
  exact I.step (ch := ch) hch (fun b o hL hb hc e n => u.keep b o e n (fun z => (List.mem_cons.mp (I.stkSub b z)).elim hL hb) hc) (fun b o _ _ hc e n => u.any e n hc) (fun b o hc e n => u.free b o e n hc) (fun b o hc e => u.there b o e hc) u.tups u.frzs u.tbls (fun m' hm => by
    obtain ⟨o', es', ep', ho', r'⟩ := hm
    rw [ho] at ho'; cases ho'
    exact ⟨_, es', ep', hL, r'⟩) hok hg
/-- an untracked record of ours (an iterator) has turned -/
theorem Inv.turned {t' : Nat} {it : Addr} (I : Inv X pins σ H s) (k : ∀ b o, b ≠ it → s.heap.get? b = some o → h'.get? b = some o) (hn : H it = none) (hL : it ≠ X.env.locals)
    (h1 : it ∈ X.ex ∨ X.s₀.heap.objs.size ≤ it) (h2 : ∀ x c, X.env.cells.lookup x = some c → c ≠ it) (h3 : ∀ p ∈ X.pn ++ pins, p.1 ≠ it) : Inv X pins σ H { s with heap := h', toks := t' } := by
  have nit : ∀ b u, H b = some u → b ≠ it := fun b u e z => by rw [z, hn] at e; cases e
  refine I.step (g' := s.gens) (d' := s.drawn) (ch := [it]) (fun b hb => ?_) (fun b o _ _ hc e _ => k b o (fun z => hc (by simp [z])) e) (fun b o _ _ hc e _ => ⟨o.slots, k b o (fun z => hc (by simp [z])) e⟩) (fun _ _ _ _ n => n)
    (fun b o hc e => ⟨o, k b o (fun z => hc (by simp [z])) e⟩) (fun _ _ e => e) (fun _ _ _ e => e) (fun _ _ _ e => e) (fun m hm => ?_) (fun b u e => ?_) I.bare
  · have e : b = it := by simpa using hb
    subst e
    exact ⟨h1, hL, h2, h3⟩
  · obtain ⟨o, es, ep, ho, r⟩ := hm
    exact ⟨o, es, ep, k _ o (Ne.symm hL) ho, r⟩
  · refine (I.hok b u e).stay (fun c v hc q => k c v ?_ q) (fun _ q => q) (fun _ _ q => q) fun _ _ _ q => q
    rcases hc with z | z
    · rw [z]; exact nit b u e
    · exact nit c _ z
theorem Inv.tok (I : Inv X pins σ H s) (t : Nat) : Inv X pins σ H { s with toks := t } := I.un (h' := s.heap) (t' := t) Un.refl I.hok
/-- all objects kept -/
theorem Inv.kept {t' : Nat} (I : Inv X pins σ H s) (k : ∀ b u, s.heap.get? b = some u → h'.get? b = some u) : Inv X pins σ H { s with heap := h', toks := t' } := I.un (Un.kept k) (I.hok.kept k)
/-- a new object laid and tracked -/
theorem Inv.laid {a : Addr} {o : HO} {t' : Nat} (I : Inv X pins σ H s) (k : ∀ b u, s.heap.get? b = some u → h'.get? b = some u) (hp : s.heap.objs.size ≤ a) (new : ObjOk X.prog X.w (upd H a o) h' a o) :
    Inv X pins σ (upd H a o) { s with heap := h', toks := t' } := I.un (Un.laid k hp (I.hok.fresh hp)) (I.hok.laid k hp new)
/-- an object written -/
theorem Inv.write {x e : Addr} {o : HO} {t' : Nat} (I : Inv X pins σ H s) (mu : Mut (H x)) (he : e = x ∨ H e = some (.own x)) (k : ∀ b u, b ≠ e → s.heap.get? b = some u → h'.get? b = some u) (heo : ∃ u, h'.get? e = some u)
    (new : ObjOk X.prog X.w (upd H x o) h' x o) : Inv X pins σ (upd H x o) { s with heap := h', toks := t' } := I.un (Un.write mu he k heo) (I.hok.write mu he k heo new)
theorem Inv.pins_of {pins' : List (Addr × Obj)} (I : Inv X pins σ H s) (h : ∀ p ∈ pins', s.heap.get? p.1 = some p.2 ∧ H p.1 = none ∧ p.1 ≠ X.env.locals ∧ p.1 ∉ X.fs ∧ ∀ v, p.2.data ≠ .cell v) : Inv X pins' σ H s :=
  ⟨I.ok, I.os, I.bare, I.base, I.loc, I.cell, I.free, I.freeC, fun p hp => (List.mem_append.mp hp).elim (fun z => I.pin p (List.mem_append_left _ z)) (h p), I.hok, I.len⟩

theorem nodup_ix {N : List Str} (hN : N.Nodup) {i j : Nat} {x : Str} (a : N[i]? = some x) (b : N[j]? = some x) : i = j := by
  obtain ⟨h1, e1⟩ := List.getElem?_eq_some_iff.mp a
  obtain ⟨h2, e2⟩ := List.getElem?_eq_some_iff.mp b
  exact (List.getElem_inj hN).mp (e1.trans e2.symm)

/-- a name is stored; what changed -/
theorem store_ok2 {M : Model} {A : Around} {E : Value → Shared → Prop} {i : Nat} {x : Str} {v : V} {u : Value} {Q : Unit → Shared → Prop} (I : Inv X pins σ H s) (hN : X.N.Nodup) (hi : X.N[i]? = some x) (hx : Loc X.env.scope x) (r : RelV v u)
    (h : ∀ s', Inv X pins (σ.set i (some v)) H s' → (∃ a, Heap.SameBut a s.heap s'.heap ∧ (a = X.env.locals ∨ X.env.cells.lookup x = some a)) → Q () s') (hf : X.fn x = true ∨ X.env.scope.names.lookup x = some .local := by first | exact .inl rfl | exact .inr rfl | assumption) : wpAny M A (storeName X.env x u) Q E s := by
  obtain ⟨m, hn, hl⟩ := id I.loc
  have hcls : (X.env.scope.kind == .class || (X.env.scope.kind == .module && X.env.locals != X.env.globals)) = false := by rw [I.ok.kind]; rfl
  have hiσ : i < σ.length := by rw [I.len]; exact (List.getElem?_eq_some_iff.mp hi).1
  have cne := I.cne
  have tracked : ∀ {a : Addr} {h' : Heap}, (∃ o, s.heap.get? a = some o ∧ H a = none) → Heap.SameBut a s.heap h' → HOk X.prog X.w H h' := fun {a h'} ha hs b ob e => by
    obtain ⟨_, _, hfree⟩ := ha
    refine (I.hok b ob e).stay (fun c w' hc q => (hs.2 c ?_).trans q) (fun _ q => q) (fun _ _ q => q) fun _ _ _ q => q
    rintro rfl
    rcases hc with rfl | hc
    · rw [hfree] at e; cases e
    · rw [hfree] at hc; cases hc
  rcases hx with hk | hk
  · refine wpAny_storeName_local hk hn (fun h' hn' hs => ?_) hcls
    obtain ⟨oL, _, _, hoL, _⟩ := id hn
    refine h _ ⟨I.ok, I.os, I.bare, ⟨fun b o e n hb hx => ?_, fun b o e n hb hx => ?_, I.base.free, fun b o e hx => ?_, I.base.tups, I.base.frzs, I.base.tbls⟩, ⟨_, hn', fun j y v' e1 e2 e3 => ?_⟩, fun y c e => ?_, I.free, I.freeC, fun p hp => ?_, tracked ⟨oL, hoL, I.free⟩ hs, by simpa using I.len⟩ ⟨_, hs, .inl rfl⟩
    · exact (hs.2 b (Nat.ne_of_lt (Nat.lt_of_lt_of_le (Heap.lt_size e) I.ok.above))).trans (I.base.keep b o e n hb hx)
    · obtain ⟨sl, e1⟩ := I.base.slot b o e n hb hx
      exact ⟨sl, (hs.2 b (Nat.ne_of_lt (Nat.lt_of_lt_of_le (Heap.lt_size e) I.ok.above))).trans e1⟩
    · obtain ⟨o', e1⟩ := I.base.there b o e hx
      exact ⟨o', (hs.2 b (Nat.ne_of_lt (Nat.lt_of_lt_of_le (Heap.lt_size e) I.ok.above))).trans e1⟩
    · by_cases hj : j = i
      · subst hj
        rw [hi] at e1; cases e1
        rw [List.getElem?_set_self hiσ] at e2
        cases e2
        exact ⟨u, r, .inl ⟨hk, by simp⟩⟩
      · rw [List.getElem?_set_ne (Ne.symm hj)] at e2
        obtain ⟨u', r', q⟩ := hl j y v' e1 e2 e3
        refine ⟨u', r', ?_⟩
        rcases q with ⟨k, e⟩ | ⟨k, c, e, z⟩
        · refine .inl ⟨k, ?_⟩
          have : y ≠ x := fun e => hj (nodup_ix hN e1 (e ▸ hi))
          simp [this, e]
        · exact .inr ⟨k, c, e, z.sameBut hs (cne y c e)⟩
    · obtain ⟨w', z⟩ := I.cell y c e
      exact ⟨w', z.sameBut hs (cne y c e)⟩
    · obtain ⟨e, n, ne, nf, d⟩ := I.pin p hp
      exact ⟨(hs.2 p.1 ne).trans e, n, ne, nf, d⟩
  · have hfn : X.fn x = true := by
      rcases hf with z | z
      · exact z
      · rw [z] at hk; cases hk
    obtain ⟨c, hc⟩ := I.ok.has x (.inl hk)
    obtain ⟨w', z⟩ := I.cell x c hc
    refine wpAny_storeName_cell I.ok.kind hk hc z (fun h' hc' hs => ?_)
    obtain ⟨oc, hoc, hocd⟩ := id z
    refine h { s with heap := h' } ⟨I.ok, I.os, I.bare, ⟨fun b o e n hb hx => ?_, fun b o e n hb hx => ?_, I.base.free, fun b o e hx => ?_, I.base.tups, I.base.frzs, I.base.tbls⟩, ⟨m, hn.sameBut hs (Ne.symm (cne x c hc)), fun j y v' e1 e2 e3 => ?_⟩, fun y c' e => ?_, I.free, I.freeC, fun p hp => ?_, tracked ⟨oc, hoc, I.freeC x c hc⟩ hs, by simpa using I.len⟩ ⟨c, hs, .inr hc⟩
    · exact (hs.2 b (Nat.ne_of_lt (Nat.lt_of_lt_of_le (Heap.lt_size e) (I.ok.cab x c hfn hc)))).trans (I.base.keep b o e n hb hx)
    · obtain ⟨sl, e1⟩ := I.base.slot b o e n hb hx
      exact ⟨sl, (hs.2 b (Nat.ne_of_lt (Nat.lt_of_lt_of_le (Heap.lt_size e) (I.ok.cab x c hfn hc)))).trans e1⟩
    · obtain ⟨o', e1⟩ := I.base.there b o e hx
      exact ⟨o', (hs.2 b (Nat.ne_of_lt (Nat.lt_of_lt_of_le (Heap.lt_size e) (I.ok.cab x c hfn hc)))).trans e1⟩
    · by_cases hj : j = i
      · subst hj
        rw [hi] at e1; cases e1
        rw [List.getElem?_set_self hiσ] at e2
        cases e2
        exact ⟨u, r, .inr ⟨.inl hk, c, hc, hc'⟩⟩
      · rw [List.getElem?_set_ne (Ne.symm hj)] at e2
        obtain ⟨u', r', q⟩ := hl j y v' e1 e2 e3
        refine ⟨u', r', ?_⟩
        rcases q with q | ⟨k, c', e, z'⟩
        · exact .inl q
        · refine .inr ⟨k, c', e, z'.sameBut hs ?_⟩
          rintro rfl
          exact hj (nodup_ix hN e1 (I.ok.inj _ _ _ e hc ▸ hi))
    · by_cases hcc : c' = c
      · subst hcc; exact ⟨_, hc'⟩
      · obtain ⟨w2, z2⟩ := I.cell y c' e
        exact ⟨w2, z2.sameBut hs hcc⟩
    · obtain ⟨e, n, ne, nf, d⟩ := I.pin p hp
      refine ⟨(hs.2 p.1 ?_).trans e, n, ne, nf, d⟩
      intro q
      rw [q, hoc] at e
      have q' : oc = p.2 := Option.some.inj e
      exact d w' (by rw [← q']; exact hocd)
theorem store_ok {M : Model} {A : Around} {E : Value → Shared → Prop} {i : Nat} {x : Str} {v : V} {u : Value} {Q : Unit → Shared → Prop} (I : Inv X pins σ H s) (hN : X.N.Nodup) (hi : X.N[i]? = some x) (hx : Loc X.env.scope x) (r : RelV v u)
    (h : ∀ s', Inv X pins (σ.set i (some v)) H s' → Q () s') (hf : X.fn x = true ∨ X.env.scope.names.lookup x = some .local := by first | exact .inl rfl | exact .inr rfl | assumption) : wpAny M A (storeName X.env x u) Q E s :=
  store_ok2 I hN hi hx r (fun s' I' _ => h s' I') hf
/-- behind a call or a block, the state as it is -/
theorem Inv.call' {s' : Shared} {ch : List Addr} (I : Inv X pins σ H s) (ho : s'.os = s.os) (u : Un (frs X.stack) ch H H' s.heap s'.heap) (hok : HOk X.prog X.w H' s'.heap) (hg : AllBare s'.gens)
    (hch : ∀ b ∈ ch, (b ∈ X.ex ∨ X.s₀.heap.objs.size ≤ b) ∧ b ≠ X.env.locals ∧ (∀ x c, X.env.cells.lookup x = some c → c ≠ b) ∧ ∀ p ∈ X.pn ++ pins, p.1 ≠ b) : Inv X pins σ H' s' := by
  obtain ⟨h', g', d', t', o'⟩ := s'
  have e : o' = s.os := ho
  subst e
  exact I.call (g' := g') (t' := t') (d' := d') u hok hg hch
end

/-! ### the judgements -/
/-- an exception: its class, its own dict's address (where it has one), the abstract heap behind it -/
abbrev XK := Value → Option Addr → Hp → Prop
abbrev St := List (Option V)
abbrev VK := V → Hp → Prop
/-- an expression's reading; a test's; an argument list's -/
abbrev TE := St → Hp → VK → Prop
abbrev TT := St → Hp → (Bool → Hp → Prop) → Prop
abbrev TA := St → Hp → (List V → Hp → Prop) → Prop
/-- what is wanted behind a statement -/
structure Ends where
  nx : St → Hp → Prop
  rt : VK
  bk : St → Hp → Prop := fun _ _ => False
  ct : St → Hp → Prop := fun _ _ => False
abbrev TS := Ends → St → Hp → Prop

def EP (X : Cx) (pins : List (Addr × Obj)) (σ : St) (Q : VK) (u : Value) (s' : Shared) : Prop := ∃ v H', Inv X pins σ H' s' ∧ RelV v u ∧ Q v H'
def TP (X : Cx) (pins : List (Addr × Obj)) (σ : St) (Q : Bool → Hp → Prop) (b : Bool) (s' : Shared) : Prop := ∃ H', Inv X pins σ H' s' ∧ Q b H'
def AP (X : Cx) (pins : List (Addr × Obj)) (σ : St) (Q : List V → Hp → Prop) (us : List Value) (s' : Shared) : Prop := ∃ vs H', Inv X pins σ H' s' ∧ Vals vs us ∧ Q vs H'
def SP (X : Cx) (pins : List (Addr × Obj)) (D : Ends) (f : Flow) (s' : Shared) : Prop :=
  match f with
  | .next => ∃ σ' H', Inv X pins σ' H' s' ∧ D.nx σ' H'
  | .brk => ∃ σ' H', Inv X pins σ' H' s' ∧ D.bk σ' H'
  | .cont => ∃ σ' H', Inv X pins σ' H' s' ∧ D.ct σ' H'
  | .ret u => ∃ v σ' H', Inv X pins σ' H' s' ∧ RelV v u ∧ D.rt v H'

def PE (X : Cx) (e : Expr) (t : TE) : Prop :=
  ∀ (pins : List (Addr × Obj)) (s : Shared) (σ : St) (H : Hp) (Q : VK), Inv X pins σ H s → t σ H Q → wpAny (model X.prog X.w) X.A (eval e X.env) (EP X pins σ Q) X.xe s
def PT (X : Cx) (e : Expr) (t : TT) : Prop :=
  ∀ (pins : List (Addr × Obj)) (s : Shared) (σ : St) (H : Hp) (Q : Bool → Hp → Prop), Inv X pins σ H s → t σ H Q → wpAny (model X.prog X.w) X.A (isTrue e X.env (eval e X.env)) (TP X pins σ Q) X.xe s
/-- a test whatever its 'whole' is (and, or) -/
def PW (X : Cx) (e : Expr) (t : TT) : Prop :=
  ∀ (whole : Sem Value) (pins : List (Addr × Obj)) (s : Shared) (σ : St) (H : Hp) (Q : Bool → Hp → Prop), Inv X pins σ H s → t σ H Q → wpAny (model X.prog X.w) X.A (isTrue e X.env whole) (TP X pins σ Q) X.xe s
theorem PW.pt {X : Cx} {e : Expr} {t : TT} (h : PW X e t) : PT X e t := h _
/-- an argument list (no star), from the left -/
def PA (X : Cx) (es : List Expr) (t : TA) : Prop :=
  ∀ (pos : Pos) (pins : List (Addr × Obj)) (s : Shared) (σ : St) (H : Hp) (Q : List V → Hp → Prop), Inv X pins σ H s → t σ H Q → wpAny (model X.prog X.w) X.A (spliced (backTo pos (starEach es X.env))) (AP X pins σ Q) X.xe s
def PS (X : Cx) (st : Stmt) (t : TS) : Prop :=
  ∀ (pins : List (Addr × Obj)) (s : Shared) (σ : St) (H : Hp) (D : Ends), Inv X pins σ H s → t D σ H → wpAny (model X.prog X.w) X.A (exec st X.env) (SP X pins D) X.xe s
def PSs (X : Cx) (st : List Stmt) (t : TS) : Prop :=
  ∀ (pins : List (Addr × Obj)) (s : Shared) (σ : St) (H : Hp) (D : Ends), Inv X pins σ H s → t D σ H → wpAny (model X.prog X.w) X.A (execs st X.env) (SP X pins D) X.xe s
/-- weaken the end -/
theorem thn {α : Type} {t : Sem α} {Q Q' : α → Shared → Prop} {M : Model} {A : Around} {E : Value → Shared → Prop} {s : Shared} (h : wpAny M A t Q E s) (hQ : ∀ a s, Q a s → Q' a s) : wpAny M A t Q' E s := wpAny_mono h hQ fun _ _ x => x
end L2

namespace L2
open PySem PySem.Spec PyProof.Rows
section
variable {X : Cx}

/-! ### names and constants -/
def tVar (i : Nat) : TE := fun σ H Q => ∃ v, σ[i]? = some (some v) ∧ Q v H
def tC (v : V) : TE := fun _ H Q => Q v H
theorem pe_var {i : Nat} {x : Str} {pos : Pos} (hN : X.N[i]? = some x) (hv : Vis X.env.scope x) (hd : (x == ("__debug__" : Str)) = false := by decide) (hcd : (x == ("__classdict__" : Str)) = false := by decide) : PE X (.Name x pos) (tVar i) := by
  intro pins s σ H Q I h
  obtain ⟨v, e, h⟩ := h
  obtain ⟨m, hn, hl⟩ := I.loc
  obtain ⟨u, r, l⟩ := hl i x v hN e hv
  have fin : EP X pins σ Q u s := ⟨v, H, I, r, h⟩
  rcases l with ⟨hk, hm⟩ | ⟨hk, c, hc, hcell⟩
  · exact wpAny_Name (wpAny_loadName_local I.ok.kind hk hn hm fin) hd
  · rcases hk with hk | hk
    · exact wpAny_Name (wpAny_loadName_cell I.ok.kind hk hc hcell fin) hd
    · exact wpAny_Name (wpAny_loadName_free I.ok.kind hk hc hcell fin hcd) hd
theorem pe_int {i j pos} : PE X (.Constant (.int i) j pos) (tC (.int i)) := fun _ _ _ H _ I h => wpAny_Constant_int ⟨.int i, H, I.tok _, ⟨_, rfl⟩, h⟩
theorem pe_bl {b j pos} : PE X (.Constant (.bool b) j pos) (tC (.bl b)) := fun _ _ _ H _ I h => Constant_bool ⟨.bl b, H, I, rfl, h⟩
theorem pe_non {j pos} : PE X (.Constant .none j pos) (tC .non) := fun _ _ _ H _ I h => Constant_none ⟨.non, H, I, rfl, h⟩
theorem pe_str {x j pos} : PE X (.Constant (.str x) j pos) (tC (.str x)) := fun _ _ _ H _ I h => Calls.Constant_str ⟨.str x, H, I.tok _, ⟨_, rfl⟩, h⟩

/-- a global name of the def -/
def Gl (X : Cx) (x : Str) : Prop := X.env.kindOf x = some .globalImplicit
theorem ld_glob {E : Value → Shared → Prop} {pins : List (Addr × Obj)} {s : Shared} {σ : St} {H : Hp} {x : Str} {u : Value} {pos : Pos} {Q : Value → Shared → Prop} (I : Inv X pins σ H s) (hg : Gl X x) (hm : X.mg x = some u) (h : Q u s)
    (hd : (x == ("__debug__" : Str)) = false := by decide) : wpAny (model X.prog X.w) X.A (eval (.Name x pos) X.env) Q E s :=
  Calls.Name_function_global I.ok.kind hg (Calls.loadGlobal_global (by rw [I.ok.glob]; exact I.mod.glob.keeps I.bk) hm h) hd
theorem ld_blt {E : Value → Shared → Prop} {pins : List (Addr × Obj)} {s : Shared} {σ : St} {H : Hp} {x : Str} {u : Value} {pos : Pos} {Q : Value → Shared → Prop} (I : Inv X pins σ H s) (hg : Gl X x) (hm : X.mg x = none) (hv : bootBuiltins x = some u) (h : Q u s)
    (hn : x ≠ "__name__" := by decide) (hd : (x == ("__debug__" : Str)) = false := by decide) : wpAny (model X.prog X.w) X.A (eval (.Name x pos) X.env) Q E s := by
  obtain ⟨mb, h1, h2⟩ := I.mod.blt
  exact Calls.Name_function_global I.ok.kind hg (Calls.loadGlobal_builtin (by rw [I.ok.glob]; exact I.mod.glob.keeps I.bk) hm (by rw [I.ok.blt]; exact h1.keeps I.bk) ((h2 x hn).trans hv) h) hd
/-- a module's constant, a class, a function, as a value -/
theorem pe_glob {x : Str} {v : V} {u : Value} {pos : Pos} (hg : Gl X x) (hm : X.mg x = some u) (r : RelV v u) (hd : (x == ("__debug__" : Str)) = false := by decide) : PE X (.Name x pos) (tC v) :=
  fun _ _ _ H _ I h => ld_glob I hg hm ⟨v, H, I, r, h⟩ hd
theorem pe_bltn {x : Str} {v : V} {u : Value} {pos : Pos} (hg : Gl X x) (hm : X.mg x = none) (hv : bootBuiltins x = some u) (r : RelV v u) (hn : x ≠ "__name__" := by decide) (hd : (x == ("__debug__" : Str)) = false := by decide) : PE X (.Name x pos) (tC v) :=
  fun _ _ _ H _ I h => ld_blt I hg hm hv ⟨v, H, I, r, h⟩ hn hd

/-! ### arithmetic -/
variable {a b : Expr} {ta tb : TE} {pos : Pos}
/-! ### comparisons -/
/-! ### and, or, not -/
variable {tA tB' : TT} {rest : List Expr}
def tAnd (t u : TT) : TT := fun σ H Q => t σ H fun c H1 => if c = true then u σ H1 Q else Q false H1
def tOr (t u : TT) : TT := fun σ H Q => t σ H fun c H1 => if c = true then Q true H1 else u σ H1 Q
def tNot (t : TT) : TT := fun σ H Q => t σ H fun c H1 => Q (!c) H1
theorem pw_and1 (ha : PT X a tA) : PW X (.BoolOp .And [a] pos) tA := by
  intro wh pins s σ H Q I h
  refine isTrue_and (thn (ha pins s σ H Q I h) fun c s1 e => ?_)
  cases c with
  | true => exact isTrue_and_nil e
  | false => exact e
theorem pw_or1 (ha : PT X a tA) : PW X (.BoolOp .Or [a] pos) tA := by
  intro wh pins s σ H Q I h
  refine isTrue_or (thn (ha pins s σ H Q I h) fun c s1 e => ?_)
  cases c with
  | false => exact isTrue_or_nil e
  | true => exact e
theorem pw_and (ha : PT X a tA) (hb : PW X (.BoolOp .And (b :: rest) pos) tB') : PW X (.BoolOp .And (a :: b :: rest) pos) (tAnd tA tB') := by
  intro wh pins s σ H Q I h
  refine isTrue_and (thn (ha pins s σ H _ I h) fun c s1 ⟨H1, I1, q1⟩ => ?_)
  cases c with
  | true => exact hb wh pins s1 σ H1 Q I1 q1
  | false => exact ⟨H1, I1, q1⟩
theorem pw_or (ha : PT X a tA) (hb : PW X (.BoolOp .Or (b :: rest) pos) tB') : PW X (.BoolOp .Or (a :: b :: rest) pos) (tOr tA tB') := by
  intro wh pins s σ H Q I h
  refine isTrue_or (thn (ha pins s σ H _ I h) fun c s1 ⟨H1, I1, q1⟩ => ?_)
  cases c with
  | true => exact ⟨H1, I1, q1⟩
  | false => exact hb wh pins s1 σ H1 Q I1 q1
theorem pt_not (ha : PT X a tA) : PT X (.UnaryOp .Not a pos) (tNot tA) := by
  intro pins s σ H Q I h
  exact isTrue_not (ha pins s σ H (fun c H1 => Q (!c) H1) I h)
/-- .. as values (bools) -/
def tAndV (ta tb : TE) : TE := fun σ H Q => ta σ H fun x H1 => ∃ c, x = .bl c ∧ if c = true then tb σ H1 Q else Q (.bl false) H1
def tOrV (ta tb : TE) : TE := fun σ H Q => ta σ H fun x H1 => ∃ c, x = .bl c ∧ if c = true then Q (.bl true) H1 else tb σ H1 Q
def tNotV (ta : TE) : TE := fun σ H Q => ta σ H fun x H1 => ∃ c, x = .bl c ∧ Q (.bl (!c)) H1
theorem pe_one {op} {t : TE} (h : PE X a t) : PE X (.BoolOp op [a] pos) t := fun pins s σ H Q I hw => BoolOp_one (h pins s σ H Q I hw)
theorem pe_and (ha : PE X a ta) (hb : PE X (.BoolOp .And (b :: rest) pos) tb) : PE X (.BoolOp .And (a :: b :: rest) pos) (tAndV ta tb) := by
  intro pins s σ H Q I h
  refine BoolOp_and (thn (ha pins s σ H _ I h) fun v s1 ⟨x, H1, I1, r1, q1⟩ => ?_)
  obtain ⟨c, rfl, q1⟩ := q1
  cases r1
  refine wpAny_truthy_bool ?_
  cases c with
  | true => exact hb pins s1 σ H1 Q I1 q1
  | false => exact ⟨.bl false, H1, I1, rfl, q1⟩
theorem pe_or (ha : PE X a ta) (hb : PE X (.BoolOp .Or (b :: rest) pos) tb) : PE X (.BoolOp .Or (a :: b :: rest) pos) (tOrV ta tb) := by
  intro pins s σ H Q I h
  refine BoolOp_or (thn (ha pins s σ H _ I h) fun v s1 ⟨x, H1, I1, r1, q1⟩ => ?_)
  obtain ⟨c, rfl, q1⟩ := q1
  cases r1
  refine wpAny_truthy_bool ?_
  cases c with
  | false => exact hb pins s1 σ H1 Q I1 q1
  | true => exact ⟨.bl true, H1, I1, rfl, q1⟩
theorem pe_not (ha : PE X a ta) : PE X (.UnaryOp .Not a pos) (tNotV ta) := by
  intro pins s σ H Q I h
  refine UnaryOp_ (thn (ha pins s σ H _ I h) fun v s1 ⟨x, H1, I1, r1, q1⟩ => ?_)
  obtain ⟨c, rfl, q1⟩ := q1
  cases r1
  exact not_of (wpAny_truthy_bool ⟨.bl (!c), H1, I1, rfl, q1⟩)
/-- a if t else b -/
def tIf (t : TT) (ta tb : TE) : TE := fun σ H Q => t σ H fun c H1 => if c = true then ta σ H1 Q else tb σ H1 Q
theorem pe_ifExp {c : Expr} (hc : PT X c tA) (ha : PE X a ta) (hb : PE X b tb) : PE X (.IfExp c a b pos) (tIf tA ta tb) := by
  intro pins s σ H Q I h
  refine wpAny_IfExp (thn (hc pins s σ H _ I h) fun d s1 ⟨H1, I1, q1⟩ => ?_)
  cases d with
  | true => exact ha pins s1 σ H1 Q I1 q1
  | false => exact hb pins s1 σ H1 Q I1 q1
end
end L2

namespace L2
open PySem PySem.Spec PyProof.Rows

/-! ### a list, a tuple that is read: tracked, frozen, or an object of the module -/
def SqL (K : PySem.W.Frag) (H : Hp) (a : Addr) (xs : List V) : Prop :=
  Rd H a (.lst xs) ∨
    ∃ (o : Obj) (its : Array Value) (n : Nat), K.lookup a = some o ∧ o.cls = .type "list" ∧ o.dict = none ∧ o.data = .seq its n ∧ its.size ≤ sizeLine ∧ Vals xs its.toList
def SqT (K : PySem.W.Frag) (H : Hp) (a : Addr) (xs : List V) : Prop :=
  Rd H a (.tup xs) ∨
    ∃ (o : Obj) (its : Array Value) (n : Nat), K.lookup a = some o ∧ o.cls = .type "tuple" ∧ o.data = .seq its n ∧ its.size ≤ sizeLine ∧ Vals xs its.toList
def absV : Value → Option V
  | .none => some .non
  | .bool b => some (.bl b)
  | .int i _ => some (.int i)
  | .str x _ => some (.str x)
  | .bytes b _ => some (.byt b)
  | .float b _ => some (.flt b)
  | .ref a => some (.ref a)
  | .type n => some (.ty n)
  | _ => none
theorem RelV.abs {x : V} {u : Value} (r : RelV x u) : absV u = some x := by
  cases x with
  | non => cases r; rfl
  | bl _ => cases r; rfl
  | int _ => obtain ⟨t, rfl⟩ := r; rfl
  | str _ => obtain ⟨t, rfl⟩ := r; rfl
  | byt _ => obtain ⟨t, rfl⟩ := r; rfl
  | flt _ => obtain ⟨t, rfl⟩ := r; rfl
  | ref _ => cases r; rfl
  | ty _ => cases r; rfl
theorem RelV.inj {x y : V} {u : Value} (r : RelV x u) (q : RelV y u) : x = y := Option.some.inj (r.abs.symm.trans q.abs)
theorem Vals.inj : ∀ {xs ys : List V} {us : List Value}, Vals xs us → Vals ys us → xs = ys
  | _, _, _, .nil, .nil => rfl
  | _, _, _, .cons r t, .cons r' t' => by rw [r.inj r', Vals.inj t t']
section
variable {X : Cx} {pins : List (Addr × Obj)} {σ : St} {H : Hp} {s : Shared} {a : Addr} {xs ys : List V}
theorem SqL.of {K : PySem.W.Frag} (h : H a = some (.lst xs)) : SqL K H a xs := .inl (.inl h)
theorem SqT.of {K : PySem.W.Frag} (h : H a = some (.tup xs)) : SqT K H a xs := .inl (.inl h)
theorem Inv.list (I : Inv X pins σ H s) (h : SqL X.K H a xs) : ∃ its : List Value, Vals xs its ∧ PlainL s.heap a its.toArray ∧ xs.length ≤ sizeLine := by
  rcases h with h | ⟨o, its, n, hk, hc, hd, hs, hz, r⟩
  · obtain ⟨z, its, n, r, e⟩ := h.ok I.hok
    exact ⟨its, r, ⟨_, n, e, rfl, rfl, rfl⟩, z⟩
  · refine ⟨its.toList, r, ⟨o, n, I.kIn a o hk, hc, hd, by simpa using hs⟩, ?_⟩
    have e := r.length
    simp only [Array.length_toList] at e
    (first | lia | omega)
theorem Inv.tuple (I : Inv X pins σ H s) (h : SqT X.K H a xs) : ∃ its : List Value, Vals xs its ∧ IsTup s.heap a its.toArray ∧ xs.length ≤ sizeLine := by
  rcases h with h | ⟨o, its, n, hk, hc, hs, hz, r⟩
  · obtain ⟨z, its, r, p⟩ := h.ok I.hok
    exact ⟨its, r, p, z⟩
  · refine ⟨its.toList, r, ⟨o, I.kIn a o hk, hc, n, by simpa using hs⟩, ?_⟩
    have e := r.length
    simp only [Array.length_toList] at e
    (first | lia | omega)
theorem Inv.list_inj (I : Inv X pins σ H s) (h : SqL X.K H a xs) (h' : SqL X.K H a ys) : xs = ys := by
  obtain ⟨its, r, ⟨o, n, e, _, _, d⟩, _⟩ := I.list h
  obtain ⟨its', r', ⟨o', n', e', _, _, d'⟩, _⟩ := I.list h'
  rw [e] at e'; cases e'
  rw [d] at d'
  injection d' with d1 _
  have : its = its' := by simpa using congrArg Array.toList d1
  subst this
  exact r.inj r'
theorem Inv.tuple_inj (I : Inv X pins σ H s) (h : SqT X.K H a xs) (h' : SqT X.K H a ys) : xs = ys := by
  obtain ⟨its, r, ⟨o, e, _, n, d⟩, _⟩ := I.tuple h
  obtain ⟨its', r', ⟨o', e', _, n', d'⟩, _⟩ := I.tuple h'
  rw [e] at e'; cases e'
  rw [d] at d'
  injection d' with d1 _
  have : its = its' := by simpa using congrArg Array.toList d1
  subst this
  exact r.inj r'
end

/-! ### another wish about exceptions -/
abbrev Cx.wish (X : Cx) (E : Value → Shared → Prop) : Cx := { X with xe := E }
/-- no exception leaves -/
abbrev Cx.nox (X : Cx) : Cx := X.wish fun _ _ => False
theorem Cx.Ok.wish {X : Cx} (ok : X.Ok) (E : Value → Shared → Prop) : (X.wish E).Ok :=
  ⟨ok.mod, ok.kind, ok.glob, ok.blt, ok.above, ok.inj, ok.has, ok.cab, ok.hd, ok.frames, ok.gd, ok.stk, ok.exf, ok.bs, ok.bsz, ok.noex, ok.exfs, ok.funs, ok.frf⟩
theorem Cx.Ok.unwish {X : Cx} {E : Value → Shared → Prop} (ok : (X.wish E).Ok) : X.Ok :=
  ⟨ok.mod, ok.kind, ok.glob, ok.blt, ok.above, ok.inj, ok.has, ok.cab, ok.hd, ok.frames, ok.gd, ok.stk, ok.exf, ok.bs, ok.bsz, ok.noex, ok.exfs, ok.funs, ok.frf⟩
section
variable {X : Cx} {pins : List (Addr × Obj)} {σ : St} {H : Hp} {s : Shared} {E : Value → Shared → Prop}
theorem Inv.wish (I : Inv X pins σ H s) (E : Value → Shared → Prop) : Inv (X.wish E) pins σ H s := ⟨I.ok.wish E, I.os, I.bare, I.base, I.loc, I.cell, I.free, I.freeC, I.pin, I.hok, I.len⟩
theorem Inv.unwish (I : Inv (X.wish E) pins σ H s) : Inv X pins σ H s := ⟨I.ok.unwish, I.os, I.bare, I.base, I.loc, I.cell, I.free, I.freeC, I.pin, I.hok, I.len⟩
theorem SP.unwish {D : Ends} {f : Flow} {s' : Shared} (h : SP (X.wish E) pins D f s') : SP X pins D f s' := by
  cases f with
  | next => obtain ⟨σ', H', I, q⟩ := h; exact ⟨σ', H', I.unwish, q⟩
  | brk => obtain ⟨σ', H', I, q⟩ := h; exact ⟨σ', H', I.unwish, q⟩
  | cont => obtain ⟨σ', H', I, q⟩ := h; exact ⟨σ', H', I.unwish, q⟩
  | ret u => obtain ⟨v, σ', H', I, r, q⟩ := h; exact ⟨v, σ', H', I.unwish, r, q⟩
theorem PSs.nox {st : List Stmt} {t : TS} (h : PSs X.nox st t) : PSs X st t := fun pins s σ H D I hw =>
  wpAny_mono (h pins s σ H D (I.wish _) hw) (fun _ _ q => q.unwish) fun _ _ z => False.elim z
end

/-! ### blocks and small statements -/
section
variable {X : Cx} {st : Stmt} {rest : List Stmt} {t u : TS} {e : Expr} {te : TE} {pos : Pos}
def tNext : TS := fun D σ H => D.nx σ H
def tSeq (t u : TS) : TS := fun D σ H => t { D with nx := u D } σ H
theorem pss_nil : PSs X [] tNext := fun _ _ σ H _ I h => wpAny_execs_nil ⟨σ, H, I, h⟩
theorem pss_cons (h1 : PS X st t) (h2 : PSs X rest u) : PSs X (st :: rest) (tSeq t u) := by
  intro pins s σ H D I h
  refine wpAny_execs_cons (thn (h1 pins s σ H { D with nx := u D } I h) fun f s1 q => ?_)
  cases f with
  | next =>
    obtain ⟨σ', H', I', q⟩ := q
    exact h2 pins s1 σ' H' D I' q
  | ret v => exact q
  | brk => exact q
  | cont => exact q
theorem pss_one (h1 : PS X st t) : PSs X [st] t := by
  intro pins s σ H D I h
  refine wpAny_execs_cons (thn (h1 pins s σ H D I h) fun f s1 q => ?_)
  cases f with
  | next => exact wpAny_execs_nil q
  | ret v => exact q
  | brk => exact q
  | cont => exact q
/-- in a def's body nothing is shown -/
theorem Inv.quiet {pins : List (Addr × Obj)} {σ : St} {H : Hp} {s : Shared} (I : Inv X pins σ H s) : interactive X.env = false := by simp [interactive, I.ok.kind]
/-- an expression whose value is dropped -/
def tDrop (te : TE) : TS := fun D σ H => te σ H fun _ H1 => D.nx σ H1
theorem ps_expr (he : PE X e te) (hs : swapsWith e none pos.line X.env = pure false := by rfl) : PS X (.Expr e pos) (tDrop te) := by
  intro pins s σ H D I h
  exact wpAny_Expr_any (thn (he pins s σ H _ I h) fun v s1 ⟨x, H1, I1, r1, q1⟩ => ⟨σ, H1, I1, q1⟩) I.quiet hs
def tRet (te : TE) : TS := fun D σ H => te σ H D.rt
theorem ps_ret (he : PE X e te) : PS X (.Return (some e) pos) (tRet te) := by
  intro pins s σ H D I h
  exact wpAny_Return_some (thn (he pins s σ H _ I h) fun v s1 ⟨x, H1, I1, r1, q1⟩ => ⟨x, σ, H1, I1, r1, q1⟩)
def tIfS (c : TT) (t u : TS) : TS := fun D σ H => c σ H fun b H1 => if b = true then t D σ H1 else u D σ H1
theorem ps_if {c : Expr} {a b : List Stmt} {tc : TT} (hc : PT X c tc) (ha : PSs X a t) (hb : PSs X b u) : PS X (.If c a b pos) (tIfS tc t u) := by
  intro pins s σ H D I h
  refine wpAny_If (thn (hc pins s σ H _ I h) fun d s1 ⟨H1, I1, q1⟩ => ?_)
  cases d with
  | true => exact ha pins s1 σ H1 D I1 q1
  | false => exact hb pins s1 σ H1 D I1 q1
/-- code that the proof never comes to -/
def tNever : TS := fun _ _ _ => False
theorem ps_never : PS X st tNever := fun _ _ _ _ _ _ h => h.elim
end

/-! ### targets -/
abbrev TG := V → St → Hp → (St → Hp → Prop) → Prop
abbrev TGs := List V → St → Hp → (St → Hp → Prop) → Prop
def PG (X : Cx) (target : Expr) (t : TG) : Prop :=
  ∀ (pins : List (Addr × Obj)) (s : Shared) (σ : St) (H : Hp) (v : V) (u : Value) (Q : St → Hp → Prop), Inv X pins σ H s → RelV v u → t v σ H Q →
    wpAny (model X.prog X.w) X.A (assign target X.env u) (fun _ s' => ∃ σ' H', Inv X pins σ' H' s' ∧ Q σ' H') X.xe s
/-- several targets, one after another -/
def PGs (X : Cx) (ts : List Expr) (t : TGs) : Prop :=
  ∀ (pins : List (Addr × Obj)) (s : Shared) (σ : St) (H : Hp) (vs : List V) (us : List Value) (Q : St → Hp → Prop), Inv X pins σ H s → Vals vs us → t vs σ H Q →
    wpAny (model X.prog X.w) X.A (assignInOrder ((assignEach ts X.env).map (·.2)) us) (fun _ s' => ∃ σ' H', Inv X pins σ' H' s' ∧ Q σ' H') X.xe s
/-- o[i] = v, by values -/
abbrev TSet := V → V → V → Hp → (Hp → Prop) → Prop
def PSet (X : Cx) (t : TSet) : Prop :=
  ∀ (pins : List (Addr × Obj)) (s : Shared) (σ : St) (H : Hp) (o i v : V) (ov iv u : Value) (Q : Hp → Prop), Inv X pins σ H s → RelV o ov → RelV i iv → RelV v u → t o i v H Q →
    wpAny (model X.prog X.w) X.A (setItem ov iv u) (fun _ s' => ∃ H', Inv X pins σ H' s' ∧ Q H') X.xe s
section
variable {X : Cx} {pos : Pos}
def gName (i : Nat) : TG := fun v σ H Q => Q (σ.set i (some v)) H
theorem pg_name {i : Nat} {x : Str} (hN : X.N.Nodup) (hi : X.N[i]? = some x) (hx : Loc X.env.scope x) (hf : X.fn x = true ∨ X.env.scope.names.lookup x = some .local := by first | exact .inl rfl | exact .inr rfl | assumption) : PG X (.Name x pos) (gName i) := by
  intro pins s σ H v u Q I r h
  exact wpAny_assign_Name (store_ok I hN hi hx r (fun s' I' => ⟨_, H, I', h⟩) hf)
def gNil : TGs := fun vs σ H Q => vs = [] ∧ Q σ H
def gCons (t : TG) (u : TGs) : TGs := fun vs σ H Q => ∃ v r, vs = v :: r ∧ t v σ H fun σ' H' => u r σ' H' Q
theorem pgs_nil : PGs X [] gNil := by
  intro pins s σ H vs us Q I r h
  obtain ⟨e, h⟩ := h
  subst e
  cases r
  exact assignInOrder_nil ⟨σ, H, I, h⟩
theorem pgs_cons {e : Expr} {es : List Expr} {t : TG} {u : TGs} (h1 : PG X e t) (h2 : PGs X es u)
    (hs : (assignEach (e :: es) X.env).map (·.2) = assign e X.env :: (assignEach es X.env).map (·.2) := by rfl) : PGs X (e :: es) (gCons t u) := by
  intro pins s σ H vs us Q I r h
  obtain ⟨v, vr, e1, h⟩ := h
  subst e1
  cases r with
  | cons r rr =>
    rw [hs]
    refine assignInOrder_cons (thn (h1 pins s σ H _ _ _ I r h) fun _ s1 ⟨σ1, H1, I1, q1⟩ => ?_)
    exact h2 pins s1 σ1 H1 _ _ Q I1 rr q1
/-- (a, b, ..) = a tuple of that length -/
def gTup (K : PySem.W.Frag) (n : Nat) (t : TGs) : TG := fun v σ H Q => ∃ a xs, v = .ref a ∧ SqT K H a xs ∧ xs.length = n ∧ t xs σ H Q
theorem pg_tup {es : List Expr} {k : Nat} {t : TGs} {n : Nat} (hc : X.calm = true) (h : PGs X es t)
    (hn : (assignEach es X.env).length = n := by rfl) (hst : (assignEach es X.env).findIdx? (·.1) = none := by rfl) : PG X (.Tuple es k pos) (gTup X.K n t) := by
  intro pins s σ H v u Q I r hw
  obtain ⟨a, xs, e1, hq, hl, hw⟩ := hw
  subst e1
  cases r
  obtain ⟨its, rv, ht, hz⟩ := I.tuple hq
  refine assign_Tuple_tuple (I.ok.hd hc) ht (by simp [hn, ← hl, rv.length]) hst fun h' hx => ?_
  have I1 : Inv X pins σ H { s with heap := h' } := I.kept (t' := s.toks) fun b o e => hx b o (Nat.ne_of_lt (Heap.lt_size e)) e
  exact h pins _ σ H xs _ Q I1 (by simpa using rv) hw
/-- o[i] = .. -/
def gSub (to ti : TE) (t : TSet) : TG := fun v σ H Q => to σ H fun o H1 => ti σ H1 fun i H2 => t o i v H2 fun H3 => Q σ H3
theorem pg_sub {o i : Expr} {to ti : TE} {t : TSet} (ho : PE X o to) (hi : PE X i ti) (hs : PSet X t)
    (ha : ∀ v, assign (.Subscript o i pos) X.env v = (do
      let ov ← holding [v] (eval o X.env)
      let iv ← holding [v, ov] (eval i X.env)
      standAt pos
      holding [v, ov, iv] (setItem ov iv v)
      release [v, ov, iv] []) := by intro _; rfl) : PG X (.Subscript o i pos) (gSub to ti t) := by
  intro pins s σ H v u Q I r h
  rw [ha]
  refine wpAny_bind (wpAny_holding (thn (ho pins s σ H _ I h) fun ov s1 ⟨x, H1, I1, r1, q1⟩ => ?_))
  refine wpAny_bind (wpAny_holding (thn (hi pins s1 σ H1 _ I1 q1) fun iv s2 ⟨y, H2, I2, r2, q2⟩ => ?_))
  refine wpAny_bind (wpAny_standAt (wpAny_bind (wpAny_holding (thn (hs pins s2 σ H2 x y v ov iv u _ I2 r1 r2 r q2) fun _ s3 ⟨H3, I3, q3⟩ => ?_))))
  exact wpAny_release ⟨σ, H3, I3, q3⟩
/-- target = value -/
def tAsg (te : TE) (g : TG) : TS := fun D σ H => te σ H fun x H1 => g x σ H1 D.nx
theorem ps_asg {tg e : Expr} {te : TE} {g : TG} (he : PE X e te) (hg : PG X tg g) (hs : swapsWithSole [tg] e pos.line X.env = pure false := by rfl) (hw : swappedStores [tg] e X.env = pure none := by rfl)
    (h1 : (assignEach [tg] X.env).map (·.2) = [assign tg X.env] := by rfl) : PS X (.Assign [tg] e pos) (tAsg te g) := by
  intro pins s σ H D I h
  refine wpAny_Assign_stores (thn (he pins s σ H _ I h) fun v s1 ⟨x, H1, I1, r1, q1⟩ => ?_) hs hw
  rw [h1]
  exact thn (hg pins s1 σ H1 x v _ I1 r1 q1) fun _ s2 q => q
/-- name = value -/
theorem ps_set {i : Nat} {x : Str} {e : Expr} {te : TE} {pos' : Pos} (hN : X.N.Nodup) (hi : X.N[i]? = some x) (hx : Loc X.env.scope x) (he : PE X e te) (hs : swapsWith e (some (.Name x pos')) pos.line X.env = pure false := by rfl) (hf : X.fn x = true ∨ X.env.scope.names.lookup x = some .local := by first | exact .inl rfl | exact .inr rfl | assumption) :
    PS X (.Assign [.Name x pos'] e pos) (tAsg te (gName i)) := by
  intro pins s σ H D I h
  refine wpAny_Assign_Name (thn (he pins s σ H _ I h) fun v s1 ⟨y, H1, I1, r1, q1⟩ => ?_) hs
  exact store_ok I1 hN hi hx r1 (fun s2 I2 => ⟨_, H1, I2, q1⟩) hf
end

/-! ### while -/
section
variable {X : Cx} {pos : Pos}
/-- the invariant W with its measure -/
def tWhile (c : TT) (tb : TS) : TS := fun D σ H => ∃ W : Nat → St → Hp → Prop, (∃ m, W m σ H) ∧ ∀ m σ H, W m σ H →
  c σ H fun b H1 => if b = true then ∃ N : St → Hp → Prop, (∀ σ' H', N σ' H' → ∃ m', m' < m ∧ W m' σ' H') ∧ tb { D with nx := N, ct := N, bk := D.nx } σ H1 else D.nx σ H1
theorem ps_while {c : Expr} {body : List Stmt} {tc : TT} {tb : TS} (hp : PassesOwn (model X.prog X.w) X.A X.env X.xe) (hc : PT X c tc) (hb : PSs X body tb) : PS X (.While c body [] pos) (tWhile tc tb) := by
  intro pins s σ H D I h
  obtain ⟨W, ⟨m0, w0⟩, turn⟩ := h
  refine wpAny_While (codeAny_whileLoop (fun n s' => ∃ σ' H', Inv X pins σ' H' s' ∧ W n σ' H') ?_ m0 ⟨σ, H, I, w0⟩)
  rintro n s1 ⟨σ1, H1, I1, w1⟩
  refine wpAny_passesOwn hp (thn (hc pins s1 σ1 H1 _ I1 (turn n σ1 H1 w1)) fun b s2 ⟨H2, I2, q2⟩ => ?_)
  cases b with
  | true =>
    obtain ⟨N, hN, q2⟩ := q2
    rw [if_pos rfl]
    refine wpAny_passesOwn hp (thn (hb pins s2 σ1 H2 _ I2 q2) fun f s3 q3 => ?_)
    cases f with
    | next =>
      obtain ⟨σ3, H3, I3, n3⟩ := q3
      obtain ⟨m', hm, w3⟩ := hN σ3 H3 n3
      exact ⟨m', hm, σ3, H3, I3, w3⟩
    | cont =>
      obtain ⟨σ3, H3, I3, n3⟩ := q3
      obtain ⟨m', hm, w3⟩ := hN σ3 H3 n3
      exact ⟨m', hm, σ3, H3, I3, w3⟩
    | brk => exact q3
    | ret v => exact q3
  | false =>
    rw [if_neg Bool.false_ne_true]
    exact wpAny_execs_nil ⟨σ1, H2, I2, q2⟩
end

/-! ### what a loop or a comprehension walks -/
/-- at turn i: it yields x (the heap may grow), or it stops -/
structure It where
  go : Nat → Hp → Prop
  yld : Nat → Hp → V → Hp → Prop
  stop : Nat → Hp → Prop
/-- the iterator's own objects may turn: they are not the frame's, not pinned, younger than the entry (or a comprehension's own) -/
def FpOk (X : Cx) (pins : List (Addr × Obj)) (H : Hp) (b : Addr) : Prop :=
  H b = none ∧ b ≠ X.env.locals ∧ b ∉ X.fs ∧ (b ∈ X.ex ∨ X.s₀.heap.objs.size ≤ b) ∧ (∀ x c, X.env.cells.lookup x = some c → c ≠ b) ∧ ∀ p ∈ X.pn ++ pins, p.1 ≠ b
theorem Inv.fpOk {X : Cx} {pins : List (Addr × Obj)} {σ : St} {H H' : Hp} {s : Shared} {b : Addr} (I : Inv X pins σ H s) (hb : s.heap.objs.size ≤ b) (hn : H' b = none) : FpOk X pins H' b := by
  refine ⟨hn, Nat.ne_of_gt (Nat.lt_of_lt_of_le I.lt hb), I.nofs hb, .inr (Nat.le_trans I.sz hb), fun x c e z => ?_, fun p hp z => ?_⟩
  · obtain ⟨v, q⟩ := I.cell x c e
    exact absurd (Nat.lt_of_lt_of_le q.lt (by rw [z]; exact hb)) (Nat.lt_irrefl _)
  · exact absurd (Nat.lt_of_lt_of_le (Heap.lt_size (I.pin p hp).1) (by rw [z]; exact hb)) (Nat.lt_irrefl _)
structure Turn (P : Program) (w : World) (K : PySem.W.Frag) (tg : Expr) (J : It) (fp : List Addr) (it : Addr) (tn : Nat → Heap → Prop) : Prop where
  mem : it ∈ fp
  obj : ∀ i h, tn i h → ∀ b ∈ fp, ∃ o, h.get? b = some o ∧ ∀ v, o.data ≠ .cell v
  keep : ∀ i h h', tn i h → (∀ b ∈ fp, ∀ o, h.get? b = some o → h'.get? b = some o) → tn i h'
  item : ∀ (X : Cx), X.prog = P → X.w = w → X.K = K → X.calm = true → ∀ (i : Nat) (pins : List (Addr × Obj)) (s : Shared) (σ : St) (H : Hp) (E : Value → Shared → Prop), Inv X pins σ H s → (∀ b ∈ fp, FpOk X pins H b) → tn i s.heap → J.go i H →
    wpAny (model P w) X.A (pyNext (.ref it)) (fun r s1 => ∃ u, r = some u ∧
      wpAny (model P w) X.A (letOwnedTupleGo tg (.ref it) u) (fun _ s2 => ∃ x H', Inv X pins σ H' s2 ∧ RelV x u ∧ J.yld i H x H' ∧ tn (i + 1) s2.heap ∧ ∀ b ∈ fp, H' b = none) E s1) E s
  done : ∀ (X : Cx), X.prog = P → X.w = w → X.K = K → X.calm = true → ∀ (i : Nat) (pins : List (Addr × Obj)) (s : Shared) (σ : St) (H : Hp) (E : Value → Shared → Prop), Inv X pins σ H s → (∀ b ∈ fp, FpOk X pins H b) → tn i s.heap → J.stop i H →
    wpAny (model P w) X.A (pyNext (.ref it)) (fun r s1 => r = none ∧ Inv X pins σ H s1) E s
  self : ∀ (A : Around) (i : Nat) (s : Shared) (Q : Value → Shared → Prop) (E : Value → Shared → Prop), tn i s.heap → Q (.ref it) s → wpAny (model P w) A (pyIter (.ref it)) Q E s
abbrev TI := St → Hp → (It → Hp → Prop) → Prop
/-- an iterator has come -/
def PIE (X : Cx) (pins : List (Addr × Obj)) (σ : St) (tg : Expr) (R : It → Hp → Prop) (itv : Value) (s2 : Shared) : Prop :=
  ∃ (it : Addr) (fp : List Addr) (tn : Nat → Heap → Prop) (J : It) (H' : Hp), itv = .ref it ∧ Inv X pins σ H' s2 ∧ Turn X.prog X.w X.K tg J fp it tn ∧ tn 0 s2.heap ∧ (∀ b ∈ fp, FpOk X pins H' b) ∧ R J H'
def PI (X : Cx) (tg iter : Expr) (wi : TI) : Prop :=
  ∀ (pins : List (Addr × Obj)) (s : Shared) (σ : St) (H : Hp) (R : It → Hp → Prop), Inv X pins σ H s → wi σ H R →
    wpAny (model X.prog X.w) X.A (eval iter X.env) (fun v s1 => wpAny (model X.prog X.w) X.A (pyIter v) (PIE X pins σ tg R) X.xe s1) X.xe s

/-- the step ahead of the store is nothing for an iterator that keeps no tuple -/
theorem go_of {M : Model} {A : Around} {E : Value → Shared → Prop} {s : Shared} {tg : Expr} {it : Addr} {u : Value} {o : Obj} {n : String} {vs : Array Value} {Q : Unit → Shared → Prop} (ho : s.heap.get? it = some o) (hc : o.cls = .type n) (hd : o.data = .fields vs)
    (hn : ["enumerate", "zip", "dict_itemiterator", "dict_reverseitemiterator", "odict_iterator", "itertools.zip_longest", "itertools.pairwise"].contains n = false) (hQ : Q () s) : wpAny M A (letOwnedTupleGo tg (.ref it) u) Q E s := by
  unfold letOwnedTupleGo
  cases tg <;> first
    | exact wpAny_pure hQ
    | (cases u <;> first
        | exact wpAny_pure hQ
        | (refine wpAny_bind (wpAny_load ho ?_)
           rw [hc, hd]
           show wpAny M A (if (["enumerate", "zip", "dict_itemiterator", "dict_reverseitemiterator", "odict_iterator", "itertools.zip_longest", "itertools.pairwise"].contains n && vs[0]? == some (rawInt _)) = true then _ else _) Q E s
           rw [if_neg (by intro h; rw [hn, Bool.false_and] at h; cases h)]
           exact wpAny_pure hQ))

/-- the list at a, as it stands at each turn (a loop may append to it) -/
def Itl (K : PySem.W.Frag) (a : Addr) : It :=
  ⟨fun i H => ∃ xs x, SqL K H a xs ∧ xs[i]? = some x, fun i H x H' => H' = H ∧ ∀ xs, SqL K H a xs → xs[i]? = some x, fun i H => ∃ xs, SqL K H a xs ∧ xs.length ≤ i⟩
def Itt (K : PySem.W.Frag) (a : Addr) : It :=
  ⟨fun i H => ∃ xs x, SqT K H a xs ∧ xs[i]? = some x, fun i H x H' => H' = H ∧ ∀ xs, SqT K H a xs → xs[i]? = some x, fun i H => ∃ xs, SqT K H a xs ∧ xs.length ≤ i⟩
/-- lo, lo + 1, .. (n of them) -/
def Itr (lo : Int) (n : Nat) : It := ⟨fun i _ => i < n, fun i H x H' => H' = H ∧ x = .int (lo + i), fun i _ => n ≤ i⟩
theorem turn_list {P : Program} {w : World} {K : PySem.W.Frag} {tg : Expr} (a it : Addr) : Turn P w K tg (Itl K a) [it] it (fun i h => h.IsListIter it a i) where
  mem := by simp
  obj := fun i h st b hb => by
    have e : b = it := by simpa using hb
    subst e
    obtain ⟨o, e, c, d⟩ := st
    exact ⟨o, e, fun v z => by rw [d] at z; cases z⟩
  keep := fun i h h' st k => st.at fun o e => k it (by simp) o e
  item := by
    intro X hP hw hK hc i pins s σ H E I hf st hg
    subst hP hw hK
    obtain ⟨xs, x, hq, hx⟩ := hg
    obtain ⟨its, rv, p, hz⟩ := I.list hq
    obtain ⟨u, hu, ru⟩ := rv.get hx
    obtain ⟨f0, f1, f2, f3, f4, f5⟩ := hf it (by simp)
    refine wpAny_pyNext_list_item st p.isList (x := u) (by simpa using hu) fun h' st' sb => ?_
    have I1 : Inv X pins σ H { s with heap := h' } := I.turned (t' := s.toks) (fun b o hb e => (sb.2 b hb).trans e) f0 f1 f3 f4 f5
    obtain ⟨o, e, c, d⟩ := id st'
    exact ⟨u, rfl, go_of (s := { s with heap := h' }) e c d (by decide) ⟨x, H, I1, ru, ⟨rfl, fun ys hy => by rw [I.list_inj hy hq]; exact hx⟩, st', fun b hb => (hf b hb).1⟩⟩
  done := by
    intro X hP hw hK hc i pins s σ H E I hf st hg
    subst hP hw hK
    obtain ⟨xs, hq, hx⟩ := hg
    obtain ⟨its, rv, p, hz⟩ := I.list hq
    obtain ⟨f0, f1, f2, f3, f4, f5⟩ := hf it (by simp)
    have hl := rv.length
    exact wpAny_pyNext_list_end (I.ok.hd hc) st p.isList (by simp; (first | lia | omega)) fun h' eb => ⟨rfl, I.turned (t' := s.toks) (fun b o hb e => eb b o hb e) f0 f1 f3 f4 f5⟩
  self := fun _ _ _ _ _ st h => wpAny_pyIter_listiter st h
theorem turn_tuple {P : Program} {w : World} {K : PySem.W.Frag} {tg : Expr} (a it : Addr) : Turn P w K tg (Itt K a) [it] it (fun i h => h.IsTupleIter it a i) where
  mem := by simp
  obj := fun i h st b hb => by
    have e : b = it := by simpa using hb
    subst e
    obtain ⟨o, e, c, d⟩ := st
    exact ⟨o, e, fun v z => by rw [d] at z; cases z⟩
  keep := fun i h h' st k => st.at fun o e => k it (by simp) o e
  item := by
    intro X hP hw hK hc i pins s σ H E I hf st hg
    subst hP hw hK
    obtain ⟨xs, x, hq, hx⟩ := hg
    obtain ⟨its, rv, p, hz⟩ := I.tuple hq
    obtain ⟨u, hu, ru⟩ := rv.get hx
    obtain ⟨f0, f1, f2, f3, f4, f5⟩ := hf it (by simp)
    refine wpAny_pyNext_tuple_item st (show s.heap.IsTuple a its.toArray from p) (x := u) (by simpa using hu) fun h' st' sb => ?_
    have I1 : Inv X pins σ H { s with heap := h' } := I.turned (t' := s.toks) (fun b o hb e => (sb.2 b hb).trans e) f0 f1 f3 f4 f5
    obtain ⟨o, e, c, d⟩ := id st'
    exact ⟨u, rfl, go_of (s := { s with heap := h' }) e c d (by decide) ⟨x, H, I1, ru, ⟨rfl, fun ys hy => by rw [I.tuple_inj hy hq]; exact hx⟩, st', fun b hb => (hf b hb).1⟩⟩
  done := by
    intro X hP hw hK hc i pins s σ H E I hf st hg
    subst hP hw hK
    obtain ⟨xs, hq, hx⟩ := hg
    obtain ⟨its, rv, p, hz⟩ := I.tuple hq
    obtain ⟨f0, f1, f2, f3, f4, f5⟩ := hf it (by simp)
    have hl := rv.length
    exact wpAny_pyNext_tuple_end (I.ok.hd hc) st (show s.heap.IsTuple a its.toArray from p) (by simp; (first | lia | omega)) fun h' eb => ⟨rfl, I.turned (t' := s.toks) (fun b o hb e => eb b o hb e) f0 f1 f3 f4 f5⟩
  self := fun _ _ _ _ _ st h => wpAny_pyIter_tupleiter st h
theorem turn_range {P : Program} {w : World} {K : PySem.W.Frag} {tg : Expr} (it : Addr) (lo : Int) (n : Nat) : Turn P w K tg (Itr lo n) [it] it (fun i h => IsRangeIter h it (lo + (i : Nat) * 1) ((n : Int) - (i : Nat)) 1) where
  mem := by simp
  obj := fun i h st b hb => by
    have e : b = it := by simpa using hb
    subst e
    exact ⟨_, st, fun v z => by
      have z' : Data.fields _ = Data.cell v := z
      cases z'⟩
  keep := fun i h h' st k => k it (by simp) _ st
  item := by
    intro X hP hw hK hc i pins s σ H E I hf st hg
    subst hP hw hK
    obtain ⟨f0, f1, f2, f3, f4, f5⟩ := hf it (by simp)
    have W := Walks.range (prog := X.prog) (w := X.w) (I.ok.hd hc) it lo 1 n
    refine W.item i s _ _ hg st fun v h' tk hv st' kk => ?_
    obtain ⟨t, rfl⟩ := hv
    have I1 : Inv X pins σ H { s with heap := h', toks := tk } := I.turned (fun b o hb e => kk b o (by simpa using hb) e) f0 f1 f3 f4 f5
    refine ⟨_, rfl, go_of (s := { s with heap := h', toks := tk }) (n := "range_iterator") st' rfl rfl (by decide) ⟨.int (lo + i), H, I1, ⟨t, ?_⟩, ⟨rfl, rfl⟩, st', fun b hb => (hf b hb).1⟩⟩
    rw [Int.mul_one]
  done := by
    intro X hP hw hK hc i pins s σ H E I hf st hg
    subst hP hw hK
    obtain ⟨f0, f1, f2, f3, f4, f5⟩ := hf it (by simp)
    exact wpAny_pyNext_range_end (I.ok.hd hc) st (by have : n ≤ i := hg; (first | lia | omega)) fun h' eb => ⟨rfl, I.turned (t' := s.toks) (fun b o hb e => eb b o hb e) f0 f1 f3 f4 f5⟩
  self := fun _ _ _ _ _ st h => wpAny_pyIter_rangeiter st h
end L2

namespace L2
open PySem PySem.Spec PyProof.Rows
section
variable {X : Cx} {tg : Expr}
def iList (K : PySem.W.Frag) (tl : TE) : TI := fun σ H R => tl σ H fun x H1 => ∃ a, x = .ref a ∧ (∃ xs, SqL K H1 a xs) ∧ R (Itl K a) H1
def iTup (K : PySem.W.Frag) (tl : TE) : TI := fun σ H R => tl σ H fun x H1 => ∃ a, x = .ref a ∧ (∃ xs, SqT K H1 a xs) ∧ R (Itt K a) H1
theorem pi_list {l : Expr} {tl : TE} (hl : PE X l tl) : PI X tg l (iList X.K tl) := by
  intro pins s σ H R I h
  refine thn (hl pins s σ H _ I h) fun v s1 ⟨x, H1, I1, r1, q1⟩ => ?_
  obtain ⟨a, e, ⟨xs, hq⟩, q⟩ := q1
  subst e
  cases r1
  obtain ⟨its, rv, p, hz⟩ := I1.list hq
  refine wpAny_pyIter_list p.isList ?_
  refine ⟨s1.heap.objs.size, [s1.heap.objs.size], _, _, H1, rfl, I1.kept (t' := s1.toks) fun b o e => Heap.get?_push_of_some _ e, turn_list a _, ⟨_, Heap.get?_push_size _ rfl, rfl, rfl⟩, fun b hb => ?_, q⟩
  have e : b = s1.heap.objs.size := by simpa using hb
  subst e
  exact I1.fpOk (Nat.le_refl _) (I1.hok.fresh (Nat.le_refl _))
theorem pi_tup {l : Expr} {tl : TE} (hl : PE X l tl) : PI X tg l (iTup X.K tl) := by
  intro pins s σ H R I h
  refine thn (hl pins s σ H _ I h) fun v s1 ⟨x, H1, I1, r1, q1⟩ => ?_
  obtain ⟨a, e, ⟨xs, hq⟩, q⟩ := q1
  subst e
  cases r1
  obtain ⟨its, rv, p, hz⟩ := I1.tuple hq
  refine wpAny_pyIter_tuple (show s1.heap.IsTuple a its.toArray from p) ?_
  refine ⟨s1.heap.objs.size, [s1.heap.objs.size], _, _, H1, rfl, I1.kept (t' := s1.toks) fun b o e => Heap.get?_push_of_some _ e, turn_tuple a _, ⟨_, Heap.get?_push_size _ rfl, rfl, rfl⟩, fun b hb => ?_, q⟩
  have e : b = s1.heap.objs.size := by simpa using hb
  subst e
  exact I1.fpOk (Nat.le_refl _) (I1.hok.fresh (Nat.le_refl _))
/-- a range object just made, walked -/
theorem range_it {pins : List (Addr × Obj)} {σ : St} {H : Hp} {s : Shared} {R : It → Hp → Prop} {E : Value → Shared → Prop} {lo hi : Int} {t u v : Tok} {tk : Nat} (I : Inv X pins σ H s) (h1 : -(2 ^ 62) ≤ lo) (h2 : lo < 2 ^ 62) (h3 : -(2 ^ 62) ≤ hi) (h4 : hi < 2 ^ 62)
    (q : R (Itr lo (hi - lo).toNat) H) : wpAny (model X.prog X.w) X.A (pyIter (.ref s.heap.objs.size)) (PIE X pins σ tg R) E { s with heap := s.heap.push { cls := .type "range", data := .fields #[.int lo t, .int hi u, .int 1 v] }, toks := tk } := by
  refine wpAny_pyIter_range (IsRange.new ..) (small_one h1 h2 h3 h4) ?_
  have I1 : Inv X pins σ H { s with heap := s.heap.push { cls := .type "range", data := .fields #[.int lo t, .int hi u, .int 1 v] }, toks := tk } := I.kept fun b o e => Heap.get?_push_of_some _ e
  refine ⟨(s.heap.push { cls := .type "range", data := .fields #[.int lo t, .int hi u, .int 1 v] }).objs.size, [(s.heap.push { cls := .type "range", data := .fields #[.int lo t, .int hi u, .int 1 v] }).objs.size], _, _, H, rfl,
    I1.kept (t' := tk) fun b o e => Heap.get?_push_of_some _ e, turn_range _ lo (hi - lo).toNat, ?_, fun b hb => ?_, q⟩
  · have e1 : lo + ((0 : Nat) : Int) * 1 = lo := by simp
    have e2 : (((hi - lo).toNat : Nat) : Int) - ((0 : Nat) : Int) = Builtin.Range.rangeSize lo hi 1 := by rw [rangeSize_one]; split <;> (first | lia | omega)
    show IsRangeIter _ _ (lo + ((0 : Nat) : Int) * 1) ((((hi - lo).toNat : Nat) : Int) - ((0 : Nat) : Int)) 1
    rw [e1, e2]
    exact Heap.get?_push_size _ rfl
  · have e : b = (s.heap.push { cls := .type "range", data := .fields #[.int lo t, .int hi u, .int 1 v] }).objs.size := by simpa using hb
    subst e
    exact I1.fpOk (Nat.le_refl _) (I1.hok.fresh (Nat.le_refl _))
def iRng1 (ta : TA) : TI := fun σ H R => ta σ H fun vs H1 => ∃ j : Int, vs = [.int j] ∧ -(2 ^ 62) ≤ j ∧ j < 2 ^ 62 ∧ R (Itr 0 j.toNat) H1
def iRng2 (ta : TA) : TI := fun σ H R => ta σ H fun vs H1 => ∃ i j : Int, vs = [.int i, .int j] ∧ (-(2 ^ 62) ≤ i ∧ i < 2 ^ 62 ∧ -(2 ^ 62) ≤ j ∧ j < 2 ^ 62) ∧ R (Itr i (j - i).toNat) H1
theorem pi_range1 {a : Expr} {ta : TA} {p pos : Pos} (hg : Gl X "range") (hm : X.mg "range" = none) (ha : PA X [a] ta) (hs : starEach [a] X.env = [(false, eval a X.env)] := by rfl) : PI X tg (.Call (.Name "range" p) [a] [] pos) (iRng1 ta) := by
  intro pins s σ H R I h
  refine Call_ (ld_blt I hg hm boot_range (PyProof.Rows.callWith_type1 (thn (ha pos pins s σ H _ I h) fun us s1 ⟨vs, H1, I1, r1, q1⟩ => ?_) hs rfl))
  obtain ⟨j, e, q1, q2, q⟩ := q1
  subst e
  cases r1 with
  | cons r rr =>
    cases rr
    obtain ⟨t, rfl⟩ := r
    exact call_range_1 (range_it I1 (by (first | lia | omega)) (by (first | lia | omega)) q1 q2 (by simpa using q))
theorem pi_range2 {a b : Expr} {ta : TA} {p pos : Pos} (hg : Gl X "range") (hm : X.mg "range" = none) (ha : PA X [a, b] ta) (hs : starEach [a, b] X.env = [(false, eval a X.env), (false, eval b X.env)] := by rfl) (hs2 : starEach [b] X.env = [(false, eval b X.env)] := by rfl) :
    PI X tg (.Call (.Name "range" p) [a, b] [] pos) (iRng2 ta) := by
  intro pins s σ H R I h
  refine Call_ (ld_blt I hg hm boot_range (PyProof.Rows.callWith_type1 (thn (ha pos pins s σ H _ I h) fun us s1 ⟨vs, H1, I1, r1, q1⟩ => ?_) (by rw [hs, hs2]) (by rw [hs2]; rfl)))
  obtain ⟨i, j, e, ⟨q1, q2, q3, q4⟩, q⟩ := q1
  subst e
  cases r1 with
  | cons r rr =>
    cases rr with
    | cons r' rr =>
      cases rr
      obtain ⟨t, rfl⟩ := r
      obtain ⟨t', rfl⟩ := r'
      exact call_range_2 (range_it I1 q1 q2 q3 q4 q)

/-! ### for -/
/-- W: the invariant by the turn and a measure; N: what the body is to reach -/
def tFor (wi : TI) (g : TG) (tb : TS) : TS := fun D σ H => wi σ H fun J H1 => ∃ W : Nat → Nat → St → Hp → Prop, (∃ m, W 0 m σ H1) ∧ ∀ i m σ H, W i m σ H →
  (J.stop i H ∧ D.nx σ H) ∨ (J.go i H ∧ ∃ N : St → Hp → Prop, (∀ σ' H', N σ' H' → ∃ m', m' < m ∧ W (i + 1) m' σ' H') ∧ ∀ x H', J.yld i H x H' → g x σ H' fun σ2 H2 => tb { D with nx := N, ct := N, bk := D.nx } σ2 H2)
/-- the records at fp as they stand -/
def pinsAt (fp : List Addr) (h : Heap) : List (Addr × Obj) := fp.filterMap fun b => (h.get? b).map fun o => (b, o)
theorem mem_pinsAt {fp : List Addr} {h : Heap} {b : Addr} {o : Obj} (hb : b ∈ fp) (e : h.get? b = some o) : (b, o) ∈ pinsAt fp h := List.mem_filterMap.mpr ⟨b, hb, by rw [e]; rfl⟩
theorem of_pinsAt {fp : List Addr} {h : Heap} {p : Addr × Obj} (hp : p ∈ pinsAt fp h) : p.1 ∈ fp ∧ h.get? p.1 = some p.2 := by
  obtain ⟨b, hb, e⟩ := List.mem_filterMap.mp hp
  cases q : h.get? b with
  | none => rw [q] at e; cases e
  | some o =>
    rw [q] at e
    have e' : (b, o) = p := Option.some.inj e
    subst e'
    exact ⟨hb, q⟩
theorem Inv.pinned {pins : List (Addr × Obj)} {σ : St} {H : Hp} {s : Shared} {fp : List Addr} (I : Inv X pins σ H s) (hf : ∀ b ∈ fp, FpOk X pins H b) (ho : ∀ b ∈ fp, ∃ o, s.heap.get? b = some o ∧ ∀ v, o.data ≠ .cell v) : Inv X (pins ++ pinsAt fp s.heap) σ H s :=
  I.pins_of fun p hp => (List.mem_append.mp hp).elim (fun z => I.pin p (List.mem_append_right _ z)) fun z => by
    obtain ⟨hb, e⟩ := of_pinsAt z
    obtain ⟨f0, f1, f2, _⟩ := hf p.1 hb
    obtain ⟨o, e', d⟩ := ho p.1 hb
    rw [e] at e'; cases e'
    exact ⟨e, f0, f1, f2, d⟩
theorem Inv.unpinned {pins pl : List (Addr × Obj)} {σ : St} {H : Hp} {s : Shared} (I : Inv X (pins ++ pl) σ H s) : Inv X pins σ H s := I.pins_of fun p hp => I.pin p (List.mem_append_right _ (List.mem_append_left _ hp))
theorem ps_for {iter : Expr} {body : List Stmt} {wi : TI} {g : TG} {tb : TS} {pos : Pos} (hp : PassesOwn (model X.prog X.w) X.A X.env X.xe) (hc : X.calm = true) (hi : PI X tg iter wi) (hg : PG X tg g) (hb : PSs X body tb)
    (hs : ∀ x, foldedSetIterable iter X.env x = pure x := by intro _; rfl) : PS X (.For tg iter body [] pos) (tFor wi g tb) := by
  intro pins s σ H D I h
  refine wpAny_For (thn (hi pins s σ H _ I h) fun v s1 h1 => thn h1 fun itv s2 h2 => ?_) hs
  obtain ⟨it, fp, tn, J, H2, e, I2, T, st2, f2, W, ⟨m0, w0⟩, turn⟩ := h2
  subst e
  have stat : ∀ {H' : Hp}, (∀ b ∈ fp, H' b = none) → ∀ b ∈ fp, FpOk X pins H' b := fun hn b hb => ⟨hn b hb, (f2 b hb).2⟩
  refine codeAny_forLoop_any (fun n s' => ∃ i σ' H', Inv X pins σ' H' s' ∧ tn i s'.heap ∧ (∀ b ∈ fp, H' b = none) ∧ W i n σ' H') ?_ m0 ⟨0, σ, H2, I2, st2, fun b hb => (f2 b hb).1, w0⟩
  rintro n s3 ⟨i, σ3, H3, I3, st3, fr3, w3⟩
  rcases turn i n σ3 H3 w3 with ⟨stop, qn⟩ | ⟨go, N, hN, step⟩
  · refine wpAny_passesOwn hp (thn (T.done X rfl rfl rfl hc i pins s3 σ3 H3 X.xe I3 (stat fr3) st3 stop) fun r s4 ⟨hr, I4⟩ => ?_)
    subst hr
    exact wpAny_execs_nil ⟨σ3, H3, I4, qn⟩
  · refine wpAny_passesOwn hp (thn (T.item X rfl rfl rfl hc i pins s3 σ3 H3 X.xe I3 (stat fr3) st3 go) fun r s4 ⟨u, hr, h4⟩ => ?_)
    subst hr
    refine wpAny_passesOwn hp (thn h4 fun _ s5 ⟨x, H5, I5, r5, y5, st5, fr5⟩ => ?_)
    have I5' := I5.pinned (stat fr5) (T.obj _ _ st5)
    refine wpAny_passesOwn hp (thn (hg _ s5 σ3 H5 x u _ I5' r5 (step x H5 y5)) fun _ s6 ⟨σ6, H6, I6, q6⟩ => ?_)
    refine wpAny_passesOwn hp (thn (hb _ s6 σ6 H6 _ I6 q6) fun f s7 q7 => ?_)
    have again : ∀ {σ7 : St} {H7 : Hp}, Inv X (pins ++ pinsAt fp s5.heap) σ7 H7 s7 → N σ7 H7 → ∃ m, m < n ∧ ∃ i σ' H', Inv X pins σ' H' s7 ∧ tn i s7.heap ∧ (∀ b ∈ fp, H' b = none) ∧ W i m σ' H' := fun {σ7 H7} I7 n7 => by
      obtain ⟨m', hm, w7⟩ := hN σ7 H7 n7
      refine ⟨m', hm, i + 1, σ7, H7, I7.unpinned, T.keep _ _ _ st5 fun b hb o e => (I7.pin (b, o) (List.mem_append_right _ (List.mem_append_right _ (mem_pinsAt hb e)))).1, fun b hb => ?_, w7⟩
      obtain ⟨o, e, d⟩ := T.obj _ _ st5 b hb
      exact (I7.pin (b, o) (List.mem_append_right _ (List.mem_append_right _ (mem_pinsAt hb e)))).2.1
    cases f with
    | next => obtain ⟨σ7, H7, I7, n7⟩ := q7; exact again I7 n7
    | cont => obtain ⟨σ7, H7, I7, n7⟩ := q7; exact again I7 n7
    | brk => obtain ⟨σ7, H7, I7, q7⟩ := q7; exact ⟨σ7, H7, I7.unpinned, q7⟩
    | ret v => obtain ⟨x7, σ7, H7, I7, r7, q7⟩ := q7; exact ⟨x7, σ7, H7, I7.unpinned, r7, q7⟩
end

/-! ### the forms one uses -/
/-- over a list that the body leaves as it is -/
theorem for_list {K : PySem.W.Frag} {a : Addr} {xs : List V} {g : TG} {tb : TS} {D : Ends} {σ : St} {H : Hp} (Pv : Nat → St → Hp → Prop) (h0 : Pv 0 σ H) (hl : ∀ i σ H, i ≤ xs.length → Pv i σ H → SqL K H a xs)
    (hs : ∀ i x σ H, xs[i]? = some x → Pv i σ H → g x σ H fun σ2 H2 => tb { D with nx := Pv (i + 1), ct := Pv (i + 1), bk := D.nx } σ2 H2) (hd : ∀ σ H, Pv xs.length σ H → D.nx σ H) :
    ∃ W : Nat → Nat → St → Hp → Prop, (∃ m, W 0 m σ H) ∧ ∀ i m σ H, W i m σ H →
      ((Itl K a).stop i H ∧ D.nx σ H) ∨ ((Itl K a).go i H ∧ ∃ N : St → Hp → Prop, (∀ σ' H', N σ' H' → ∃ m', m' < m ∧ W (i + 1) m' σ' H') ∧ ∀ x H', (Itl K a).yld i H x H' → g x σ H' fun σ2 H2 => tb { D with nx := N, ct := N, bk := D.nx } σ2 H2) := by
  refine ⟨fun i m σ H => m = xs.length - i ∧ i ≤ xs.length ∧ Pv i σ H, ⟨xs.length, by simp, Nat.zero_le _, h0⟩, ?_⟩
  rintro i m σ H ⟨rfl, hi, p⟩
  have q := hl i σ H hi p
  by_cases hlt : i < xs.length
  · refine .inr ⟨⟨xs, xs[i], q, by simp [hlt]⟩, Pv (i + 1), fun σ' H' p' => ⟨xs.length - (i + 1), by (first | lia | omega), rfl, hlt, p'⟩, fun x H' y => ?_⟩
    obtain ⟨e, y⟩ := y
    subst e
    exact hs i x σ _ (y xs q) p
  · have e : i = xs.length := by (first | lia | omega)
    subst e
    exact .inl ⟨⟨xs, q, Nat.le_refl _⟩, hd σ H p⟩
theorem for_tup {K : PySem.W.Frag} {a : Addr} {xs : List V} {g : TG} {tb : TS} {D : Ends} {σ : St} {H : Hp} (Pv : Nat → St → Hp → Prop) (h0 : Pv 0 σ H) (hl : ∀ i σ H, i ≤ xs.length → Pv i σ H → SqT K H a xs)
    (hs : ∀ i x σ H, xs[i]? = some x → Pv i σ H → g x σ H fun σ2 H2 => tb { D with nx := Pv (i + 1), ct := Pv (i + 1), bk := D.nx } σ2 H2) (hd : ∀ σ H, Pv xs.length σ H → D.nx σ H) :
    ∃ W : Nat → Nat → St → Hp → Prop, (∃ m, W 0 m σ H) ∧ ∀ i m σ H, W i m σ H →
      ((Itt K a).stop i H ∧ D.nx σ H) ∨ ((Itt K a).go i H ∧ ∃ N : St → Hp → Prop, (∀ σ' H', N σ' H' → ∃ m', m' < m ∧ W (i + 1) m' σ' H') ∧ ∀ x H', (Itt K a).yld i H x H' → g x σ H' fun σ2 H2 => tb { D with nx := N, ct := N, bk := D.nx } σ2 H2) := by
  refine ⟨fun i m σ H => m = xs.length - i ∧ i ≤ xs.length ∧ Pv i σ H, ⟨xs.length, by simp, Nat.zero_le _, h0⟩, ?_⟩
  rintro i m σ H ⟨rfl, hi, p⟩
  have q := hl i σ H hi p
  by_cases hlt : i < xs.length
  · refine .inr ⟨⟨xs, xs[i], q, by simp [hlt]⟩, Pv (i + 1), fun σ' H' p' => ⟨xs.length - (i + 1), by (first | lia | omega), rfl, hlt, p'⟩, fun x H' y => ?_⟩
    obtain ⟨e, y⟩ := y
    subst e
    exact hs i x σ _ (y xs q) p
  · have e : i = xs.length := by (first | lia | omega)
    subst e
    exact .inl ⟨⟨xs, q, Nat.le_refl _⟩, hd σ H p⟩
theorem for_range {lo : Int} {n : Nat} {g : TG} {tb : TS} {D : Ends} {σ : St} {H : Hp} (Pv : Nat → St → Hp → Prop) (h0 : Pv 0 σ H)
    (hs : ∀ i σ H, i < n → Pv i σ H → g (.int (lo + i)) σ H fun σ2 H2 => tb { D with nx := Pv (i + 1), ct := Pv (i + 1), bk := D.nx } σ2 H2) (hd : ∀ σ H, Pv n σ H → D.nx σ H) :
    ∃ W : Nat → Nat → St → Hp → Prop, (∃ m, W 0 m σ H) ∧ ∀ i m σ H, W i m σ H →
      ((Itr lo n).stop i H ∧ D.nx σ H) ∨ ((Itr lo n).go i H ∧ ∃ N : St → Hp → Prop, (∀ σ' H', N σ' H' → ∃ m', m' < m ∧ W (i + 1) m' σ' H') ∧ ∀ x H', (Itr lo n).yld i H x H' → g x σ H' fun σ2 H2 => tb { D with nx := N, ct := N, bk := D.nx } σ2 H2) := by
  refine ⟨fun i m σ H => m = n - i ∧ i ≤ n ∧ Pv i σ H, ⟨n, by simp, Nat.zero_le _, h0⟩, ?_⟩
  rintro i m σ H ⟨rfl, hi, p⟩
  by_cases hlt : i < n
  · refine .inr ⟨hlt, Pv (i + 1), fun σ' H' p' => ⟨n - (i + 1), by (first | lia | omega), rfl, hlt, p'⟩, fun x H' y => ?_⟩
    obtain ⟨e, y⟩ := y
    subst e y
    exact hs i σ _ hlt p
  · have e : i = n := by (first | lia | omega)
    subst e
    exact .inl ⟨Nat.le_refl _, hd σ H p⟩
/-- while, by a word and a measure of the state -/
theorem while_by {c : TT} {tb : TS} {D : Ends} {σ : St} {H : Hp} (Pv : St → Hp → Prop) (μ : St → Hp → Nat) (h0 : Pv σ H)
    (hs : ∀ σ H, Pv σ H → c σ H fun b H1 => if b = true then tb { D with nx := fun σ' H' => Pv σ' H' ∧ μ σ' H' < μ σ H, ct := fun σ' H' => Pv σ' H' ∧ μ σ' H' < μ σ H, bk := D.nx } σ H1 else D.nx σ H1)
    (mono : ∀ σ H Q Q', (∀ b H1, Q b H1 → Q' b H1) → c σ H Q → c σ H Q') : tWhile c tb D σ H := by
  refine ⟨fun m σ H => m = μ σ H ∧ Pv σ H, ⟨_, rfl, h0⟩, ?_⟩
  rintro m σ H ⟨rfl, p⟩
  refine mono σ H _ _ (fun b H1 q => ?_) (hs σ H p)
  cases b with
  | true => exact ⟨_, fun σ' H' ⟨p', l⟩ => ⟨_, l, rfl, p'⟩, q⟩
  | false => exact q
end L2

namespace L2
open PySem PySem.Spec PyProof.Rows

abbrev R2 := V → V → Hp → VK → Prop
/-- a two-place operation on values: f is binaryOp op, inplaceOp op or compareOp op -/
def OpR (X : Cx) (f : Value → Value → Sem Value) (r : R2) : Prop :=
  ∀ (pins : List (Addr × Obj)) (s : Shared) (σ : St) (H : Hp) (x y : V) (v u : Value) (Q : VK), Inv X pins σ H s → RelV x v → RelV y u → r x y H Q →
    wpAny (model X.prog X.w) X.A (f v u) (EP X pins σ Q) X.xe s
/-- a one-place operation -/
def UnR (X : Cx) (f : Value → Sem Value) (r : V → Hp → VK → Prop) : Prop :=
  ∀ (pins : List (Addr × Obj)) (s : Shared) (σ : St) (H : Hp) (x : V) (v : Value) (Q : VK), Inv X pins σ H s → RelV x v → r x H Q →
    wpAny (model X.prog X.w) X.A (f v) (EP X pins σ Q) X.xe s
/-- a call of a value that is known (a builtin, a type) with values -/
def CallR (X : Cx) (f : Value) (r : List V → Hp → VK → Prop) : Prop :=
  ∀ (pins : List (Addr × Obj)) (s : Shared) (σ : St) (H : Hp) (xs : List V) (us : List Value) (Q : VK), Inv X pins σ H s → Vals xs us → r xs H Q →
    wpAny (model X.prog X.w) X.A (call f us) (EP X pins σ Q) X.xe s
/-- a value's truth -/
def TruR (X : Cx) (r : V → Hp → (Bool → Hp → Prop) → Prop) : Prop :=
  ∀ (pins : List (Addr × Obj)) (s : Shared) (σ : St) (H : Hp) (x : V) (v : Value) (Q : Bool → Hp → Prop), Inv X pins σ H s → RelV x v → r x H Q →
    wpAny (model X.prog X.w) X.A (truthy v) (TP X pins σ Q) X.xe s

def tOp (r : R2) (ta tb : TE) : TE := fun σ H Q => ta σ H fun x H1 => tb σ H1 fun y H2 => r x y H2 Q
def tUn (r : V → Hp → VK → Prop) (ta : TE) : TE := fun σ H Q => ta σ H fun x H1 => r x H1 Q
/-- ints in, under C, and a value out -/
def rI (C : Int → Int → Prop) (g : Int → Int → V) : R2 := fun x y H Q => ∃ i j, x = .int i ∧ y = .int j ∧ C i j ∧ Q (g i j) H
def rI0 (g : Int → Int → V) : R2 := fun x y H Q => ∃ i j, x = .int i ∧ y = .int j ∧ Q (g i j) H
def rU (g : Int → V) : V → Hp → VK → Prop := fun x H Q => ∃ i, x = .int i ∧ Q (g i) H

section
variable {X : Cx} {a b c : Expr} {ta tb tc : TE} {pos : Pos}

theorem binT (ha : PE X a ta) (hb : PE X b tb) {pins : List (Addr × Obj)} {s : Shared} {σ : St} {H : Hp} {R : V → V → Hp → Prop} (I : Inv X pins σ H s)
    (h : ta σ H fun x H1 => tb σ H1 fun y H2 => R x y H2) {Q : Value → Shared → Prop} {f : Value → Value → Sem Value}
    (hf : ∀ v u s2 x y H2, Inv X pins σ H2 s2 → RelV x v → RelV y u → R x y H2 → wpAny (model X.prog X.w) X.A (f v u) Q X.xe s2) :
    wpAny (model X.prog X.w) X.A (eval a X.env) (fun v s₁ => wpAny (model X.prog X.w) X.A (eval b X.env) (fun u s₂ => wpAny (model X.prog X.w) X.A (f v u) Q X.xe s₂) X.xe s₁) X.xe s := by
  refine thn (ha pins s σ H _ I h) fun v s1 ⟨x, H1, I1, r1, q1⟩ => ?_
  refine thn (hb pins s1 σ H1 _ I1 q1) fun u s2 ⟨y, H2, I2, r2, q2⟩ => ?_
  exact hf v u s2 x y H2 I2 r1 r2 q2

theorem pe_op {op : Operator} {r : R2} (ho : OpR X (binaryOp op) r) (ha : PE X a ta) (hb : PE X b tb) : PE X (.BinOp a op b pos) (tOp r ta tb) := by
  intro pins s σ H Q I h
  exact wpAny_BinOp (binT ha hb I h fun v u s2 x y H2 I2 rx ry q => ho pins s2 σ H2 x y v u Q I2 rx ry q)
theorem pe_un {op : UnaryOp} {r : V → Hp → VK → Prop} (ho : UnR X (unaryOp op) r) (ha : PE X a ta) : PE X (.UnaryOp op a pos) (tUn r ta) := by
  intro pins s σ H Q I h
  exact UnaryOp_ (thn (ha pins s σ H _ I h) fun v s1 ⟨x, H1, I1, r1, q1⟩ => ho pins s1 σ H1 x v Q I1 r1 q1)
/-! ### ints -/
theorem opI {f : Value → Value → Sem Value} {C : Int → Int → Prop} {g : Int → Int → Int}
    (rule : ∀ (i j : Int) (t u : Tok) (s : Shared) (Q : Value → Shared → Prop) (E : Value → Shared → Prop), C i j → Q (.int (g i j) s.toks) { s with toks := s.toks + 1 } → wpAny (model X.prog X.w) X.A (f (.int i t) (.int j u)) Q E s) :
    OpR X f (rI C fun i j => .int (g i j)) := by
  intro pins s σ H x y v u Q I rx ry h
  obtain ⟨i, j, rfl, rfl, hc, q⟩ := h
  obtain ⟨t, rfl⟩ := rx
  obtain ⟨t', rfl⟩ := ry
  exact rule i j t t' s _ _ hc ⟨.int (g i j), H, I.tok _, ⟨_, rfl⟩, q⟩
theorem opI0 {f : Value → Value → Sem Value} {g : Int → Int → Int}
    (rule : ∀ (i j : Int) (t u : Tok) (s : Shared) (Q : Value → Shared → Prop) (E : Value → Shared → Prop), Q (.int (g i j) s.toks) { s with toks := s.toks + 1 } → wpAny (model X.prog X.w) X.A (f (.int i t) (.int j u)) Q E s) :
    OpR X f (rI0 fun i j => .int (g i j)) := by
  intro pins s σ H x y v u Q I rx ry h
  obtain ⟨i, j, rfl, rfl, q⟩ := h
  obtain ⟨t, rfl⟩ := rx
  obtain ⟨t', rfl⟩ := ry
  exact rule i j t t' s _ _ ⟨.int (g i j), H, I.tok _, ⟨_, rfl⟩, q⟩
theorem opB0 {f : Value → Value → Sem Value} {g : Int → Int → Bool}
    (rule : ∀ (i j : Int) (t u : Tok) (s : Shared) (Q : Value → Shared → Prop) (E : Value → Shared → Prop), Q (.bool (g i j)) s → wpAny (model X.prog X.w) X.A (f (.int i t) (.int j u)) Q E s) :
    OpR X f (rI0 fun i j => .bl (g i j)) := by
  intro pins s σ H x y v u Q I rx ry h
  obtain ⟨i, j, rfl, rfl, q⟩ := h
  obtain ⟨t, rfl⟩ := rx
  obtain ⟨t', rfl⟩ := ry
  exact rule i j t t' s _ _ ⟨.bl (g i j), H, I, rfl, q⟩

def CPow (i j : Int) : Prop := 0 ≤ j ∧ j ≤ 1000000 ∧ i.natAbs < 2 ^ 64
def CMul (i j : Int) : Prop := (-(2 ^ 64) < i ∧ i < 2 ^ 64) ∨ (-(2 ^ 64) < j ∧ j < 2 ^ 64)
theorem CMul.ok {i j : Int} (h : CMul i j) : IntMulOk i j := by
  rcases h with ⟨h1, h2⟩ | ⟨h1, h2⟩
  · exact .of_left (intBits_le_64 h1 h2)
  · exact .of_right (intBits_le_64 h1 h2)
theorem op_add : OpR X (binaryOp .Add) (rI0 fun i j => .int (i + j)) := opI0 fun _ _ _ _ _ _ _ q => add_int q
theorem op_mul : OpR X (binaryOp .Mult) (rI CMul fun i j => .int (i * j)) := opI fun _ _ _ _ _ _ _ hc q => mul_int q hc.ok
/-- % by a positive divisor of any size -/
theorem op_mod : OpR X (binaryOp .Mod) (rI (fun _ j => 0 < j) fun i j => .int (i % j)) := opI fun i j _ _ _ _ _ hc q => by
  have h1 : (0 : Int) < j := hc
  exact mod_int' (by (first | lia | omega)) (by rw [Int.fmod_eq_emod_of_nonneg i (by (first | lia | omega))]; exact q)
theorem op_pow : OpR X (binaryOp .Pow) (rI CPow fun i j => .int (i ^ j.toNat)) := opI fun _ _ _ _ _ _ _ hc q => pow_int_small hc.1 hc.2.1 hc.2.2 q
theorem unI {f : Value → Sem Value} {g : Int → Int}
    (rule : ∀ (i : Int) (t : Tok) (s : Shared) (Q : Value → Shared → Prop) (E : Value → Shared → Prop), Q (.int (g i) s.toks) { s with toks := s.toks + 1 } → wpAny (model X.prog X.w) X.A (f (.int i t)) Q E s) :
    UnR X f (rU fun i => .int (g i)) := by
  intro pins s σ H x v Q I rx h
  obtain ⟨i, rfl, q⟩ := h
  obtain ⟨t, rfl⟩ := rx
  exact rule i t s _ _ ⟨.int (g i), H, I.tok _, ⟨_, rfl⟩, q⟩
theorem un_neg : UnR X (unaryOp .USub) (rU fun i => .int (-i)) := unI fun _ _ _ _ _ q => neg_int q
/-! ### bools among ints: n += (a < b) -/
end

/-! ### comparisons -/
/-- the scalars that == tells apart as data does -/
def scal : V → V → Bool
  | .non, .non => true | .non, .int _ => true | .int _, .non => true | .non, .bl _ => true | .bl _, .non => true | .non, .str _ => true | .str _, .non => true
  | .int _, .int _ => true | .bl _, .bl _ => true | .str _, .str _ => true | .byt _, .byt _ => true
  | .int _, .str _ => true | .str _, .int _ => true | .bl _, .str _ => true | .str _, .bl _ => true
  | _, _ => false
def rEq : R2 := fun x y H Q => scal x y = true ∧ Q (.bl (decide (x = y))) H
def rNe : R2 := fun x y H Q => scal x y = true ∧ Q (.bl (!decide (x = y))) H

theorem dec_int {i j : Int} : decide (V.int i = V.int j) = (i == j) := by
  rw [Bool.eq_iff_iff]
  simp
theorem dec_bl {i j : Bool} : decide (V.bl i = V.bl j) = (i == j) := by
  rw [Bool.eq_iff_iff]
  simp
theorem dec_str {i j : Str} : decide (V.str i = V.str j) = (i == j) := by
  rw [Bool.eq_iff_iff]
  simp
theorem dec_byt {i j : Array UInt8} : decide (V.byt i = V.byt j) = (i.toList == j.toList) := by
  rw [Bool.eq_iff_iff]
  cases i
  cases j
  simp

section
variable {X : Cx} {a b c : Expr} {ta tb tc : TE} {pos : Pos}
theorem fin_bl {pins : List (Addr × Obj)} {σ : St} {H : Hp} {s : Shared} {Q : VK} {k k' : Bool} (I : Inv X pins σ H s) (q : Q (.bl k) H) (e : k = k') : EP X pins σ Q (.bool k') s := by
  subst e
  exact ⟨.bl k, H, I, rfl, q⟩
theorem op_eq : OpR X (compareOp .Eq) rEq := by
  intro pins s σ H x y v u Q I rx ry h
  obtain ⟨hs, q⟩ := h
  cases x with
  | non =>
    cases rx
    cases y with
    | non => cases ry; exact PySem.EqNone.eq_none_none (fin_bl I q (by simp))
    | bl j => cases ry; exact PySem.EqNone.eq_none_bool (fin_bl I q (by simp))
    | int j => obtain ⟨t', rfl⟩ := ry; exact PySem.EqNone.eq_none_int (fin_bl I q (by simp))
    | str j => obtain ⟨t', rfl⟩ := ry; exact PySem.EqNone.eq_none_str (fin_bl I q (by simp))
    | _ => exact absurd (show false = true from hs) Bool.false_ne_true
  | bl i =>
    cases rx
    cases y with
    | non => cases ry; exact PySem.EqNone.eq_bool_none (fin_bl I q (by simp))
    | bl j => cases ry; exact eq_bool (fin_bl I q dec_bl)
    | str j => obtain ⟨t', rfl⟩ := ry; exact PySem.EqMixed.eq_bool_str (fin_bl I q (by simp))
    | _ => exact absurd (show false = true from hs) Bool.false_ne_true
  | int i =>
    obtain ⟨t, rfl⟩ := rx
    cases y with
    | non => cases ry; exact PySem.EqNone.eq_int_none (fin_bl I q (by simp))
    | int j => obtain ⟨t', rfl⟩ := ry; exact eq_int (fin_bl I q dec_int)
    | str j => obtain ⟨t', rfl⟩ := ry; exact PySem.EqMixed.eq_int_str (fin_bl I q (by simp))
    | _ => exact absurd (show false = true from hs) Bool.false_ne_true
  | str i =>
    obtain ⟨t, rfl⟩ := rx
    cases y with
    | non => cases ry; exact PySem.EqNone.eq_str_none (fin_bl I q (by simp))
    | bl j => cases ry; exact PySem.EqMixed.eq_str_bool (fin_bl I q (by simp))
    | int j => obtain ⟨t', rfl⟩ := ry; exact PySem.EqMixed.eq_str_int (fin_bl I q (by simp))
    | str j => obtain ⟨t', rfl⟩ := ry; exact eq_str (fin_bl I q dec_str)
    | _ => exact absurd (show false = true from hs) Bool.false_ne_true
  | byt i =>
    obtain ⟨t, rfl⟩ := rx
    cases y with
    | byt j => obtain ⟨t', rfl⟩ := ry; exact PySem.W.eq_bytes (fin_bl I q dec_byt)
    | _ => exact absurd (show false = true from hs) Bool.false_ne_true
  | _ => cases y <;> exact absurd (show false = true from hs) Bool.false_ne_true
theorem op_ne : OpR X (compareOp .NotEq) rNe := by
  intro pins s σ H x y v u Q I rx ry h
  obtain ⟨hs, q⟩ := h
  cases x with
  | non =>
    cases rx
    cases y with
    | non => cases ry; exact PySem.EqNone.ne_none_none (fin_bl I q (by simp))
    | bl j => cases ry; exact PySem.EqNone.ne_none_bool (fin_bl I q (by simp))
    | int j => obtain ⟨t', rfl⟩ := ry; exact PySem.EqNone.ne_none_int (fin_bl I q (by simp))
    | str j => obtain ⟨t', rfl⟩ := ry; exact PySem.EqNone.ne_none_str (fin_bl I q (by simp))
    | _ => exact absurd (show false = true from hs) Bool.false_ne_true
  | bl i =>
    cases rx
    cases y with
    | non => cases ry; exact PySem.EqNone.ne_bool_none (fin_bl I q (by simp))
    | bl j => cases ry; exact ne_bool (fin_bl I q (congrArg not dec_bl))
    | str j => obtain ⟨t', rfl⟩ := ry; exact PySem.EqMixed.ne_bool_str (fin_bl I q (by simp))
    | _ => exact absurd (show false = true from hs) Bool.false_ne_true
  | int i =>
    obtain ⟨t, rfl⟩ := rx
    cases y with
    | non => cases ry; exact PySem.EqNone.ne_int_none (fin_bl I q (by simp))
    | int j => obtain ⟨t', rfl⟩ := ry; exact ne_int (fin_bl I q (congrArg not dec_int))
    | str j => obtain ⟨t', rfl⟩ := ry; exact PySem.EqMixed.ne_int_str (fin_bl I q (by simp))
    | _ => exact absurd (show false = true from hs) Bool.false_ne_true
  | str i =>
    obtain ⟨t, rfl⟩ := rx
    cases y with
    | non => cases ry; exact PySem.EqNone.ne_str_none (fin_bl I q (by simp))
    | bl j => cases ry; exact PySem.EqMixed.ne_str_bool (fin_bl I q (by simp))
    | int j => obtain ⟨t', rfl⟩ := ry; exact PySem.EqMixed.ne_str_int (fin_bl I q (by simp))
    | str j => obtain ⟨t', rfl⟩ := ry; exact ne_str (fin_bl I q (congrArg not dec_str))
    | _ => exact absurd (show false = true from hs) Bool.false_ne_true
  | byt i =>
    obtain ⟨t, rfl⟩ := rx
    cases y with
    | byt j => obtain ⟨t', rfl⟩ := ry; exact PySem.W.ne_bytes (fin_bl I q (congrArg not dec_byt))
    | _ => exact absurd (show false = true from hs) Bool.false_ne_true
  | _ => cases y <;> exact absurd (show false = true from hs) Bool.false_ne_true

theorem op_lt : OpR X (compareOp .Lt) (rI0 fun i j => .bl (decide (i < j))) := opB0 fun _ _ _ _ _ _ _ q => lt_int q
theorem op_le : OpR X (compareOp .LtE) (rI0 fun i j => .bl (decide (i ≤ j))) := opB0 fun _ _ _ _ _ _ _ q => le_int q
theorem op_gt : OpR X (compareOp .Gt) (rI0 fun i j => .bl (decide (j < i))) := opB0 fun _ _ _ _ _ _ _ q => gt_int q
theorem op_ge : OpR X (compareOp .GtE) (rI0 fun i j => .bl (decide (j ≤ i))) := opB0 fun _ _ _ _ _ _ _ q => ge_int q
theorem nomark (b : Expr) {op : CmpOp} (h : op ≠ .In := by decide) (h2 : op ≠ .NotIn := by decide) : behindInMarks op b = false := by
  have e1 : (op == CmpOp.In) = false := by cases op <;> first | rfl | exact absurd rfl h
  have e2 : (op == CmpOp.NotIn) = false := by cases op <;> first | rfl | exact absurd rfl h2
  cases b <;> simp [behindInMarks, e1, e2]
/-- a comparison as a value; hm: nomark b, or (for in, not in) by with_unfolding_all rfl -/
theorem pe_cmpR {op : CmpOp} {r : R2} (ho : OpR X (compareOp op) r) (ha : PE X a ta) (hb : PE X b tb) (hm : behindInMarks op b = false) : PE X (.Compare a [op] [b] pos) (tOp r ta tb) := by
  intro pins s σ H Q I h
  exact wpAny_Compare1 (binT ha hb I h fun v u s2 x y H2 I2 rx ry q => ho pins s2 σ H2 x y v u Q I2 rx ry q) hm
/-- a reading of a value as a test -/
def tTest (t : TE) : TT := fun σ H Q => t σ H fun x H' => ∃ k, x = .bl k ∧ Q k H'
theorem pt_cmpR {op : CmpOp} {r : R2} (ho : OpR X (compareOp op) r) (ha : PE X a ta) (hb : PE X b tb) (hm : behindInMarks op b = false) : PT X (.Compare a [op] [b] pos) (tTest (tOp r ta tb)) := by
  intro pins s σ H Q I h
  refine wpAny_isTrue_Compare1 (thn (ha pins s σ H _ I h) fun v s1 ⟨x, H1, I1, r1, q1⟩ => thn (hb pins s1 σ H1 _ I1 q1) fun u s2 ⟨y, H2, I2, r2, q2⟩ =>
    thn (ho pins s2 σ H2 x y v u _ I2 r1 r2 q2) fun c s3 ⟨z, H3, I3, r3, k, e, q3⟩ => ?_) hm
  subst e
  cases r3
  exact wpAny_truthy_bool ⟨H3, I3, q3⟩
/-- a op1 b op2 c -/
def tChain (r r' : R2) (ta tb tc : TE) : TE := fun σ H Q => ta σ H fun x H1 => tb σ H1 fun y H2 => r x y H2 fun z H3 => ∃ k, z = .bl k ∧
  (if k = true then tc σ H3 fun w' H4 => r' y w' H4 Q else Q (.bl false) H3)
theorem pe_chain {op op' : CmpOp} {r r' : R2} (ho : OpR X (compareOp op) r) (ho' : OpR X (compareOp op') r') (ha : PE X a ta) (hb : PE X b tb) (hc : PE X c tc)
    (hm : lastMarks [op, op'] [b, c] = false := by with_unfolding_all rfl) : PE X (.Compare a [op, op'] [b, c] pos) (tChain r r' ta tb tc) := by
  intro pins s σ H Q I h
  refine Compare_chain (thn (ha pins s σ H _ I h) fun v s1 ⟨x, H1, I1, r1, q1⟩ => chain_link (thn (hb pins s1 σ H1 _ I1 q1) fun u s2 ⟨y, H2, I2, r2, q2⟩ =>
    thn (ho pins s2 σ H2 x y v u _ I2 r1 r2 q2) fun d s3 ⟨z, H3, I3, r3, k, e, q3⟩ => ?_)) hm
  subst e
  cases r3
  refine wpAny_truthy_bool ?_
  cases k with
  | false => exact ite_ff ⟨.bl false, H3, I3, rfl, q3⟩
  | true => exact ite_tt (chain_last (thn (hc pins s3 σ H3 _ I3 q3) fun w' s4 ⟨z', H4, I4, r4, q4⟩ => ho' pins s4 σ H4 y z' u w' Q I4 r2 r4 q4))
theorem pt_chain {op op' : CmpOp} {r r' : R2} (ho : OpR X (compareOp op) r) (ho' : OpR X (compareOp op') r') (ha : PE X a ta) (hb : PE X b tb) (hc : PE X c tc)
    (hm : lastMarks [op, op'] [b, c] = false := by with_unfolding_all rfl) : PT X (.Compare a [op, op'] [b, c] pos) (tTest (tChain r r' ta tb tc)) := by
  intro pins s σ H Q I h
  refine isTrue_chain (thn (ha pins s σ H _ I h) fun v s1 ⟨x, H1, I1, r1, q1⟩ => test_link (thn (hb pins s1 σ H1 _ I1 q1) fun u s2 ⟨y, H2, I2, r2, q2⟩ =>
    thn (ho pins s2 σ H2 x y v u _ I2 r1 r2 q2) fun d s3 ⟨z, H3, I3, r3, k, e, q3⟩ => ?_)) hm
  subst e
  cases r3
  refine wpAny_truthy_bool ?_
  cases k with
  | false =>
    obtain ⟨k', e', q'⟩ := q3
    cases e'
    exact ite_ff ⟨H3, I3, q'⟩
  | true =>
    refine ite_tt (test_last (thn (hc pins s3 σ H3 _ I3 q3) fun w' s4 ⟨z', H4, I4, r4, q4⟩ => thn (ho' pins s4 σ H4 y z' u w' _ I4 r2 r4 q4) fun d' s5 ⟨z2, H5, I5, r5, k2, e2, q5⟩ => ?_))
    subst e2
    cases r5
    exact wpAny_truthy_bool ⟨H5, I5, q5⟩

/-! ### truth -/
/-- a value's truth by the abstract heap -/
def TruV (K : PySem.W.Frag) (x : V) (H : Hp) (k : Bool) : Prop :=
  match x with
  | .non => k = false
  | .bl b => k = b
  | .int i => k = (i != 0)
  | .str y => y.length ≤ sizeLine ∧ k = ((y.length : Int) != 0)
  | .byt y => y.size ≤ sizeLine ∧ k = ((y.size : Int) != 0)
  | .ref p => (∃ xs, SqL K H p xs ∧ k = !xs.isEmpty) ∨ (∃ xs, SqT K H p xs ∧ k = !xs.isEmpty) ∨ ∃ kvs, H p = some (.dK kvs) ∧ k = !kvs.isEmpty
  | _ => False
theorem isEmpty_kv {κ : Type} {kvs : List (κ × V)} {vs : List (κ × Value)} (r : KV kvs vs) : (!vs.isEmpty) = !kvs.isEmpty := by
  cases r <;> rfl
theorem isEmpty_of {xs : List V} {its : List Value} (r : Vals xs its) : (!its.toArray.isEmpty) = !xs.isEmpty := by
  cases r <;> simp
theorem line63 : (sizeLine : Nat) < 2 ^ 63 := by rw [sizeLine_eq]; decide
theorem tru_ok : TruR X (fun x H Q => ∃ k, TruV X.K x H k ∧ Q k H) := by
  intro pins s σ H x v Q I rx h
  obtain ⟨k, e, q⟩ := h
  have hl := line63
  have hs : sizeLine = 16777216 := sizeLine_eq
  cases x with
  | non =>
    cases rx
    have e' : k = false := e
    subst e'
    exact truthy_none ⟨H, I, q⟩
  | bl b =>
    cases rx
    have e' : k = b := e
    subst e'
    exact wpAny_truthy_bool ⟨H, I, q⟩
  | int i =>
    obtain ⟨t, rfl⟩ := rx
    have e' : k = (i != 0) := e
    subst e'
    exact PySem.P.truthy_int ⟨H, I, q⟩
  | str y =>
    obtain ⟨t, rfl⟩ := rx
    obtain ⟨hy, e'⟩ : y.length ≤ sizeLine ∧ k = ((y.length : Int) != 0) := e
    subst e'
    exact PySem.P.truthy_str (by (first | lia | omega)) ⟨H, I.tok _, q⟩
  | byt y =>
    obtain ⟨t, rfl⟩ := rx
    obtain ⟨hy, e'⟩ : y.size ≤ sizeLine ∧ k = ((y.size : Int) != 0) := e
    subst e'
    exact PySem.W.truthy_bytes (by (first | lia | omega)) ⟨H, I.tok _, q⟩
  | ref p =>
    cases rx
    have e' : (∃ xs, SqL X.K H p xs ∧ k = !xs.isEmpty) ∨ (∃ xs, SqT X.K H p xs ∧ k = !xs.isEmpty) ∨ ∃ kvs, H p = some (.dK kvs) ∧ k = !kvs.isEmpty := e
    rcases e' with ⟨xs, hx, e'⟩ | ⟨xs, hx, e'⟩ | ⟨kvs, hx, e'⟩
    · subst e'
      obtain ⟨its, r, pl, hz⟩ := I.list hx
      have hlen := r.length
      exact wpAny_truthy_list pl.isList (by simp only [List.size_toArray]; (first | lia | omega)) ⟨H, I.tok _, by rw [isEmpty_of r]; exact q⟩
    · subst e'
      obtain ⟨its, r, pl, hz⟩ := I.tuple hx
      have hlen := r.length
      exact truthy_tuple pl (by simp only [List.size_toArray]; (first | lia | omega)) ⟨H, I.tok _, by rw [isEmpty_of r]; exact q⟩
    · subst e'
      obtain ⟨hz, hS, vs, r, m⟩ : kvs.length ≤ sizeLine ∧ (p == sysModules) = false ∧ ∃ vs, KV kvs vs ∧ s.heap.DictOf (mixKind X.prog X.w) p vs := I.hok p _ hx
      have hlen : kvs.length = vs.length := Paired.length r
      exact wpAny_truthy_dict hS m (by (first | lia | omega)) ⟨H, I.tok _, by rw [isEmpty_kv r]; exact q⟩
  | _ => exact (show False from e).elim
/-- any expression whose test is its value's truth (a name, a call, a subscript, a field ..: he by fun _ => rfl) -/
theorem pt_truth (ha : PE X a ta) (he : ∀ whole, isTrue a X.env whole = (do let v ← whole; standAt a.pos; holding [v] (truthy v))) :
    PT X a (fun σ H Q => ta σ H fun x H' => ∃ k, TruV X.K x H' k ∧ Q k H') := by
  intro pins s σ H Q I h
  exact isTrue_plain (thn (ha pins s σ H _ I h) fun v s1 ⟨x, H1, I1, r1, q1⟩ => tru_ok pins s1 σ H1 x v Q I1 r1 q1) (he _)

/-! ### strs and bytes -/
theorem op_add_str : OpR X (binaryOp .Add) (fun x y H Q => ∃ i j, x = .str i ∧ y = .str j ∧ i.length + j.length ≤ sizeLine ∧ Q (.str (i ++ j)) H) := by
  intro pins s σ H x y v u Q I rx ry h
  obtain ⟨i, j, rfl, rfl, hz, q⟩ := h
  obtain ⟨t, rfl⟩ := rx
  obtain ⟨t', rfl⟩ := ry
  exact add_str (fun t' tk => ⟨.str (i ++ j), H, I.tok _, ⟨_, rfl⟩, q⟩) hz
/-! ### scalar builtins, by CallR -/
theorem vals1 {x : V} {us : List Value} (r : Vals [x] us) : ∃ u, us = [u] ∧ RelV x u := by
  cases r with
  | cons r1 r2 => cases r2; exact ⟨_, rfl, r1⟩
theorem vals2 {x y : V} {us : List Value} (r : Vals [x, y] us) : ∃ u w', us = [u, w'] ∧ RelV x u ∧ RelV y w' := by
  cases r with
  | cons r1 r2 =>
    cases r2 with
    | cons r3 r4 => cases r4; exact ⟨_, _, rfl, r1, r3⟩
theorem call_int1 : CallR X (.type "int") (fun xs H Q => (∃ i, xs = [.int i] ∧ Q (.int i) H) ∨ ∃ k, xs = [.bl k] ∧ Q (.int (if k then 1 else 0)) H) := by
  intro pins s σ H xs us Q I r h
  rcases h with ⟨i, rfl, q⟩ | ⟨k, rfl, q⟩
  · obtain ⟨u, rfl, t, rfl⟩ := vals1 r
    exact call_int_int ⟨.int i, H, I, ⟨_, rfl⟩, q⟩
  · obtain ⟨u, rfl, r1⟩ := vals1 r
    cases r1
    exact call_int_bool ⟨.int (if k then 1 else 0), H, I.tok _, ⟨_, rfl⟩, q⟩
theorem call_str_int : CallR X (.type "str") (fun xs H Q => ∃ i, xs = [.int i] ∧ i.natAbs.log2 < 1920 ∧ Q (.str (toString i)) H) := by
  intro pins s σ H xs us Q I r h
  obtain ⟨i, rfl, hz, q⟩ := h
  obtain ⟨u, rfl, t, rfl⟩ := vals1 r
  exact PySem.P.str_of_int hz ⟨.str _, H, I.tok _, ⟨_, rfl⟩, q⟩
/-- len of a str, a bytes, a list, a tuple -/
def LenV (K : PySem.W.Frag) (x : V) (H : Hp) (n : Nat) : Prop :=
  match x with
  | .str y => y.length ≤ sizeLine ∧ n = y.length
  | .byt y => y.size ≤ sizeLine ∧ n = y.size
  | .ref p => (∃ xs, SqL K H p xs ∧ n = xs.length) ∨ ∃ xs, SqT K H p xs ∧ n = xs.length
  | _ => False
theorem call_len : CallR X (.builtin "len") (fun xs H Q => ∃ x n, xs = [x] ∧ LenV X.K x H n ∧ Q (.int n) H) := by
  intro pins s σ H xs us Q I r h
  obtain ⟨x, n, rfl, e, q⟩ := h
  obtain ⟨u, rfl, rx⟩ := vals1 r
  have hl := line63
  have hs : sizeLine = 16777216 := sizeLine_eq
  cases x with
  | str y =>
    obtain ⟨t, rfl⟩ := rx
    obtain ⟨hy, e'⟩ : y.length ≤ sizeLine ∧ n = y.length := e
    subst e'
    exact len_str (by (first | lia | omega)) ⟨.int _, H, I.tok _, ⟨_, rfl⟩, q⟩
  | byt y =>
    obtain ⟨t, rfl⟩ := rx
    obtain ⟨hy, e'⟩ : y.size ≤ sizeLine ∧ n = y.size := e
    subst e'
    exact PySem.W.len_bytes (by (first | lia | omega)) ⟨.int _, H, I.tok _, ⟨_, rfl⟩, q⟩
  | ref p =>
    cases rx
    have e' : (∃ xs, SqL X.K H p xs ∧ n = xs.length) ∨ ∃ xs, SqT X.K H p xs ∧ n = xs.length := e
    rcases e' with ⟨xs, hx, e'⟩ | ⟨xs, hx, e'⟩
    · subst e'
      obtain ⟨its, r', pl, hz⟩ := I.list hx
      have hlen := r'.length
      exact Calls.call_len_list pl.isList (by simp only [List.size_toArray]; (first | lia | omega)) ⟨.int xs.length, H, I.tok _, ⟨_, by simp only [List.size_toArray]; rw [hlen]⟩, q⟩
    · subst e'
      obtain ⟨its, r', pl, hz⟩ := I.tuple hx
      have hlen := r'.length
      exact len_tuple pl (by simp only [List.size_toArray]; (first | lia | omega)) ⟨.int xs.length, H, I.tok _, ⟨_, by simp only [List.size_toArray]; rw [hlen]⟩, q⟩
  | _ => exact (show False from e).elim
end
end L2

namespace L2
open PySem PySem.Spec PyProof.Rows

/-! ### an instance, its attributes a map -/
structure ObjM (h : Heap) (x dx C : Addr) (mA : Str → Option Value) : Prop where
  obj : h.get? x = some (PySem.W.instObj C dx)
  ns : h.Ns1 dx mA
  ne : dx ≠ x

theorem lookIn_ns {h : Heap} {dx : Addr} {mA : Str → Option Value} (n : h.Ns1 dx mA) : ∃ od, h.get? dx = some od ∧ ∀ name, PySem.W.lookIn name od = some (mA name) := by
  obtain ⟨o, es, ep, ho, hd, hk, _, hm⟩ := n
  refine ⟨o, ho, fun name => ?_⟩
  have e := hm name
  unfold nsFind findBy at e
  rw [← Array.find?_toList] at e
  unfold PySem.W.lookIn
  rw [hd]
  dsimp only
  split
  · rename_i y q
    rw [q] at e
    exact congrArg some e
  · rename_i q
    rw [q] at e
    have a : es.toList.any (·.refKey) = false := by
      rw [List.any_eq_false]
      intro y hy
      obtain ⟨z, t, hkey⟩ := hk y (Array.mem_toList_iff.mp hy)
      simp [DictEntry.refKey, hkey]
    have a' : ¬ es.toList.any (·.refKey) = true := by rw [a]; exact Bool.false_ne_true
    rw [if_neg a']
    exact congrArg some e

theorem ObjM.look {h : Heap} {x dx C : Addr} {mA : Str → Option Value} (I : ObjM h x dx C mA) : ∃ od, PySem.W.InstAt h x (PySem.W.instObj C dx) C (some od) ∧ ∀ name, PySem.W.lookIn name od = some (mA name) :=
  let ⟨od, ho, hl⟩ := lookIn_ns I.ns
  ⟨od, ⟨I.obj, rfl, rfl, ho⟩, hl⟩

section
end

/-! ### the attributes as a list of pairs -/
section
variable {P : Program} {w : World} {H H' : Hp} {h h' : Heap} {a C dx : Addr} {fs fs' : List (Str × V)}
theorem ins_get (hok : HOk P w H h) (e : H a = some (.ins C dx fs)) : ∃ mA, ObjM h a dx C mA ∧ (∀ f, RelO (fs.lookup f) (mA f)) ∧ PySem.Within mA (fs.map (·.1)) ∧ fs.length ≤ 1000 ∧ H dx = some (.own a) := by
  obtain ⟨d, z, ne, ob, mA, n, r, q⟩ := (show ObjOk P w H h a (.ins C dx fs) from hok a _ e)
  exact ⟨mA, ⟨ob, n, ne⟩, r, q, z, d⟩
end

/-! ### what of the text a class must have -/
structure Cls (K : PySem.W.Frag) (C : Addr) : Prop where
  pg : PySem.W.plainGet K C Str.empty = true
  hd : PySem.W.hasDictIn K C = true
  po : PySem.W.plainOver K C = true
  sa : PySem.W.findIn K (.ref C) "__setattr__" = some (some (.builtin "object.__setattr__"))
theorem Cls.get {K : PySem.W.Frag} {C : Addr} (c : Cls K C) (f : Str) : PySem.W.plainGet K C f = true := c.pg
section
end

/-! ### readings and rules -/
section
end

/-! ### isinstance -/
section
variable {X : Cx} {pins : List (Addr × Obj)} {σ : St} {H : Hp} {s : Shared} {A : Around} {E : Value → Shared → Prop} {Q : Value → Shared → Prop} {c : Value} {b : Bool}
/-- the type of a value, as the fragment's deciders take it; for an instance its class -/
inductive TyOf (K : PySem.W.Frag) (H : Hp) : V → Value → Prop where
  | non : TyOf K H .non (.type "NoneType")
  | bl (x : Bool) : TyOf K H (.bl x) (.type "bool")
  | int (i : Int) : TyOf K H (.int i) (.type "int")
  | str (x : Str) : TyOf K H (.str x) (.type "str")
  | flt (x : UInt64) : TyOf K H (.flt x) (.type "float")
  | lst {a : Addr} {xs : List V} (e : H a = some (.lst xs)) : TyOf K H (.ref a) (.type "list")
  | frz {a : Addr} {o : Obj} {xs : List V} (e : H a = some (.frz o (.lst xs))) : TyOf K H (.ref a) (.type "list")
  | tup {a : Addr} {xs : List V} (e : H a = some (.tup xs)) : TyOf K H (.ref a) (.type "tuple")
  | dK {a : Addr} {kvs : List (Key × V)} (e : H a = some (.dK kvs)) : TyOf K H (.ref a) (.type "dict")
  | dT {a : Addr} {kvs : List (List Key × V)} (e : H a = some (.dT kvs)) : TyOf K H (.ref a) (.type "dict")
  | ins {a C dx : Addr} {fs : List (Str × V)} (e : H a = some (.ins C dx fs)) (cl : Cls K C) (ha : PySem.W.findIn K (.ref C) "__class__" = some (some (.builtin "object.__class__")))
      (hn : PySem.W.specialIn K (.builtin "object.__class__") "__get__" = some (some (.builtin "getset_descriptor.__get__"))) (htk : PySem.W.takesIn K (.builtin "object.__class__") = some true)
      (hm : PySem.W.mroIn K C (.type "object") = some true) : TyOf K H (.ref a) (.ref C)
/-- isinstance(x, c) for one class c, a built-in or an own one: kitOne's answer -/
theorem isinst_ok {x : V} {u t : Value} (I : Inv X pins σ H s) (rx : RelV x u) (ty : TyOf X.K H x t) (e : PySem.W.kitOne X.K t c = some b) (h : ∀ tk, Q (.bool b) { s with toks := tk }) :
    wpAny (model X.prog X.w) A (call (.builtin "isinstance") [u, c]) Q E s := by
  cases ty with
  | non => cases (show u = Value.none from rx); exact PySem.W.kia_one PySem.W.kitx_none I.kIn True.intro e (fun z => nomatch z) h
  | bl y => cases (show u = Value.bool y from rx); exact PySem.W.kia_one PySem.W.kitx_bool I.kIn True.intro e (fun z => nomatch z) h
  | int i => obtain ⟨t, q⟩ := (show ∃ t, u = Value.int i t from rx); cases q; exact PySem.W.kia_one PySem.W.kitx_int I.kIn True.intro e (fun z => nomatch z) h
  | str y => obtain ⟨t, q⟩ := (show ∃ t, u = Value.str y t from rx); cases q; exact PySem.W.kia_one PySem.W.kitx_str I.kIn True.intro e (fun z => nomatch z) h
  | flt y => obtain ⟨t, q⟩ := (show ∃ t, u = Value.float y t from rx); cases q; exact PySem.W.kia_one PySem.W.kitx_float I.kIn True.intro e (fun z => nomatch z) h
  | @lst a xs ea =>
    cases (show u = Value.ref a from rx)
    obtain ⟨_, _, n, _, h1⟩ := (show ObjOk X.prog X.w H s.heap a (.lst xs) from I.hok a _ ea)
    exact PySem.W.kia_one PySem.W.kitx_list I.kIn ⟨_, h1, rfl⟩ e (fun z => nomatch z) h
  | @frz a ob xs ea =>
    cases (show u = Value.ref a from rx)
    obtain ⟨_, _, _, n, _, h1⟩ := (show ObjOk X.prog X.w H s.heap a (.frz ob (.lst xs)) from I.hok a _ ea)
    exact PySem.W.kia_one PySem.W.kitx_list I.kIn ⟨_, h1, rfl⟩ e (fun z => nomatch z) h
  | @tup a xs ea =>
    cases (show u = Value.ref a from rx)
    obtain ⟨_, _, _, p⟩ := (show ObjOk X.prog X.w H s.heap a (.tup xs) from I.hok a _ ea)
    obtain ⟨o, h1, h2, _⟩ := p
    exact PySem.W.kia_one PySem.W.kitx_tuple I.kIn ⟨o, h1, h2⟩ e (fun z => nomatch z) h
  | @dK a kvs ea =>
    cases (show u = Value.ref a from rx)
    obtain ⟨_, _, vs, _, p⟩ := (show ObjOk X.prog X.w H s.heap a (.dK kvs) from I.hok a _ ea)
    obtain ⟨o, es, ep, h1, h2, _⟩ := p
    exact PySem.W.kia_one PySem.W.kitx_dict I.kIn ⟨o, h1, h2.1⟩ e (fun z => nomatch z) h
  | @dT a kvs ea =>
    cases (show u = Value.ref a from rx)
    obtain ⟨_, _, xs, _, o, es, ep, h1, h2, _⟩ := (show ObjOk X.prog X.w H s.heap a (.dT kvs) from I.hok a _ ea)
    exact PySem.W.kia_one PySem.W.kitx_dict I.kIn ⟨o, h1, h2.1⟩ e (fun z => nomatch z) h
  | @ins a C dx fs ea cl ha hn htk hm =>
    cases (show u = Value.ref a from rx)
    obtain ⟨mA, O, _⟩ := ins_get I.hok ea
    obtain ⟨od, J, _⟩ := O.look
    exact PySem.W.kia_one (PySem.W.kitx_own (cl.get _) cl.hd ha hn htk hm) I.kIn J e (fun z => nomatch z) h
end
end L2

namespace L2
open PySem PySem.Spec PyProof.Rows

/-! ### room -/
structure Room (k : Nat) (A : Around) : Prop where
  hd : A.handled = none
  dp : A.depth + 3 * k + 5 < recursionLimit
  un : A.units + 16 * k + 200 < cLine
theorem Room.mono {j k : Nat} {A : Around} (r : Room k A) (h : j ≤ k) : Room j A := ⟨r.hd, by have := r.dp; (first | lia | omega), by have := r.un; (first | lia | omega)⟩
theorem Room.deeper {k : Nat} {A : Around} (r : Room (k + 1) A) (env : Env) : Room k (A.deeper env) :=
  ⟨r.hd, by have := r.dp; show A.depth + 1 + 3 * k + 5 < _; (first | lia | omega), by have := r.un; show A.units + 3 + 16 * k + 200 < _; (first | lia | omega)⟩
theorem Room.depth {k : Nat} {A : Around} (r : Room k A) : A.depth < recursionLimit := by have := r.dp; (first | lia | omega)
theorem Room.units {k : Nat} {A : Around} (r : Room k A) : A.units + 64 < cLine := by have := r.un; (first | lia | omega)
/-! ### argument lists and displays -/
def tNil : TA := fun _ H Q => Q [] H
def tCons (ta : TE) (tr : TA) : TA := fun σ H Q => ta σ H fun x H1 => tr σ H1 fun xs H2 => Q (x :: xs) H2
section
variable {X : Cx} {e : Expr} {es : List Expr} {te : TE} {t : TA} {pos : Pos}
theorem pa_nil : PA X [] tNil := fun _ _ _ _ H Q I h => Calls.spliced_nil ⟨[], H, I, .nil, h⟩
theorem pa_cons (ha : PE X e te) (hr : PA X es t) (hs : starEach (e :: es) X.env = (false, eval e X.env) :: starEach es X.env := by rfl) : PA X (e :: es) (tCons te t) := by
  intro pos pins s σ H Q I h
  rw [hs]
  show wpAny _ _ (spliced ((false, eval e X.env) :: backTo pos (starEach es X.env))) _ _ s
  refine Calls.spliced_cons (thn (ha pins s σ H _ I h) fun u s1 ⟨x, H1, I1, r1, q1⟩ => ?_)
  exact thn (hr pos pins s1 σ H1 _ I1 q1) fun us s2 ⟨xs, H2, I2, r2, q2⟩ => ⟨x :: xs, H2, I2, .cons r1 r2, q2⟩

/-- a tuple, a list of written items -/
def tTup (t : TA) : TE := fun σ H Q => t σ H fun xs H1 => xs.length ≤ sizeLine ∧ ∀ p, H1 p = none → Q (.ref p) (upd H1 p (.tup xs))
def tLst (t : TA) : TE := fun σ H Q => t σ H fun xs H1 => xs.length ≤ sizeLine ∧ ∀ p, H1 p = none → Q (.ref p) (upd H1 p (.lst xs))
theorem pe_tup {x1} (h : PA X es t) : PE X (.Tuple es x1 pos) (tTup t) := by
  intro pins s σ H Q I hq
  refine wpAny_Tuple_spliced (thn (h pos pins s σ H _ I hq) fun us s1 ⟨xs, H1, I1, r, z, q⟩ => ⟨by rw [← r.length]; exact z, ?_⟩)
  have hf : H1 s1.heap.objs.size = none := I1.hok.fresh (Nat.le_refl _)
  refine ⟨.ref s1.heap.objs.size, upd H1 s1.heap.objs.size (.tup xs), I1.laid (t' := s1.toks) (fun b u e => Heap.get?_push_of_some _ e) (Nat.le_refl _) ?_, rfl, q _ hf⟩
  exact ⟨z, us, r, ⟨_, Heap.get?_push_size _ rfl, rfl, _, rfl⟩⟩
theorem pe_lst (h : PA X es t) : PE X (.List es pos) (tLst t) := by
  intro pins s σ H Q I hq
  refine wpAny_List_spliced (thn (h pos pins s σ H _ I hq) fun us s1 ⟨xs, H1, I1, r, z, q⟩ => ⟨by rw [← r.length]; exact z, ?_⟩)
  have hf : H1 s1.heap.objs.size = none := I1.hok.fresh (Nat.le_refl _)
  refine ⟨.ref s1.heap.objs.size, upd H1 s1.heap.objs.size (.lst xs), I1.laid (t' := s1.toks) (fun b u e => Heap.get?_push_of_some _ e) (Nat.le_refl _) ?_, rfl, q _ hf⟩
  exact ⟨z, us, 0, r, Heap.get?_push_size _ rfl⟩
end

/-! ### what a def promises -/
/-- a def's promise: the bound arguments in the parameters' order, the heap, the wanted end, the wanted exception -/
abbrev Sp := List V → Hp → VK → XK → Prop
/-- how an exception lies behind a call (file 08 gives it): the callers' frames, abstract heap and state ahead of the call, the wish, the exception, the state -/
abbrev CXT := List Env → Hp → Shared → XK → Value → Shared → Prop

/-- the state at a call -/
structure Env0 (P : Program) (w : World) (K : PySem.W.Frag) (mg : Str → Option Value) (base : Heap) (A : Around) (outer : List Env) (s : Shared) (H : Hp) : Prop where
  frames : A.frames = some outer
  gd : A.guards = some []
  mod : Mod K mg base
  bs : ∀ b o, base.get? b = some o → s.heap.get? b = some o ∧ H b = none
  bsz : base.objs.size ≤ s.heap.objs.size
  funs : s.heap.FunFrames base outer
  frf : ∀ b ∈ frs outer, H b = none
  hok : HOk P w H s.heap
  bare : AllBare s.gens
/-- a call's end -/
def CE (outer : List Env) (P : Program) (w : World) (H : Hp) (s : Shared) (Q : VK) (u : Value) (s' : Shared) : Prop :=
  ∃ v H', s'.os = s.os ∧ AllBare s'.gens ∧ Un (frs outer) [] H H' s.heap s'.heap ∧ HOk P w H' s'.heap ∧ RelV v u ∧ Q v H'
def CR (CX : CXT) (outer : List Env) (P : Program) (w : World) (H : Hp) (s : Shared) (Q : VK) (E : XK) (r : Result) (s' : Shared) : Prop :=
  match r with
  | .ok (.ret u) => CE outer P w H s Q u s'
  | .ok _ => False
  | .error e => CX outer H s E e s'
structure FnOk (P : Program) (w : World) (K : PySem.W.Frag) (mg : Str → Option Value) (base : Heap) (CX : CXT) (k : Nat) (f : Addr) (fd : FuncData) (ps : List Str) (sp : Sp) : Prop where
  len : ∀ vs H Q E, sp vs H Q E → vs.length = ps.length
  run : ∀ (A : Around) (outer : List Env) (s : Shared) (H : Hp) (args : Args) (us : List Value) (vs : List V) (Q : VK) (E : XK), Room k A → Env0 P w K mg base A outer s H → BindsTo s fd args (ps.zip us) → Vals vs us → sp vs H Q E →
    codeAny (model P w) A (.call (.ref f) args) (CR CX outer P w H s Q E) s
section
variable {X : Cx} {pins : List (Addr × Obj)} {σ : St} {H : Hp} {s s' : Shared}
/-- from a body: what a callee wants -/
theorem Inv.env0 (I : Inv X pins σ H s) : Env0 X.prog X.w X.K X.mg X.base X.A X.stack s H :=
  ⟨I.ok.frames, I.ok.gd, I.ok.mod, I.bs, Nat.le_trans I.ok.bsz I.sz, I.stack, I.stkFree, I.hok, I.bare⟩
/-- behind a call -/
theorem Inv.after {Q : VK} {u : Value} (I : Inv X pins σ H s) (h : CE X.stack X.prog X.w H s Q u s') : EP X pins σ Q u s' := by
  obtain ⟨v, H', os, bare, un, hok, r, q⟩ := h
  obtain ⟨hh, g, d, t, os'⟩ := s'
  obtain rfl : os' = s.os := os
  exact ⟨v, H', I.call (h' := hh) (g' := g) (d' := d) (t' := t) (ch := []) un hok bare (fun b z => absurd z (by simp)), r, q⟩
end

/-! ### calls -/
/-- f(..): the written arguments, then the defaults dvs; E: what is wanted of an exception -/
def tCall (sp : Sp) (dvs : List V) (E : XK) (t : TA) : TE := fun σ H Q => t σ H fun vs H1 => sp (vs ++ dvs) H1 Q E
/-- how the parameters are bound: us the positional arguments, kw the keywords' values by name, ds the defaults that fill up -/
def Binds (K : PySem.W.Frag) (fd : FuncData) (ps : List Str) (ds : List Value) : Prop :=
  ∀ (s : Shared) (us : List Value), K.In s.heap → (us ++ ds).length = ps.length → BindsTo s fd ⟨us, []⟩ (ps.zip (us ++ ds))
/-- every parameter is given -/
theorem Binds.all {K : PySem.W.Frag} {fd : FuncData} {ps : List Str} (h : ∀ us : List Value, us.length = ps.length → bindArgs fd ⟨us, []⟩ = pure (ps.zip us)) : Binds K fd ps [] := fun s us _ hl => by
  rw [List.append_nil] at hl ⊢
  exact .of_eq (h us hl)

/-- an exception of a callee reaches what this body wants of exceptions -/
def Passes (CX : CXT) (X : Cx) (E : XK) : Prop := ∀ (pins : List (Addr × Obj)) (σ : St) (H : Hp) (s : Shared) (e : Value) (s' : Shared), Inv X pins σ H s → CX X.stack H s E e s' → X.xe e s'

section
variable {X : Cx} {CX : CXT} {k : Nat} {f C : Addr} {fd : FuncData} {ps : List Str} {sp : Sp} {dvs : List V} {ds : List Value} {E : XK} {x m : Str} {p pos apos : Pos} {e o : Expr} {es : List Expr} {ta : TE} {t : TA}

/-- the callee runs -/
theorem run_fn {pins : List (Addr × Obj)} {σ : St} {H : Hp} {s : Shared} {Q : VK} {us : List Value} {vs : List V} (F : FnOk X.prog X.w X.K X.mg X.base CX k f fd ps sp) (hr : Room k X.A) (hb : Binds X.K fd ps ds) (hd : Vals dvs ds) (hx : Passes CX X E)
    (I : Inv X pins σ H s) (r : Vals vs us) (h : sp (vs ++ dvs) H Q E) : wpAny (model X.prog X.w) X.A (call (.ref f) us) (EP X pins σ Q) X.xe s := by
  have r2 : Vals (vs ++ dvs) (us ++ ds) := r.append hd
  have hl : (us ++ ds).length = ps.length := by rw [← r2.length]; exact F.len _ _ _ _ h
  refine wpAny_call (codeAny_mono (F.run X.A X.stack s H ⟨us, []⟩ (us ++ ds) (vs ++ dvs) Q E hr I.env0 (hb s us I.kIn hl) r2 h) fun r s' hq => ?_)
  cases r with
  | error e => exact hx pins σ H s e s' I hq
  | ok fl =>
    cases fl with
    | ret u => exact I.after hq
    | next => exact False.elim hq
    | brk => exact False.elim hq
    | cont => exact False.elim hq

theorem pe_call (F : FnOk X.prog X.w X.K X.mg X.base CX k f fd ps sp) (hr : Room k X.A) (hg : Gl X x) (hm : X.mg x = some (.ref f)) (hk : PySem.W.keepIn X.K (.ref f) = true) (hb : Binds X.K fd ps ds) (hd : Vals dvs ds) (hx : Passes CX X E)
    (ha : PA X (e :: es) t) (hdb : (x == ("__debug__" : Str)) = false := by decide) (he : starEach (e :: es) X.env = (false, eval e X.env) :: starEach es X.env := by rfl) (hpl : (backTo pos (starEach es X.env)).any (·.1) = false := by rfl) :
    PE X (.Call (.Name x p) (e :: es) [] pos) (tCall sp dvs E t) := by
  intro pins s σ H Q I h
  refine wpAny_Call_Name_kw (ld_glob I hg hm ?_ hdb)
  refine PySem.W.callWith_K (h₀ := X.base) I.ok.mod.kin hk (thn (ha pos pins s σ H _ I h) fun us s1 ⟨vs, H1, I1, r, q⟩ => ⟨I1.kIn, ?_⟩) he hpl
  exact run_fn F hr hb hd hx I1 r q
end

/-! ### keywords -/
section
end

/-! ### a def's body keeps its promise -/
/-- names: the parameters first -/
structure FnScope (N P : List Str) (sc : Scope) : Prop where
  kind : sc.kind = .function
  co : sc.isCoroutine = false
  gen : sc.isGenerator = false
  nd : N.Nodup
  pre : N.take P.length = P
  par : ∀ x ∈ P, sc.names.lookup x = some .local ∨ sc.names.lookup x = some .cell
  nofree : ∀ y ∈ sc.names, y.2 ≠ .free

theorem bindL_out {kindOf : Str → Option NameKind} {x : Str} : ∀ {binds : List (Str × Value)} {m : Str → Option Value}, (∀ v, (x, v) ∉ binds) → bindL kindOf binds m x = m x
  | [], _, _ => rfl
  | (n, v) :: r, m, h => by
    unfold bindL
    rw [bindL_out fun w hw => h w (List.mem_cons_of_mem _ hw)]
    split
    · have : x ≠ n := by rintro rfl; exact h v List.mem_cons_self
      simp [this]
    · rfl
theorem bindC_out {kindOf : Str → Option NameKind} {x : Str} : ∀ {binds : List (Str × Value)} {m : Str → Option Value}, (∀ v, (x, v) ∉ binds) → bindC kindOf binds m x = m x
  | [], _, _ => rfl
  | (n, v) :: r, m, h => by
    unfold bindC
    rw [bindC_out fun w hw => h w (List.mem_cons_of_mem _ hw)]
    split
    · rfl
    · have : x ≠ n := by rintro rfl; exact h v List.mem_cons_self
      simp [this]
theorem bindL_get {kindOf : Str → Option NameKind} {x : Str} {v : Value} : ∀ {P : List Str} {vs : List Value} {i : Nat} {m : Str → Option Value}, P.Nodup → P[i]? = some x → vs[i]? = some v → kindOf x = some .local →
    bindL kindOf (P.zip vs) m x = some v
  | [], _, _, _, _, h, _, _ => by simp at h
  | _ :: _, [], _, _, _, _, h, _ => by simp at h
  | p :: P, w :: vs, 0, m, nd, h1, h2, hk => by
    simp at h1 h2; subst h1; subst h2
    show bindL kindOf ((p, w) :: P.zip vs) m p = _
    unfold bindL
    rw [bindL_out fun v hv => (List.nodup_cons.mp nd).1 (List.of_mem_zip hv).1, if_pos hk]
    simp
  | p :: P, w :: vs, i + 1, m, nd, h1, h2, hk => by
    show bindL kindOf ((p, w) :: P.zip vs) m x = _
    unfold bindL
    exact bindL_get (i := i) (List.nodup_cons.mp nd).2 (by simpa using h1) (by simpa using h2) hk
theorem bindC_get {kindOf : Str → Option NameKind} {x : Str} {v : Value} : ∀ {P : List Str} {vs : List Value} {i : Nat} {m : Str → Option Value}, P.Nodup → P[i]? = some x → vs[i]? = some v → kindOf x ≠ some .local →
    bindC kindOf (P.zip vs) m x = some v
  | [], _, _, _, _, h, _, _ => by simp at h
  | _ :: _, [], _, _, _, _, h, _ => by simp at h
  | p :: P, w :: vs, 0, m, nd, h1, h2, hk => by
    simp at h1 h2; subst h1; subst h2
    show bindC kindOf ((p, w) :: P.zip vs) m p = _
    unfold bindC
    rw [bindC_out fun v hv => (List.nodup_cons.mp nd).1 (List.of_mem_zip hv).1, if_neg hk]
    simp
  | p :: P, w :: vs, i + 1, m, nd, h1, h2, hk => by
    show bindC kindOf ((p, w) :: P.zip vs) m x = _
    unfold bindC
    exact bindC_get (i := i) (List.nodup_cons.mp nd).2 (by simpa using h1) (by simpa using h2) hk

/-- the names' values at the entry -/
def start (N : List Str) (vs : List V) : St := vs.map some ++ List.replicate (N.length - vs.length) none

/-- the context of a def's body, at its entry; an exception leaves the frame, then lies as CX says -/
def cxOf (CX : CXT) (P : Program) (w : World) (K : PySem.W.Frag) (mg : Str → Option Value) (base : Heap) (N : List Str) (qual : Str) (scope : Scope) (f : Addr) (cd : Value) (A : Around) (outer : List Env) (s : Shared) (H : Hp) (E : XK) : Cx where
  prog := P
  w := w
  K := K
  mg := mg
  base := base
  A := A.deeper (envOfC qual scope s.heap.objs.size f cd)
  N := N
  s₀ := s
  H₀ := H
  env := envOfC qual scope s.heap.objs.size f cd
  outer := outer
  stack := envOfC qual scope s.heap.objs.size f cd :: outer
  ex := []
  calm := true
  fn := fun _ => true
  pn := []
  xe := fun e s' => wpAny (model P w) (A.deeper (envOfC qual scope s.heap.objs.size f cd)) (leaving (envOfC qual scope s.heap.objs.size f cd) e) (fun _ s'' => CX outer H s E e s'') (fun e' s'' => CX outer H s E e' s'') s'

theorem cell_has {sc : Scope} {n : Nat} {x : Str} (h : sc.names.lookup x = some .cell) : ∃ c, (cellsFrom n sc.names []).lookup x = some c := by
  have q := PySem.W.cellsFrom_some sc.names n [] (.inl h)
  exact Option.isSome_iff_exists.mp q

theorem inv_start {CX : CXT} {P : Program} {w : World} {K : PySem.W.Frag} {mg : Str → Option Value} {base : Heap} {N ps : List Str} {qual : Str} {scope : Scope} {f : Addr} {cd : Value} {A : Around} {outer : List Env} {s s1 : Shared} {H : Hp} {E : XK} {us : List Value} {vs : List V}
    (S : FnScope N ps scope) (hd : A.handled = none) (e0 : Env0 P w K mg base A outer s H) (hl : vs.length = ps.length) (r : Vals vs us)
    (x : InCallC s s.heap.objs.size (bindL (envOfC qual scope s.heap.objs.size f cd).kindOf (ps.zip us) fun _ => none) (cellsFrom (s.heap.objs.size + 1) scope.names []) (bindC (envOfC qual scope s.heap.objs.size f cd).kindOf (ps.zip us) fun _ => none) s1) :
    Inv (cxOf CX P w K mg base N qual scope f cd A outer s H E) [] (start N vs) H s1 := by
  have hpl : ps.length ≤ N.length := by have := congrArg List.length S.pre; rw [List.length_take] at this; (first | lia | omega)
  obtain ⟨h1, tk, rfl, hk⟩ := x.done
  have noA : ∀ b : Addr, b ∉ (cxOf CX P w K mg base N qual scope f cd A outer s H E).ex := fun b z => absurd (show b ∈ ([] : List Addr) from z) (by simp)
  refine ⟨⟨e0.mod, S.kind, rfl, rfl, Nat.le_refl _, fun y z c h1 h2 => ?_, fun y hy => ?_, fun y c _ h => ?_, fun _ => hd, Around.frames_deeper e0.frames, e0.gd, .inr ⟨rfl, rfl⟩, fun b z => absurd z (noA b), e0.bs, e0.bsz, fun b _ _ => noA b, fun b z => absurd z (noA b), e0.funs, e0.frf⟩,
    rfl, e0.bare, Un.kept hk, ⟨_, x.toInCall.ns, fun i y v h1 h2 h3 => ?_⟩, fun y c h => ⟨_, x.cell y c h⟩, e0.hok.fresh (Nat.le_refl _), fun y c h => ?_, fun p hp => absurd (show p ∈ ([] : List (Addr × Obj)) from hp) (by simp), e0.hok.kept hk, ?_⟩
  · exact name_of_addr x.apart (PySem.mem_of_lookup h1) (PySem.mem_of_lookup h2)
  · have hy : scope.names.lookup y = some .cell ∨ scope.names.lookup y = some .free := hy
    rcases hy with hy | hy
    · exact cell_has hy
    · exact absurd rfl (S.nofree _ (PySem.mem_of_lookup hy))
  · exact Nat.le_of_lt (x.above y c (PySem.mem_of_lookup h))
  · have hi : i < vs.length := by
      unfold start at h2
      by_cases hi : i < vs.length
      · exact hi
      · rw [List.getElem?_append_right (by simpa using hi)] at h2
        rw [List.getElem?_replicate] at h2
        split at h2 <;> cases h2
    have ha : vs[i]? = some v := by
      unfold start at h2
      rw [List.getElem?_append_left (by simpa using hi), List.getElem?_map] at h2
      cases e : vs[i]? with
      | none => rw [e] at h2; cases h2
      | some a => rw [e] at h2; cases h2; rfl
    obtain ⟨u, hu, rv⟩ := r.get ha
    have hp : ps[i]? = some y := by
      rw [← S.pre, List.getElem?_take_of_lt (by (first | lia | omega))]; exact h1
    have ndP : ps.Nodup := by rw [← S.pre]; exact S.nd.sublist (List.take_sublist _ _)
    refine ⟨u, rv, ?_⟩
    rcases S.par y (List.mem_of_getElem? hp) with k | k
    · exact .inl ⟨k, bindL_get ndP hp hu k⟩
    · obtain ⟨c, e⟩ := cell_has (n := s.heap.objs.size + 1) k
      refine .inr ⟨.inl k, c, e, ?_⟩
      have q := x.cell y c e
      rw [bindC_get ndP hp hu (by show scope.names.lookup y ≠ _; rw [k]; decide)] at q
      exact q
  · exact e0.hok.fresh (Nat.le_of_lt (x.above y c (PySem.mem_of_lookup h)))
  · unfold start
    show _ = N.length
    rw [List.length_append, List.length_map, List.length_replicate]
    (first | lia | omega)

/-- THE RULE: a def (or a method) of the text, by its body. The body's reading t is chosen for each entry; it is run at the parameters' values -/
theorem fn_of {CX : CXT} {P : Program} {w : World} {K : PySem.W.Frag} {mg : Str → Option Value} {base : Heap} {k : Nat} {f : Addr} {name qual : Str} {params : Arguments} {body : List Stmt} {scope : Scope} {dV kV doc pm cdv ct oc : Value} {an od : Option Addr}
    {osl : Array (Option Value)} {N ps : List Str} {sp : Sp} (lk : K.lookup f = some ⟨oc, od, .func (PySem.W.fnOf name qual params body scope dV kV doc pm an cdv ct), osl⟩) (hcd : PySem.W.codeIn K cdv qual = true) (S : FnScope N ps scope)
    (len : ∀ vs H Q E, sp vs H Q E → vs.length = ps.length)
    (hbody : ∀ (A : Around) (outer : List Env) (s : Shared) (H : Hp) (vs : List V) (Q : VK) (E : XK), Room k (A.deeper (envOfC qual scope s.heap.objs.size f cdv)) → sp vs H Q E →
      ∃ t, PSs (cxOf CX P w K mg base N qual scope f cdv A outer s H E) body t ∧ t { nx := fun _ H' => Q .non H', rt := Q } (start N vs) H) :
    FnOk P w K mg base CX (k + 1) f (PySem.W.fnOf name qual params body scope dV kV doc pm an cdv ct) ps sp := by
  refine ⟨len, fun A outer s H args us vs Q E hr e0 hb r hsp => ?_⟩
  have hl := len _ _ _ _ hsp
  have KX : K.In s.heap := e0.mod.kin.keeps fun b o e => (e0.bs b o e).1
  have lim : s.heap.NoLimit := e0.mod.nolimit.keeps fun b o e => (e0.bs b o e).1
  have hkind : ∀ y ∈ ps.zip us, scope.names.lookup y.1 = some .local ∨ (scope.names.lookup y.1 = some .cell ∧ ((cellsFrom (s.heap.objs.size + 1) scope.names []).lookup y.1).isSome = true) := fun ⟨n, v⟩ hy => by
    rcases S.par n (List.of_mem_zip hy).1 with q | q
    · exact .inl q
    · exact .inr ⟨q, PySem.W.cellsFrom_some _ _ _ (.inl q)⟩
  refine codeAny_call_function hr.depth (KX _ _ lk) rfl S.co S.gen rfl (PySem.W.codeRec_of KX hcd) (hb _ _ _ _ ?_)
  refine wpAny_newFunctionEnv_cells S.kind hkind fun env he s1 x => ?_
  subst he
  refine ⟨lim.keeps x.toInCall.keep, codeAny_func ?_⟩
  obtain ⟨t, ht, hq⟩ := hbody A outer s H vs Q E (hr.deeper _) hsp
  have I : Inv (cxOf CX P w K mg base N qual scope f cdv A outer s H E) [] (start N vs) H s1 := inv_start S hr.hd e0 hl r x
  refine wpAny_mono (ht [] s1 (start N vs) H _ I hq) (fun fl s' hs => ?_) fun e s' hs => hs
  have fin : ∀ {σ' : St} {H' : Hp} {v : V} {u : Value}, Inv (cxOf CX P w K mg base N qual scope f cdv A outer s H E) [] σ' H' s' → RelV v u → Q v H' → CE outer P w H s Q u s' :=
    fun {σ' H' v u} J rv q => ⟨v, H', J.os, J.bare, J.base, J.hok, rv, q⟩
  cases fl with
  | ret u =>
    obtain ⟨v, σ', H', J, rv, q⟩ := hs
    exact fin J rv q
  | next =>
    obtain ⟨σ', H', J, q⟩ := hs
    exact fin (v := V.non) (u := Value.none) J rfl q
  | brk =>
    obtain ⟨_, _, _, q⟩ := hs
    exact False.elim q
  | cont =>
    obtain ⟨_, _, _, q⟩ := hs
    exact False.elim q
end L2

namespace L2
open PySem PySem.Spec PyProof.Rows
section
variable {X : Cx} {x : Str} {p pos : Pos} {e : Expr} {es : List Expr} {t : TA} {id T : String} {r : List V → Hp → VK → Prop}

def tCB (r : List V → Hp → VK → Prop) (t : TA) : TE := fun σ H Q => t σ H fun vs H1 => r vs H1 Q
/-- f(e, ..), f a built-in function -/
theorem pe_callB (hc : CallR X (.builtin id) r) (hg : Gl X x) (hm : X.mg x = none) (hv : bootBuiltins x = some (.builtin id)) (ha : PA X (e :: es) t) (hn : x ≠ "__name__" := by decide) (hdb : (x == ("__debug__" : Str)) = false := by decide)
    (he : starEach (e :: es) X.env = (false, eval e X.env) :: starEach es X.env := by rfl) (hpl : (backTo pos (starEach es X.env)).any (·.1) = false := by rfl) : PE X (.Call (.Name x p) (e :: es) [] pos) (tCB r t) := by
  intro pins s σ H Q I h
  refine wpAny_Call_Name_kw (ld_blt I hg hm hv ?_ hn hdb)
  exact PyProof.Rows.callWith_builtin1 (thn (ha pos pins s σ H _ I h) fun us s1 ⟨vs, H1, I1, r1, q1⟩ => hc pins s1 σ H1 vs us Q I1 r1 q1) he hpl
/-- T(e, ..), T a built-in type -/
theorem pe_callTy (hc : CallR X (.type T) r) (hg : Gl X x) (hm : X.mg x = none) (hv : bootBuiltins x = some (.type T)) (ha : PA X (e :: es) t) (hn : x ≠ "__name__" := by decide) (hdb : (x == ("__debug__" : Str)) = false := by decide)
    (he : starEach (e :: es) X.env = (false, eval e X.env) :: starEach es X.env := by rfl) (hpl : (backTo pos (starEach es X.env)).any (·.1) = false := by rfl) : PE X (.Call (.Name x p) (e :: es) [] pos) (tCB r t) := by
  intro pins s σ H Q I h
  refine wpAny_Call_Name_kw (ld_blt I hg hm hv ?_ hn hdb)
  exact PyProof.Rows.callWith_type1 (thn (ha pos pins s σ H _ I h) fun us s1 ⟨vs, H1, I1, r1, q1⟩ => hc pins s1 σ H1 vs us Q I1 r1 q1) he hpl
end
end L2

namespace HT
open PySem PyProof.Rows

section
open PySem.SeqAt
open PySem.AutoSeq1 (wpAny_loadPart')
open PySem.MeetsSeq PySem.MeetsSeq2 PySem.MeetsSeq3

end

section
variable {prog : Program} {w : World} {A : Around} {E : Value → Shared → Prop} {s : Shared}

/-- t + u, t not empty -/
theorem cat_tup {t b : Addr} {vs ws : List Value} {Q : Value → Shared → Prop} (ht : IsTup s.heap t vs.toArray) (hb : IsTup s.heap b ws.toArray) (hv : vs ≠ [])
    (h1 : ws = [] → Q (.ref t) s) (h2 : ws ≠ [] → Q (.ref s.heap.objs.size) { s with heap := s.heap.push { cls := .type "tuple", data := .seq (vs ++ ws).toArray } })
    (hsz : vs.length + ws.length ≤ sizeLine) : wpAny (model prog w) A (binaryOp .Add (.ref t) (.ref b)) Q E s := by
  obtain ⟨⟨cls, dd, data, sl⟩, ho, hc, n, hd⟩ := id ht
  obtain ⟨⟨cls2, dd2, data2, sl2⟩, ho2, hc2, n2, hd2⟩ := id hb
  simp only at hc hd hc2 hd2
  subst hc hd hc2 hd2
  have e : vs.toArray ++ ws.toArray = (vs ++ ws).toArray := by simp
  by_cases hw : ws = []
  · exact concat_meets ⟨_, ho, rfl⟩ ⟨_, ho2, rfl⟩ noFill_tuple_add seq_tuple_add PySem.F.slot_tuple_add PySem.F.entry_tuple_add (PySem.F.args_tuple_add_2 _ _)
      (tuple_addW1 t b vs.toArray ws.toArray n n2 dd dd2 sl sl2 (by simpa using hv) (by simp [hw])) ⟨ho, ho2, h1 hw⟩
  · refine concat_meets ⟨_, ho, rfl⟩ ⟨_, ho2, rfl⟩ noFill_tuple_add seq_tuple_add PySem.F.slot_tuple_add PySem.F.entry_tuple_add (PySem.F.args_tuple_add_2 _ _)
      (tuple_addW2 t b vs.toArray ws.toArray n n2 dd dd2 sl sl2 (by simpa using hv) (by simpa using hw) (by rw [List.size_toArray, List.size_toArray]; exact hsz)) ⟨ho, ho2, ?_⟩
    rw [e]
    exact h2 hw

/-! ### t[a:b], not the whole -/
/-- a slice's bound as a place among n (d where it is left out) -/
def sIx (n d : Nat) : Option Int → Nat
  | none => d
  | some v => if v < 0 then (v + (n : Int)).toNat else min v.toNat n
theorem sIx_none (n d : Nat) : sIx n d none = d := rfl
theorem sIx_nat (n d k : Nat) : sIx n d (some (k : Int)) = min k n := by
  show (if (k : Int) < 0 then ((k : Int) + (n : Int)).toNat else min (k : Int).toNat n) = min k n
  rw [if_neg (by (first | lia | omega)), Int.toNat_natCast]
theorem sIx_le (n d : Nat) (hd : d ≤ n) (o : Option Int) : sIx n d o ≤ n := by
  cases o with
  | none => exact hd
  | some v =>
    show (if v < 0 then (v + (n : Int)).toNat else min v.toNat n) ≤ n
    by_cases hv : v < 0
    · rw [if_pos hv]; (first | lia | omega)
    · rw [if_neg hv]; exact Nat.min_le_right _ _
theorem clip_eq (v : Int) (n d : Nat) : (if v < 0 then max (v + (n : Int)) 0 else min v (n : Int)) = ((sIx n d (some v) : Nat) : Int) := by
  show (if v < 0 then max (v + (n : Int)) 0 else min v (n : Int)) = (((if v < 0 then (v + (n : Int)).toNat else min v.toNat n) : Nat) : Int)
  by_cases hv : v < 0
  · simp only [if_pos hv]; (first | lia | omega)
  · simp only [if_neg hv]; (first | lia | omega)
theorem adjust_gen (lo hi : Option Int) (n : Nat) : Builtin.Slice.sliceAdjust lo hi 1 (n : Int) = (((sIx n 0 lo : Nat) : Int), ((sIx n n hi : Nat) : Int)) := by
  have h1 : ¬ ((1 : Int) < 0) := by (first | lia | omega)
  unfold Builtin.Slice.sliceAdjust
  simp only [h1, if_false]
  refine Prod.ext ?_ ?_
  · cases lo with
    | none => rfl
    | some v => exact clip_eq v n 0
  · cases hi with
    | none => rfl
    | some v => exact clip_eq v n n
theorem places_gen (i j : Nat) : Builtin.Slice.slicePlaces (i : Int) (j : Int) 1 = j - i := by
  unfold Builtin.Slice.slicePlaces
  have h1 : (1 : Int) > 0 := by (first | lia | omega)
  simp only [h1, if_true, Int.ediv_one]
  split <;> (first | lia | omega)
theorem slicePart_ {v : Value} {o : Option Int} {Q : Option Int → Shared → Prop} (p : IsPart v o) (h : Q o s) : wpAny (model prog w) A (Builtin.Slice.slicePartIndex v) Q E s := by
  cases p with
  | none => exact slicePart_none h
  | int i t => exact slicePart_int h
theorem sliceApplied_gen {sl : Addr} {vl vu : Value} {lo hi : Option Int} {n : Nat} {Q : Int × Int × Nat → Shared → Prop} (hs : s.heap.IsSliceOf sl vl vu .none) (pl : IsPart vl lo) (pu : IsPart vu hi)
    (h : Q (((sIx n 0 lo : Nat) : Int), 1, sIx n n hi - sIx n 0 lo) s) : wpAny (model prog w) A (Builtin.Slice.sliceApplied (.ref sl) (pure (n : Int))) Q E s := by
  obtain ⟨os, hos, hcs, hds⟩ := id hs
  unfold Builtin.Slice.sliceApplied Builtin.Slice.sliceFields
  refine wpAny_bind (wpAny_bind (wpAny_field hos hds (x := vl) rfl (wpAny_bind (wpAny_field hos hds (x := vu) rfl (wpAny_bind (wpAny_field hos hds (x := .none) rfl (wpAny_pure ?_)))))))
  refine wpAny_bind (slicePart_none ?_)
  show wpAny _ _ (if ((1 : Int) == 0) = true then _ else _) _ _ s
  rw [if_neg (by decide)]
  refine wpAny_bind (slicePart_ pl (wpAny_bind (slicePart_ pu (wpAny_bind (wpAny_pure ?_)))))
  show wpAny _ _ (match Builtin.Slice.sliceAdjust lo hi 1 (n : Int) with | (lo, hi) => pure (lo, (1 : Int), Builtin.Slice.slicePlaces lo hi 1)) _ _ s
  rw [adjust_gen lo hi n]
  show wpAny _ _ (pure (((sIx n 0 lo : Nat) : Int), (1 : Int), Builtin.Slice.slicePlaces ((sIx n 0 lo : Nat) : Int) ((sIx n n hi : Nat) : Int) 1)) _ _ s
  rw [places_gen]
  exact wpAny_pure h
theorem pick_gen (xs : Array Value) (i k : Nat) : ((List.range k).filterMap fun (m : Nat) => xs[((i : Int) + (m : Int) * 1).toNat]?).toArray = ((xs.toList.drop i).take k).toArray := by
  have e : (fun (m : Nat) => xs[((i : Int) + (m : Int) * 1).toNat]?) = fun m => xs[i + m]? := by
    funext m
    have : ((i : Int) + (m : Int) * 1).toNat = i + m := by (first | lia | omega)
    rw [this]
  rw [e]
  have := pick_run xs i k
  rw [List.filterMap_map] at this
  have e2 : ((fun x => xs[x]?) ∘ fun x => i + x) = fun m => xs[i + m]? := rfl
  rw [e2] at this
  rw [this]

theorem getItem_tuple_cut {t sl : Addr} {items : Array Value} {vl vu : Value} {lo hi : Option Int} {Q : Value → Shared → Prop} (ht : IsTup s.heap t items) (hs : s.heap.IsSliceOf sl vl vu .none) (pl : IsPart vl lo) (pu : IsPart vu hi)
    (hw : ¬ (sIx items.size 0 lo = 0 ∧ sIx items.size items.size hi = items.size))
    (h : Q (.ref s.heap.objs.size) { s with heap := s.heap.push { cls := .type "tuple", data := .seq ((items.toList.drop (sIx items.size 0 lo)).take (sIx items.size items.size hi - sIx items.size 0 lo)).toArray } })
    (hsz : items.size ≤ sizeLine) : wpAny (model prog w) A (getItem (.ref t) (.ref sl)) Q E s := by
  have htake : sizeOk (.seq ((items.toList.drop (sIx items.size 0 lo)).take (sIx items.size items.size hi - sIx items.size 0 lo)).toArray) := by
    show ((items.toList.drop (sIx items.size 0 lo)).take (sIx items.size items.size hi - sIx items.size 0 lo)).toArray.size ≤ sizeLine
    rw [List.size_toArray, List.length_take, List.length_drop, Array.length_toList]
    (first | lia | omega)
  have hj : sIx items.size items.size hi ≤ items.size := sIx_le _ _ (Nat.le_refl _) hi
  obtain ⟨os, hos, hcs, hds⟩ := id hs
  have hTs : s.TypeIs (.ref sl) "slice" := ⟨os, hos, hcs⟩
  unfold getItem
  try with_reducible refine wpAny_holding ?_
  first | refine wpAny_bind (wpAny_pure ?_) | skip
  refine wpAny_bind (wpAny_sequenceKey ht.typeIs (by decide) ?_)
  refine wpAny_bind (wpAny_callSpecial?_slot (name := Str.ofString "__getitem__") ht.typeIs PyProof.Rows.slot_tuple_getitem
    (wpAny_call_entry PyProof.Rows.slot_tuple_getitem ht.typeIs entry_tuple_getitem ?_ (args_tuple_getitem _ _)))
  show wpAny _ _ (Builtin.Tuple.tupleItemsOf (.ref t) >>= _) _ _ s
  refine wpAny_bind (tupleItemsOf_ ht ?_)
  refine wpAny_bind (wpAny_typeOf hTs ?_)
  rw [if_pos (by decide)]
  refine wpAny_bind (sliceApplied_gen hs pl pu ?_)
  have hno : ¬ ((((sIx items.size 0 lo : Nat) : Int) == 0 && (1 : Int) == 1 && (sIx items.size items.size hi - sIx items.size 0 lo) == items.size) = true) := by
    intro q
    rw [Bool.and_eq_true, Bool.and_eq_true] at q
    have q1 : ((sIx items.size 0 lo : Nat) : Int) = 0 := eq_of_beq q.1.1
    have q2 : sIx items.size items.size hi - sIx items.size 0 lo = items.size := eq_of_beq q.2
    exact hw ⟨by (first | lia | omega), by (first | lia | omega)⟩
  show wpAny _ _ (if (((sIx items.size 0 lo : Nat) : Int) == 0 && (1 : Int) == 1 && (sIx items.size items.size hi - sIx items.size 0 lo) == items.size) = true then _ else _) _ _ s
  rw [if_neg hno, pick_gen]
  first
    | exact wpAny_bind (m := Builtin.Tuple.tupleExact _) (wpAny_newObj_type (wpAny_pure ⟨_, rfl, wpAny_pure h⟩) htake)
    | exact wpAny_bind (m := Builtin.Tuple.tupleExact _) (wpAny_newObj_type (wpAny_bind (wpAny_pure (wpAny_pure ⟨_, rfl, wpAny_pure h⟩))) htake)
    | exact wpAny_bind (wpAny_bind (m := Builtin.Tuple.tupleExact _) (wpAny_newObj_type (wpAny_pure (wpAny_pure ⟨_, rfl, wpAny_pure h⟩)) htake))
    | exact wpAny_bind (wpAny_bind (m := Builtin.Tuple.tupleExact _) (wpAny_newObj_type (wpAny_pure ⟨_, rfl, wpAny_pure h⟩) htake))
end
end HT

namespace L2
open PySem PySem.Spec PyProof.Rows

/-! ### the parts of a slice -/
abbrev TO := St → Hp → (Option Int → Hp → Prop) → Prop
/-- a slice's part (left out, or an int) -/
def PO (X : Cx) (e : Option Expr) (t : TO) : Prop :=
  ∀ (pins : List (Addr × Obj)) (s : Shared) (σ : St) (H : Hp) (Q : Option Int → Hp → Prop), Inv X pins σ H s → t σ H Q →
    wpAny (model X.prog X.w) X.A (evalPart e X.env) (fun u s' => ∃ o H', Inv X pins σ H' s' ∧ IsPart u o ∧ Q o H') X.xe s
def tNoPart : TO := fun _ H Q => Q none H
def tPart (t : TE) : TO := fun σ H Q => t σ H fun x H1 => ∃ i, x = .int i ∧ Q (some i) H1

section
variable {X : Cx} {e : Expr} {te : TE} {lo hi : Option Expr} {tl th : TO} {pos p2 : Pos}

theorem po_none : PO X none tNoPart := by
  intro pins s σ H Q I h
  rw [evalPart_none]
  exact wpAny_pure ⟨none, H, I, .none, h⟩
theorem po_some (h : PE X e te) : PO X (some e) (tPart te) := by
  intro pins s σ H Q I hw
  rw [evalPart_some]
  refine thn (h pins s σ H _ I hw) fun u s1 ⟨x, H1, I1, r1, q1⟩ => ?_
  obtain ⟨i, rfl, q⟩ := q1
  obtain ⟨t, rfl⟩ := r1
  exact ⟨some i, H1, I1, .int i t, q⟩

/-- what a slice of a value is, by values: the slice object stands at sl -/
def SlR (X : Cx) (r : V → Option Int → Option Int → Hp → VK → Prop) : Prop :=
  ∀ (pins : List (Addr × Obj)) (s : Shared) (σ : St) (H : Hp) (x : V) (v vl vu : Value) (lo hi : Option Int) (sl : Addr) (Q : VK), Inv X pins σ H s → RelV x v → s.heap.IsSliceOf sl vl vu .none → IsPart vl lo → IsPart vu hi → r x lo hi H Q →
    ∃ T id, typeLookup (.type T) "__getitem__" = pure (some (.builtin id)) ∧ s.TypeIs v T ∧ wpAny (model X.prog X.w) X.A (getItem v (.ref sl)) (EP X pins σ Q) X.xe s
def tSl (r : V → Option Int → Option Int → Hp → VK → Prop) (te : TE) (tl th : TO) : TE := fun σ H Q => te σ H fun x H1 => tl σ H1 fun l H2 => th σ H2 fun u H3 => r x l u H3 Q
/-- a[lo:hi], any a -/
theorem pe_slice {r : V → Option Int → Option Int → Hp → VK → Prop} (hr : SlR X r) (he : PE X e te) (hl : PO X lo tl) (hu : PO X hi th) : PE X (.Subscript e (.Slice lo hi none p2) pos) (tSl r te tl th) := by
  intro pins s σ H Q I h
  refine Subscript_ (thn (he pins s σ H _ I h) fun v s1 ⟨x, H1, I1, r1, q1⟩ => ?_)
  refine wpAny_Slice (thn (hl pins s1 σ H1 _ I1 q1) fun vl s2 ⟨l, H2, I2, pl, q2⟩ => thn (hu pins s2 σ H2 _ I2 q2) fun vu s3 ⟨u, H3, I3, pu, q3⟩ => ?_)
  rw [evalPart_none]
  refine wpAny_pure ?_
  have I4 : Inv X pins σ H3 { s3 with heap := s3.heap.push { cls := .type "slice", data := .fields #[vl, vu, .none] } } := I3.kept (t' := s3.toks) fun b ob q => Heap.get?_push_of_some _ q
  obtain ⟨T, id, hT, ht, hg⟩ := hr pins { s3 with heap := s3.heap.push { cls := .type "slice", data := .fields #[vl, vu, .none] } } σ H3 x v vl vu l u s3.heap.objs.size Q I4 r1 (Heap.IsSliceOf.new ..) pl pu q3
  show wpAny (model X.prog X.w) X.A (subscriptTail e (.Slice lo hi none p2) v (.ref s3.heap.objs.size)) (EP X pins σ Q) X.xe { s3 with heap := s3.heap.push { cls := .type "slice", data := .fields #[vl, vu, .none] } }
  exact tail_any (ops := [.ref s3.heap.objs.size, v]) ht hT hg (by with_unfolding_all rfl)

/-- the items of xs[lo:hi] -/
def cutV (xs : List V) (lo hi : Option Int) : List V := (xs.drop (HT.sIx xs.length 0 lo)).take (HT.sIx xs.length xs.length hi - HT.sIx xs.length 0 lo)
theorem cutV_length (xs : List V) (lo hi : Option Int) : (cutV xs lo hi).length ≤ xs.length := by
  unfold cutV
  rw [List.length_take, List.length_drop]
  (first | lia | omega)
/-- t[lo:hi], not the whole of it (the whole would be t itself) -/
def rSlT (K : PySem.W.Frag) : V → Option Int → Option Int → Hp → VK → Prop := fun x lo hi H Q => ∃ a xs, x = .ref a ∧ SqT K H a xs ∧
  ¬ (HT.sIx xs.length 0 lo = 0 ∧ HT.sIx xs.length xs.length hi = xs.length) ∧ ∀ p, H p = none → Q (.ref p) (upd H p (.tup (cutV xs lo hi)))
theorem sl_tup : SlR X (rSlT X.K) := by
  intro pins s σ H x v vl vu lo hi sl Q I rx hs pl pu h
  obtain ⟨a, xs, rfl, hx, hw, q⟩ := h
  cases rx
  obtain ⟨its, r, ht, hz⟩ := I.tuple hx
  have hlen : its.toArray.size = xs.length := by rw [List.size_toArray]; exact r.length.symm
  refine ⟨"tuple", _, PyProof.Rows.slot_tuple_getitem.lookup, ht.typeIs, ?_⟩
  refine HT.getItem_tuple_cut ht hs pl pu (by rw [hlen]; exact hw) ?_ (by rw [hlen]; exact hz)
  rw [hlen]
  refine ⟨.ref s.heap.objs.size, _, I.laid (t' := s.toks) (o := .tup (cutV xs lo hi)) (fun b ob q => Heap.get?_push_of_some _ q) (Nat.le_refl _) ?_, rfl, q _ (I.hok.fresh (Nat.le_refl _))⟩
  exact ⟨Nat.le_trans (cutV_length xs lo hi) hz, _, (r.drop (HT.sIx xs.length 0 lo)).take (HT.sIx xs.length xs.length hi - HT.sIx xs.length 0 lo), IsTup.new _ _⟩

/-! ### t < u, t + u -/
/-- t + u, t not empty: u empty gives t itself -/
def rCatT (K : PySem.W.Frag) : R2 := fun x y H Q => ∃ a b xs ys, x = .ref a ∧ y = .ref b ∧ SqT K H a xs ∧ SqT K H b ys ∧ xs ≠ [] ∧ xs.length + ys.length ≤ sizeLine ∧
  (ys = [] → Q (.ref a) H) ∧ (ys ≠ [] → ∀ p, H p = none → Q (.ref p) (upd H p (.tup (xs ++ ys))))
theorem Vals.nil_iff {xs : List V} {us : List Value} (r : Vals xs us) : us = [] ↔ xs = [] := by
  cases r with
  | nil => simp
  | cons _ _ => simp
theorem op_catT : OpR X (binaryOp .Add) (rCatT X.K) := by
  intro pins s σ H x y v u Q I rx ry h
  obtain ⟨a, b, xs, ys, rfl, rfl, ha, hb, hx, hz, q1, q2⟩ := h
  cases rx
  cases ry
  obtain ⟨its, r1, p1, _⟩ := I.tuple ha
  obtain ⟨its2, r2, p2, _⟩ := I.tuple hb
  refine HT.cat_tup p1 p2 (fun z => hx (r1.nil_iff.mp z)) (fun z => ⟨.ref a, H, I, rfl, q1 (r2.nil_iff.mp z)⟩) (fun z => ?_) (by rw [← r1.length, ← r2.length]; exact hz)
  refine ⟨.ref s.heap.objs.size, _, I.laid (t' := s.toks) (o := .tup (xs ++ ys)) (fun b ob q => Heap.get?_push_of_some _ q) (Nat.le_refl _) ?_, rfl, q2 (fun w => z (r2.nil_iff.mpr w)) _ (I.hok.fresh (Nat.le_refl _))⟩
  exact ⟨by rw [List.length_append]; exact hz, _, r1.append r2, IsTup.new _ _⟩
end
end L2

namespace L2
open PySem PySem.Spec PyProof.Rows

/-! ### places -/
/-- the place that an index of any sign means -/
def ixN (n : Nat) (i : Int) : Option Nat := if 0 ≤ i then (if i < n then some i.toNat else none) else if -(n : Int) ≤ i then some (i + n).toNat else none
def atI {α : Type} (xs : List α) (i : Int) : Option α := (ixN xs.length i).bind fun j => xs[j]?
theorem ixN_seq {n : Nat} {i : Int} {j : Nat} (h : ixN n i = some j) : seqIndex? i n = some j ∧ j < n ∧ -(n : Int) ≤ i ∧ i < n := by
  unfold ixN at h
  by_cases h0 : 0 ≤ i
  · rw [if_pos h0] at h
    by_cases h1 : i < n
    · rw [if_pos h1] at h
      have e : i.toNat = j := Option.some.inj h
      exact ⟨by rw [seqIndex_of h0 h1, e], by (first | lia | omega), by (first | lia | omega), h1⟩
    · rw [if_neg h1] at h; cases h
  · rw [if_neg h0] at h
    by_cases h1 : -(n : Int) ≤ i
    · rw [if_pos h1] at h
      have e : (i + n).toNat = j := Option.some.inj h
      exact ⟨by rw [seqIndex_neg (by (first | lia | omega)) h1, e], by (first | lia | omega), h1, by (first | lia | omega)⟩
    · rw [if_neg h1] at h; cases h
theorem atI_get {α : Type} {xs : List α} {i : Int} {v : α} (h : atI xs i = some v) : ∃ j, seqIndex? i xs.length = some j ∧ xs[j]? = some v ∧ j < xs.length ∧ -(xs.length : Int) ≤ i ∧ i < xs.length := by
  unfold atI at h
  cases e : ixN xs.length i with
  | none => rw [e] at h; cases h
  | some j =>
    rw [e] at h
    obtain ⟨h1, h2, h3, h4⟩ := ixN_seq e
    exact ⟨j, h1, h, h2, h3, h4⟩
theorem atI_nat {α : Type} {xs : List α} {j : Nat} {v : α} (h : xs[j]? = some v) : atI xs (j : Int) = some v := by
  have hj : j < xs.length := (List.getElem?_eq_some_iff.mp h).1
  have e : ixN xs.length (j : Int) = some j := by
    unfold ixN
    rw [if_pos (by (first | lia | omega)), if_pos (by (first | lia | omega))]; simp
  unfold atI; rw [e]; exact h
theorem atI_last {α : Type} (xs : List α) (v : α) : atI (xs ++ [v]) (-1) = some v := by
  have hl : (xs ++ [v]).length = xs.length + 1 := by simp
  have e : ixN (xs ++ [v]).length (-1) = some xs.length := by
    unfold ixN
    rw [hl, if_neg (by decide), if_pos (by (first | lia | omega))]
    congr 1
    (first | lia | omega)
  unfold atI
  rw [e]
  show (xs ++ [v])[xs.length]? = some v
  simp

/-! ### what may be subscripted -/
/-- what stands as an index of a plain subscript -/
def PlainIx (b : Expr) : Prop := ∀ o i, subscripted b false o i = operate [o, i] (getItem o i)
/-- a subscript by values -/
def IxR (X : Cx) (r : R2) : Prop :=
  ∀ (value slice : Expr) (pins : List (Addr × Obj)) (s : Shared) (σ : St) (H : Hp) (x y : V) (v u : Value) (Q : VK), Inv X pins σ H s → RelV x v → RelV y u → r x y H Q →
    subscripted slice false v u = operate [v, u] (getItem v u) → wpAny (model X.prog X.w) X.A (subscriptTail value slice v u) (EP X pins σ Q) X.xe s
/-- a call of a builtin's method by values: the receiver, the arguments -/
def MtR (X : Cx) (id : String) (r : V → List V → Hp → VK → Prop) : Prop :=
  ∀ (pins : List (Addr × Obj)) (s : Shared) (σ : St) (H : Hp) (x : V) (xs : List V) (v : Value) (us : List Value) (Q : VK), Inv X pins σ H s → RelV x v → Vals xs us → r x xs H Q →
    wpAny (model X.prog X.w) X.A (call (.builtin id) (v :: us)) (EP X pins σ Q) X.xe s
section
variable {X : Cx} {a b : Expr} {ta tb : TE} {pos : Pos}
/-- a[b] -/
theorem pe_ix {r : R2} (hr : IxR X r) (ha : PE X a ta) (hb : PE X b tb) (hs : PlainIx b) : PE X (.Subscript a b pos) (tOp r ta tb) := by
  intro pins s σ H Q I h
  exact Subscript_ (binT ha hb I h fun v u s2 x y H2 I2 rx ry q => hr a b pins s2 σ H2 x y v u Q I2 rx ry q (hs _ _))

def rIxL (K : PySem.W.Frag) : R2 := fun x y H Q => ∃ p xs i v, x = .ref p ∧ y = .int i ∧ SqL K H p xs ∧ atI xs i = some v ∧ Q v H
def rIxT (K : PySem.W.Frag) : R2 := fun x y H Q => ∃ p xs i v, x = .ref p ∧ y = .int i ∧ SqT K H p xs ∧ atI xs i = some v ∧ Q v H
def rIxS : R2 := fun x y H Q => ∃ z i c, x = .str z ∧ y = .int i ∧ z.length ≤ sizeLine ∧ atI z.cps.toList i = some c ∧ Q (.str ⟨#[c]⟩) H
theorem ix_list : IxR X (rIxL X.K) := by
  intro value slice pins s σ H x y v u Q I rx ry h hs
  obtain ⟨p, xs, i, z, rfl, rfl, hq, he, q⟩ := h
  cases rx
  obtain ⟨t, rfl⟩ := ry
  obtain ⟨its, r, pl, hz⟩ := I.list hq
  obtain ⟨j, h1, h2, h3, h4, h5⟩ := atI_get he
  obtain ⟨w, ew, rw'⟩ := r.get h2
  have hl := r.length
  have hn := line63
  have fin : EP X pins σ Q w s := ⟨z, H, I, rw', q⟩
  by_cases h0 : 0 ≤ i
  · have hj : i.toNat = j := by
      rw [seqIndex_of h0 h5] at h1
      exact Option.some.inj h1
    exact item_listR pl.isList h0 (by (first | lia | omega)) (by rw [hj]; simpa using ew) fin hs
  · have hj : (i + (its.toArray.size : Int)).toNat = j := by
      rw [seqIndex_neg (by (first | lia | omega)) h4] at h1
      rw [List.size_toArray, ← hl]
      exact Option.some.inj h1
    exact subscriptTail_builtinR (x := w) pl.isList.typeIs slot_list_getitem.lookup
      (wpAny_getItem_list_neg (Q := fun r s' => r = w ∧ EP X pins σ Q r s') pl.isList (by (first | lia | omega)) (by rw [List.size_toArray] <;> (first | lia | omega)) (by (first | lia | omega)) (by rw [hj]; simpa using ew) ⟨rfl, fin⟩) hs
theorem ix_tup : IxR X (rIxT X.K) := by
  intro value slice pins s σ H x y v u Q I rx ry h hs
  obtain ⟨p, xs, i, z, rfl, rfl, hq, he, q⟩ := h
  cases rx
  obtain ⟨t, rfl⟩ := ry
  obtain ⟨its, r, pl, hz⟩ := I.tuple hq
  obtain ⟨j, h1, h2, h3, h4, h5⟩ := atI_get he
  obtain ⟨w, ew, rw'⟩ := r.get h2
  have hl := r.length
  have hn := line63
  have fin : EP X pins σ Q w s := ⟨z, H, I, rw', q⟩
  exact subscriptTail_builtinR (x := w) pl.typeIs slot_tuple_getitem.lookup
    (getItem_tuple (j := j) (Q := fun r s' => r = w ∧ EP X pins σ Q r s') pl (by (first | lia | omega)) (by (first | lia | omega)) (by rw [List.size_toArray, ← hl]; exact h1) (by simpa using ew) ⟨rfl, fin⟩) hs
theorem ix_str : IxR X rIxS := by
  intro value slice pins s σ H x y v u Q I rx ry h hs
  obtain ⟨z, i, c, rfl, rfl, hz, he, q⟩ := h
  obtain ⟨t, rfl⟩ := rx
  obtain ⟨t', rfl⟩ := ry
  obtain ⟨j, h1, h2, h3, h4, h5⟩ := atI_get he
  have hl : z.cps.toList.length = z.length := by simp [Str.length]
  rw [hl] at h1 h4 h5
  have hn := line63
  exact tail_any (typeIs_str s z t) slot_str_getitem.lookup (getItem_str (c := c) (by
    have e1 : decide (i < -(2 ^ 63 : Int)) = false := decide_eq_false (by (first | lia | omega))
    have e2 : decide (i ≥ 2 ^ 63) = false := decide_eq_false (by (first | lia | omega))
    rw [e1, e2, Bool.or_false]) (by rw [h1]; simpa using h2) ⟨.str ⟨#[c]⟩, H, I.tok _, ⟨_, rfl⟩, q⟩) hs
/-! ### xs[i] = v, any sign -/
/-- the list's object behind a store -/
theorem mapSeq_set (its : List Value) (n j : Nat) (u : Value) : Obj.mapSeq (·.setIfInBounds j u) { cls := .type "list", data := .seq its.toArray n } = { cls := .type "list", data := .seq (its.set j u).toArray n } := by
  simp [Obj.mapSeq]
theorem Inv.lst {pins : List (Addr × Obj)} {σ : St} {H : Hp} {s : Shared} {p : Addr} {xs : List V} (I : Inv X pins σ H s) (h : H p = some (.lst xs)) :
    ∃ (its : List Value) (n : Nat), Vals xs its ∧ s.heap.get? p = some { cls := .type "list", data := .seq its.toArray n } ∧ xs.length ≤ sizeLine := by
  obtain ⟨z, its, n, r, e⟩ := I.hok p _ h
  exact ⟨its, n, r, e, z⟩
/-- the list at p is written by an update of its object -/
theorem Inv.lstUpd {pins : List (Addr × Obj)} {σ : St} {H : Hp} {s : Shared} {p : Addr} {xs ys : List V} {its its' : List Value} {n n' : Nat} {f : Obj → Obj} (I : Inv X pins σ H s) (h : H p = some (.lst xs))
    (ho : s.heap.get? p = some { cls := .type "list", data := .seq its.toArray n }) (hf : f { cls := .type "list", data := .seq its.toArray n } = { cls := .type "list", data := .seq its'.toArray n' }) (r : Vals ys its') (hz : ys.length ≤ sizeLine) (t : Nat) :
    Inv X pins σ (upd H p (.lst ys)) { s with heap := s.heap.update p f, toks := t } := by
  have e : (s.heap.update p f).get? p = some { cls := .type "list", data := .seq its'.toArray n' } := by
    rw [Heap.get?_update_self f ho (by rw [hf] <;> rfl), hf]
  refine I.write (x := p) (e := p) (by rw [h]; trivial) (.inl rfl) (fun b u hb q => (Heap.get?_update_other _ _ (Ne.symm hb)).trans q) ⟨_, e⟩ ?_
  exact ⟨hz, its', n', r, e⟩
def rSetL : V → V → V → Hp → (Hp → Prop) → Prop := fun o i v H Q => ∃ p xs k j, o = .ref p ∧ i = .int k ∧ H p = some (.lst xs) ∧ ixN xs.length k = some j ∧ Q (upd H p (.lst (xs.set j v)))
theorem set_list : PSet X rSetL := by
  intro pins s σ H o i v ov iv u Q I ro ri rv h
  obtain ⟨p, xs, k, j, rfl, rfl, hp, hj, q⟩ := h
  cases ro
  obtain ⟨t, rfl⟩ := ri
  obtain ⟨its, n, r, ho, hz⟩ := I.lst hp
  obtain ⟨h1, h2, h3, h4⟩ := ixN_seq hj
  have hl := r.length
  have hn := line63
  have I' : Inv X pins σ (upd H p (.lst (xs.set j v))) { s with heap := s.heap.update p (Obj.mapSeq (·.setIfInBounds j u)) } :=
    I.lstUpd hp ho (mapSeq_set its n j u) (r.set rv j) (by rw [List.length_set]; exact hz) s.toks
  by_cases h0 : 0 ≤ k
  · have hk : k.toNat = j := by
      rw [seqIndex_of h0 h4] at h1
      exact Option.some.inj h1
    exact PySem.W.ki_setAt ho h0 (by (first | lia | omega)) (by rw [List.size_toArray, ← hl]; exact h4) (by rw [hk]; exact ⟨_, I', q⟩)
  · have hk : (k + (its.toArray.size : Int)).toNat = j := by
      rw [seqIndex_neg (by (first | lia | omega)) h3] at h1
      rw [List.size_toArray, ← hl]
      exact Option.some.inj h1
    exact PySem.W.ki_setBack ho (by (first | lia | omega)) (by rw [List.size_toArray, ← hl]; exact h3) (by (first | lia | omega)) (by rw [hk]; exact ⟨_, I', q⟩)

/-! ### slices -/
theorem slice_bounds (lo hi : Option Int) (n : Nat) : (sliceBounds lo hi none n).1 = ((HT.sIx n 0 lo : Nat) : Int) ∧ (sliceBounds lo hi none n).2.1 = ((HT.sIx n n hi : Nat) : Int) ∧ (sliceBounds lo hi none n).2.2 = 1 := by
  refine ⟨?_, ?_, rfl⟩
  · cases lo with
    | none => simp [sliceBounds, HT.sIx]
    | some i =>
      simp only [sliceBounds, HT.sIx, Option.getD_none, show (1 : Int) > 0 by decide, if_true]
      by_cases h : i < 0
      · simp only [h, if_true] <;> (first | lia | omega)
      · simp only [h, if_false] <;> (first | lia | omega)
  · cases hi with
    | none => simp [sliceBounds, HT.sIx]
    | some i =>
      simp only [sliceBounds, HT.sIx, Option.getD_none, show (1 : Int) > 0 by decide, if_true]
      by_cases h : i < 0
      · simp only [h, if_true] <;> (first | lia | omega)
      · simp only [h, if_false] <;> (first | lia | omega)
theorem slicePick_cut (its : List Value) (lo hi : Option Int) : slicePick its.toArray lo hi none = ((its.drop (HT.sIx its.length 0 lo)).take (HT.sIx its.length its.length hi - HT.sIx its.length 0 lo)).toArray := by
  obtain ⟨h1, h2, h3⟩ := slice_bounds lo hi its.toArray.size
  unfold slicePick
  rw [h1, h2, h3]
  simp only [sliceRange_one, pick_run, List.size_toArray] <;> rfl
/-- xs[lo:hi] of a list: a new list -/
def rSlL (K : PySem.W.Frag) : V → Option Int → Option Int → Hp → VK → Prop := fun x lo hi H Q => ∃ a xs, x = .ref a ∧ SqL K H a xs ∧ ∀ p, H p = none → Q (.ref p) (upd H p (.lst (cutV xs lo hi)))
theorem sl_list : SlR X (rSlL X.K) := by
  intro pins s σ H x v vl vu lo hi sl Q I rx hs pl pu h
  obtain ⟨a, xs, rfl, hx, q⟩ := h
  cases rx
  obtain ⟨its, r, ht, hz⟩ := I.list hx
  have hlen := r.length
  refine ⟨"list", _, slot_list_getitem.lookup, ht.isList.typeIs, ?_⟩
  refine wpAny_getItem_list_slice ht.isList hs pl pu .none (by simp) ?_ (by rw [List.size_toArray] <;> (first | lia | omega))
  rw [slicePick_cut, ← hlen]
  refine ⟨.ref s.heap.objs.size, _, I.laid (t' := s.toks) (o := .lst (cutV xs lo hi)) (fun b ob q => Heap.get?_push_of_some _ q) (Nat.le_refl _) ?_, rfl, q _ (I.hok.fresh (Nat.le_refl _))⟩
  exact ⟨Nat.le_trans (cutV_length xs lo hi) hz, _, 0, (r.drop (HT.sIx xs.length 0 lo)).take (HT.sIx xs.length xs.length hi - HT.sIx xs.length 0 lo), Heap.get?_push_size _ rfl⟩

/-! ### in, not in: flat items -/
def flatV : V → Bool
  | .non => true
  | .bl _ => true
  | .int _ => true
  | .str _ => true
  | _ => false
/-- == of flat values -/
def eqV : V → V → Bool
  | .non, .non => true
  | .bl a, .bl b => a == b
  | .bl a, .int b => (if a then 1 else 0) == b
  | .int a, .bl b => a == (if b then 1 else 0)
  | .int a, .int b => a == b
  | .str a, .str b => a == b
  | _, _ => false
theorem eqAt_V {A : Around} {s : Shared} {y x : V} {u v : Value} (ry : RelV y u) (rx : RelV x v) (fy : flatV y = true) (fx : flatV x = true) : SeqAt.EqAt A s u v (eqV y x) := by
  cases y with
  | non =>
    cases ry
    cases x with
    | non => cases rx; exact SeqAt.EqAt.same _
    | bl b => cases rx; exact SeqAt.EqAt.none_bool b
    | int b => obtain ⟨t, rfl⟩ := rx; exact SeqAt.EqAt.none_int b t
    | str b => obtain ⟨t, rfl⟩ := rx; exact SeqAt.EqAt.none_str b t
    | _ => exact absurd (show false = true from fx) Bool.false_ne_true
  | bl a =>
    cases ry
    cases x with
    | non => cases rx; exact SeqAt.EqAt.bool_none a
    | bl b => cases rx; exact SeqAt.EqAt.bool_bool a b
    | int b => obtain ⟨t, rfl⟩ := rx; exact SeqAt.EqAt.bool_int a b t
    | str b => obtain ⟨t, rfl⟩ := rx; exact SeqAt.EqAt.bool_str a b t
    | _ => exact absurd (show false = true from fx) Bool.false_ne_true
  | int a =>
    obtain ⟨t', rfl⟩ := ry
    cases x with
    | non => cases rx; exact SeqAt.EqAt.int_none a t'
    | bl b => cases rx; exact SeqAt.EqAt.int_bool a t' b
    | int b => obtain ⟨t, rfl⟩ := rx; exact SeqAt.EqAt.int_int a t' b t
    | str b => obtain ⟨t, rfl⟩ := rx; exact SeqAt.EqAt.int_str a t' b t
    | _ => exact absurd (show false = true from fx) Bool.false_ne_true
  | str a =>
    obtain ⟨t', rfl⟩ := ry
    cases x with
    | non => cases rx; exact SeqAt.EqAt.str_none a t'
    | bl b => cases rx; exact SeqAt.EqAt.str_bool a t' b
    | int b => obtain ⟨t, rfl⟩ := rx; exact SeqAt.EqAt.str_int a t' b t
    | str b => obtain ⟨t, rfl⟩ := rx; exact SeqAt.EqAt.str_str a t' b t
    | _ => exact absurd (show false = true from fx) Bool.false_ne_true
  | _ => exact absurd (show false = true from fy) Bool.false_ne_true
/-- the items' answers, read off the values (a value's own answer does not lean on its token) -/
def eqU (x : V) (u : Value) : Bool := match u with
  | .none => eqV .non x
  | .bool b => eqV (.bl b) x
  | .int i _ => eqV (.int i) x
  | .str z _ => eqV (.str z) x
  | _ => false
theorem eqU_of {x y : V} {u : Value} (r : RelV y u) (f : flatV y = true) : eqU x u = eqV y x := by
  cases y with
  | non => cases r; rfl
  | bl b => cases r; rfl
  | int i => obtain ⟨t, rfl⟩ := r; rfl
  | str z => obtain ⟨t, rfl⟩ := r; rfl
  | _ => exact absurd (show false = true from f) Bool.false_ne_true
theorem any_eqU {x : V} : ∀ {xs : List V} {us : List Value}, Vals xs us → xs.all flatV = true → us.any (eqU x) = xs.any fun y => eqV y x
  | _, _, .nil, _ => rfl
  | y :: xs, u :: us, .cons r t, f => by
    rw [List.all_cons, Bool.and_eq_true] at f
    rw [List.any_cons, List.any_cons, eqU_of r f.1, any_eqU t f.2]
theorem mem_eqAt {A : Around} {s : Shared} {x : V} {v : Value} (rx : RelV x v) (fx : flatV x = true) : ∀ {xs : List V} {us : List Value}, Vals xs us → xs.all flatV = true → ∀ u ∈ us, SeqAt.EqAt A s u v (eqU x u)
  | _, _, .nil, _ => fun u hu => by cases hu
  | y :: xs, u :: us, .cons r t, f => fun u' hu => by
    rw [List.all_cons, Bool.and_eq_true] at f
    rcases List.mem_cons.mp hu with rfl | hu
    · rw [eqU_of r f.1]; exact eqAt_V r rx f.1 fx
    · exact mem_eqAt rx fx t f.2 u' hu
def inV (x : V) (xs : List V) : Bool := xs.any fun y => eqV y x
/-- x in a list or tuple of flat items -/
def rIn (K : PySem.W.Frag) (neg : Bool) : R2 := fun x y H Q => ∃ p xs, y = .ref p ∧ (SqL K H p xs ∨ SqT K H p xs) ∧ flatV x = true ∧ xs.all flatV = true ∧ Q (.bl (if neg then !inV x xs else inV x xs)) H
theorem op_in_seq : OpR X (compareOp .In) (rIn X.K false) := by
  intro pins s σ H x y v u Q I rx ry h
  obtain ⟨p, xs, rfl, hq, fx, fs, q⟩ := h
  cases ry
  rcases hq with hq | hq
  · obtain ⟨its, r, pl, hz⟩ := I.list hq
    refine SeqAt.in_listAt (eqU x) pl.isList (fun w hw => mem_eqAt rx fx r fs w (by simpa using hw)) ⟨.bl _, H, I, rfl, ?_⟩
    rw [show its.toArray.any (eqU x) = its.any (eqU x) by simp, any_eqU r fs]
    exact q
  · obtain ⟨its, r, pl, hz⟩ := I.tuple hq
    refine SeqAt.in_tupleAt (eqU x) pl (fun w hw => mem_eqAt rx fx r fs w (by simpa using hw)) ⟨.bl _, H, I, rfl, ?_⟩
    rw [show its.toArray.any (eqU x) = its.any (eqU x) by simp, any_eqU r fs]
    exact q
theorem op_notIn_seq : OpR X (compareOp .NotIn) (rIn X.K true) := by
  intro pins s σ H x y v u Q I rx ry h
  obtain ⟨p, xs, rfl, hq, fx, fs, q⟩ := h
  cases ry
  rcases hq with hq | hq
  · obtain ⟨its, r, pl, hz⟩ := I.list hq
    refine SeqAt.notIn_listAt (eqU x) pl.isList (fun w hw => mem_eqAt rx fx r fs w (by simpa using hw)) ⟨.bl _, H, I, rfl, ?_⟩
    rw [show its.toArray.any (eqU x) = its.any (eqU x) by simp, any_eqU r fs]
    exact q
  · obtain ⟨its, r, pl, hz⟩ := I.tuple hq
    refine SeqAt.notIn_tupleAt (eqU x) pl (fun w hw => mem_eqAt rx fx r fs w (by simpa using hw)) ⟨.bl _, H, I, rfl, ?_⟩
    rw [show its.toArray.any (eqU x) = its.any (eqU x) by simp, any_eqU r fs]
    exact q
/-! ### len, list(x), tuple(x) of any list or tuple that is read -/
theorem call_tuple_of : CallR X (.type "tuple") (fun xs H Q => ∃ p ys, xs = [.ref p] ∧ ((SqL X.K H p ys ∧ ∀ l, H l = none → Q (.ref l) (upd H l (.tup ys))) ∨ (SqT X.K H p ys ∧ Q (.ref p) H))) := by
  intro pins s σ H xs us Q I r h
  obtain ⟨p, ys, rfl, h⟩ := h
  obtain ⟨u, rfl, rx⟩ := vals1 r
  cases rx
  rcases h with ⟨hq, q⟩ | ⟨hq, q⟩
  · obtain ⟨its, r', pl, hz⟩ := I.list hq
    have hlen := r'.length
    refine call_tuple_list pl.isList (fun h' kp => ?_) (by simp only [List.size_toArray] <;> (first | lia | omega))
    have I1 : Inv X pins σ H { s with heap := h' } := I.kept (t' := s.toks) kp
    have I2 : Inv X pins σ (upd H h'.objs.size (.tup ys)) { s with heap := h'.push { cls := .type "tuple", data := .seq its.toArray } } :=
      I1.laid (t' := s.toks) (fun b o e => Heap.get?_push_of_some _ e) (Nat.le_refl _) (show ObjOk X.prog X.w _ _ _ (.tup ys) from ⟨hz, its, r', IsTup.new _ _⟩)
    exact ⟨.ref h'.objs.size, _, I2, rfl, q _ (I1.hok.fresh (Nat.le_refl _))⟩
  · obtain ⟨its, r', pl, hz⟩ := I.tuple hq
    exact call_tuple_same pl ⟨.ref p, H, I, rfl, q⟩

/-! ### the call of a builtin's method: o.m(..) -/
/-- the value is of that builtin type -/
def tyV (K : PySem.W.Frag) (T : String) (x : V) (H : Hp) : Prop := match x with
  | .str _ => T = "str"
  | .int _ => T = "int"
  | .ref p => (T = "list" ∧ ∃ xs, SqL K H p xs) ∨ (T = "tuple" ∧ ∃ o, K.lookup p = some o ∧ o.cls = .type "tuple" ∧ o.dict = none) ∨
      (T = "dict" ∧ ((∃ kvs, H p = some (.dK kvs)) ∨ ∃ kvs, H p = some (.dT kvs))) ∨ (T = "set" ∧ ∃ S n, H p = some (.set S n))
  | _ => False
theorem tyV_is {pins : List (Addr × Obj)} {σ : St} {H : Hp} {s : Shared} {T : String} {x : V} {v : Value} (I : Inv X pins σ H s) (r : RelV x v) (ty : tyV X.K T x H) :
    s.TypeIs v T ∧ ∀ a, v = .ref a → ∃ ob, s.heap.get? a = some ob ∧ ob.dict = none := by
  cases x with
  | str z =>
    obtain ⟨t, rfl⟩ := r
    cases (show T = "str" from ty)
    exact ⟨typeIs_str s z t, fun _ e => nomatch e⟩
  | int i =>
    obtain ⟨t, rfl⟩ := r
    cases (show T = "int" from ty)
    exact ⟨typeIs_int s i t, fun _ e => nomatch e⟩
  | ref p =>
    cases r
    rcases ty with ⟨rfl, xs, hq⟩ | ⟨rfl, o, hk, hc, hd⟩ | ⟨rfl, hk⟩ | ⟨rfl, S, n, hk⟩
    · obtain ⟨its, _, pl, _⟩ := I.list hq
      refine ⟨pl.isList.typeIs, fun a e => ?_⟩
      cases e
      obtain ⟨o, n, e, c, hd, _⟩ := pl
      exact ⟨o, e, hd⟩
    · refine ⟨⟨o, I.kIn p o hk, hc⟩, fun a e => ?_⟩
      cases e
      exact ⟨o, I.kIn _ o hk, hd⟩
    · have z : ∃ o, s.heap.get? p = some o ∧ o.ExactDict := by
        rcases hk with ⟨kvs, hk⟩ | ⟨kvs, hk⟩
        · obtain ⟨_, _, _, _, o, _, _, e, ex, _⟩ := I.hok p _ hk
          exact ⟨o, e, ex⟩
        · obtain ⟨_, _, _, _, o, _, _, e, ex, _⟩ := I.hok p _ hk
          exact ⟨o, e, ex⟩
      obtain ⟨o, e, ex⟩ := z
      refine ⟨⟨o, e, ex.1⟩, fun a e2 => ?_⟩
      cases e2
      exact ⟨o, e, ex.2.1⟩
    · obtain ⟨o, _, _, _, e, ex, _⟩ := I.hok p _ hk
      refine ⟨⟨o, e, ex.1⟩, fun a e2 => ?_⟩
      cases e2
      exact ⟨o, e, ex.2.1⟩
  | _ => exact False.elim ty
def tBM0 (K : PySem.W.Frag) (T : String) (r : V → List V → Hp → VK → Prop) (to : TE) : TE := fun σ H Q => to σ H fun x H1 => tyV K T x H1 ∧ r x [] H1 Q
def tBM (K : PySem.W.Frag) (T : String) (r : V → List V → Hp → VK → Prop) (to : TE) (t : TA) : TE := fun σ H Q => to σ H fun x H1 => tyV K T x H1 ∧ t σ H1 fun xs H2 => r x xs H2 Q
variable {o e : Expr} {es : List Expr} {to : TE} {t : TA} {name : Str} {apos cpos : Pos} {T id : String} {r : V → List V → Hp → VK → Prop}
theorem pe_bm0 (pa : PlainAttrs T) (slot : Slot T name id) (hty : typeOf (.builtin id) = pure (.type "method_descriptor")) (hm : MtR X id r) (ho : PE X o to)
    (hbase : attributeBase o name X.env (eval o X.env) = eval o X.env := by rfl) (hline : (apos.endLine == cpos.line) = true := by rfl) : PE X (.Call (.Attribute o name apos) [] [] cpos) (tBM0 X.K T r to) := by
  intro pins s σ H Q I h
  refine wpAny_Call_method0_late hbase hline (thn (ho pins s σ H _ I h) fun v s1 ⟨x, H1, I1, r1, ty, q1⟩ => ?_)
  obtain ⟨h1, h2⟩ := tyV_is I1 r1 ty
  exact ⟨T, id, pa, slot, hty, h1, h2, Calls.callWith_builtin rfl (PySem.evalArgs_none (hm pins s1 σ H1 x [] v [] Q I1 r1 .nil q1))⟩
theorem pe_bm (pa : PlainAttrs T) (slot : Slot T name id) (hty : typeOf (.builtin id) = pure (.type "method_descriptor")) (hm : MtR X id r) (ho : PE X o to) (ha : PA X (e :: es) t)
    (hbase : attributeBase o name X.env (eval o X.env) = eval o X.env := by rfl)
    (hfew : ((backTo cpos (starEach (e :: es) X.env)).all (fun x => !x.1) && (backToKw cpos (keywordEach [] X.env)).all (fun x => x.1.isSome)
      && decide ((e :: es).length + ([] : List Keyword).length + (if ([] : List Keyword).isEmpty then 0 else 1) < 30)) = true := by rfl)
    (hline : (apos.endLine == cpos.line) = true := by rfl) (hs : starEach (e :: es) X.env = (false, eval e X.env) :: starEach es X.env := by rfl) (hplain : (backTo cpos (starEach es X.env)).any (·.1) = false := by rfl) :
    PE X (.Call (.Attribute o name apos) (e :: es) [] cpos) (tBM X.K T r to t) := by
  intro pins s σ H Q I h
  refine wpAny_Call_method_late hbase hfew hline rfl (thn (ho pins s σ H _ I h) fun v s1 ⟨x, H1, I1, r1, ty, q1⟩ => ?_)
  obtain ⟨h1, h2⟩ := tyV_is I1 r1 ty
  refine ⟨T, id, pa, slot, hty, h1, h2, ?_⟩
  have hA := ha cpos pins s1 σ H1 _ I1 q1
  rw [hs] at hA ⊢
  refine Calls.callWith_builtin (by show (false || (backTo cpos (starEach es X.env)).any (·.1)) = false; rw [hplain] <;> rfl) (Calls.evalArgs_plain ?_)
  exact thn hA fun us s2 ⟨vs, H2, I2, r2, q2⟩ => hm pins s2 σ H2 x vs v us Q I2 r1 r2 q2
/- xs.append(e), list.index on a module's tuple .. are MtR facts of 06m -/
end
end L2

namespace L2
open PySem PySem.Spec PyProof.Rows

def MtM (X : Cx) (id : String) (r : V → List V → Hp → VK → Prop) : Prop :=
  ∀ (pins : List (Addr × Obj)) (s : Shared) (σ : St) (H : Hp) (x : V) (xs : List V) (v : Value) (us : List Value) (Q : VK), Inv X pins σ H s → RelV x v → Vals xs us → r x xs H Q →
    wpAny (model X.prog X.w) X.A (call (.builtin id) (v :: us)) (EP X pins σ Q) X.xe s

/-! ### lists of values -/
theorem Vals.one : ∀ {x : V} {us : List Value}, Vals [x] us → ∃ u, us = [u] ∧ RelV x u
  | _, _, .cons r .nil => ⟨_, rfl, r⟩
theorem Vals.zero : ∀ {us : List Value}, Vals [] us → us = []
  | _, .nil => rfl
theorem Vals.reverse {xs : List V} {us : List Value} (h : Vals xs us) : Vals xs.reverse us.reverse := by
  induction h with
  | nil => exact .nil
  | cons r t ih => rw [List.reverse_cons, List.reverse_cons]; exact Vals.append ih (.cons r .nil)
section
variable {X : Cx} {pins : List (Addr × Obj)} {σ : St} {H : Hp} {s : Shared} {l b : Addr} {xs ys zs : List V}

/-! ### the two steps: a tracked list is rewritten, a new list is laid -/
theorem Inv.lset {its its' : List Value} {n : Nat} {f : Array Value → Array Value} {t' : Nat} (I : Inv X pins σ H s) (hH : H l = some (.lst xs))
    (e : s.heap.get? l = some { cls := .type "list", data := .seq its.toArray n }) (hf : f its.toArray = its'.toArray) (hv : Vals ys its') (hz : ys.length ≤ sizeLine) :
    Inv X pins σ (upd H l (.lst ys)) { s with heap := s.heap.update l (Obj.mapSeq f), toks := t' } := by
  have q := PySem.IsL.update e f
  rw [hf] at q
  refine I.write (x := l) (e := l) (by rw [hH]; exact trivial) (.inl rfl) (fun b' u hb hu => (Heap.get?_update_other s.heap (Obj.mapSeq f) (Ne.symm hb)).trans hu) ⟨_, q⟩ ?_
  exact ⟨hz, its', _, hv, q⟩
theorem Inv.lnew {its : List Value} {t' : Nat} (I : Inv X pins σ H s) (hv : Vals ys its) (hz : ys.length ≤ sizeLine) :
    Inv X pins σ (upd H s.heap.objs.size (.lst ys)) { s with heap := s.heap.push { cls := .type "list", data := .seq its.toArray }, toks := t' } :=
  I.laid (fun _ _ q => Heap.get?_push_of_some _ q) (Nat.le_refl _) ⟨hz, its, 0, hv, Heap.get?_push_size _ rfl⟩
theorem Inv.fresh (I : Inv X pins σ H s) : H s.heap.objs.size = none := I.hok.fresh (Nat.le_refl _)
theorem Inv.lstM (I : Inv X pins σ H s) (hH : H l = some (.lst xs)) : xs.length ≤ sizeLine ∧ ∃ (its : List Value) (n : Nat), Vals xs its ∧ xs.length = its.length ∧ s.heap.get? l = some { cls := .type "list", data := .seq its.toArray n } := by
  obtain ⟨z, its, n, r, e⟩ := I.hok l _ hH
  exact ⟨z, its, n, r, r.length, e⟩

theorem notLongL {n : Nat} (h : n ≤ sizeLine) : Builtin.List.listTooLong n = false := by
  unfold Builtin.List.listTooLong
  exact decide_eq_false (by (first | lia | omega))
end

section
variable {X : Cx}

/-! ### methods -/
def rAppend : V → List V → Hp → VK → Prop := fun x vs H Q => ∃ l xs y, x = .ref l ∧ vs = [y] ∧ H l = some (.lst xs) ∧ xs.length < sizeLine ∧ Q .non (upd H l (.lst (xs ++ [y])))
theorem mt_append : MtM X "list.append" rAppend := by
  intro pins s σ H x vs v us Q I rx rv h
  obtain ⟨l, xs, y, rfl, rfl, hH, hz, q⟩ := h
  cases rx
  obtain ⟨u, rfl, ru⟩ := rv.one
  obtain ⟨z, its, n, r, hl, e⟩ := I.lstM hH
  refine call_meets F.slot_list_append ⟨_, e, rfl⟩ F.entry_list_append (F.args_list_append_2 _ _) (PySem.list_append l its.toArray n u (by rw [List.size_toArray]; (first | lia | omega))) ⟨e, ?_⟩
  refine ⟨.non, _, I.lset (its' := its ++ [u]) hH e (by simp) (r.append (.cons ru .nil)) ?_, rfl, q⟩
  rw [List.length_append, List.length_singleton]
  (first | lia | omega)

def rExtend : V → List V → Hp → VK → Prop := fun x vs H Q => ∃ l b xs zs, x = .ref l ∧ vs = [.ref b] ∧ H l = some (.lst xs) ∧ H b = some (.lst zs) ∧ xs.length + zs.length ≤ sizeLine ∧ Q .non (upd H l (.lst (xs ++ zs)))
theorem mt_extend : MtM X "list.extend" rExtend := by
  intro pins s σ H x vs v us Q I rx rv h
  obtain ⟨l, b, xs, zs, rfl, rfl, hH, hB, hz, q⟩ := h
  cases rx
  obtain ⟨u, rfl, ru⟩ := rv.one
  cases ru
  obtain ⟨z, its, n, r, hl, e⟩ := I.lstM hH
  obtain ⟨z2, its2, n2, r2, hl2, e2⟩ := I.lstM hB
  have hsz : its.toArray.size + its2.toArray.size ≤ sizeLine := by rw [List.size_toArray, List.size_toArray]; (first | lia | omega)
  have hlong : ¬ (!its.toArray.isEmpty && Builtin.List.listTooLong (its.toArray.size + its2.toArray.size)) = true := by
    rw [notLongL hsz, Bool.and_false]
    exact Bool.false_ne_true
  refine call_meets F.slot_list_extend ⟨_, e, rfl⟩ F.entry_list_extend (F.args_list_extend_2 _ _)
    (AutoSeq1.list_extend_list_list_0 l its.toArray n b its2.toArray n2 hlong (by rw [List.size_toArray]; (first | lia | omega)) (by (first | lia | omega))) ⟨e, e2, ?_⟩
  refine ⟨.non, _, I.lset (its' := its ++ its2) hH e (by simp) (r.append r2) ?_, rfl, q⟩
  rw [List.length_append]
  (first | lia | omega)

def rReverse : V → List V → Hp → VK → Prop := fun x vs H Q => ∃ l xs, x = .ref l ∧ vs = [] ∧ H l = some (.lst xs) ∧ Q .non (upd H l (.lst xs.reverse))
theorem mt_reverse : MtM X "list.reverse" rReverse := by
  intro pins s σ H x vs v us Q I rx rv h
  obtain ⟨l, xs, rfl, rfl, hH, q⟩ := h
  cases rx
  have hus := rv.zero
  subst hus
  obtain ⟨z, its, n, r, hl, e⟩ := I.lstM hH
  refine call_meets F.slot_list_reverse ⟨_, e, rfl⟩ F.entry_list_reverse (F.args_list_reverse_1 _) (AutoSeq1.list_reverse_list_0 l its.toArray n (by rw [List.size_toArray]; (first | lia | omega))) ⟨e, ?_⟩
  refine ⟨.non, _, I.lset (its' := its.reverse) hH e (by simp) r.reverse ?_, rfl, q⟩
  rw [List.length_reverse]
  (first | lia | omega)

def rClear : V → List V → Hp → VK → Prop := fun x vs H Q => ∃ l xs, x = .ref l ∧ vs = [] ∧ H l = some (.lst xs) ∧ Q .non (upd H l (.lst []))
theorem mt_clear : MtM X "list.clear" rClear := by
  intro pins s σ H x vs v us Q I rx rv h
  obtain ⟨l, xs, rfl, rfl, hH, q⟩ := h
  cases rx
  have hus := rv.zero
  subst hus
  obtain ⟨z, its, n, r, hl, e⟩ := I.lstM hH
  refine call_meets F.slot_list_clear ⟨_, e, rfl⟩ F.entry_list_clear (F.args_list_clear_1 _) (AutoSeq1.list_clear_list_0 l its.toArray n (by rw [List.size_toArray]; (first | lia | omega))) ⟨e, ?_⟩
  exact ⟨.non, _, I.lset (its' := []) (ys := []) hH e rfl .nil (Nat.zero_le _), rfl, q⟩

/-! ### list + list, list += list, list * int -/
def rCat : R2 := fun x y H Q => ∃ l b xs zs, x = .ref l ∧ y = .ref b ∧ H l = some (.lst xs) ∧ H b = some (.lst zs) ∧ xs.length + zs.length ≤ sizeLine ∧ ∀ p, H p = none → Q (.ref p) (upd H p (.lst (xs ++ zs)))
theorem op_cat : OpR X (binaryOp .Add) rCat := by
  intro pins s σ H x y v u Q I rx ry h
  obtain ⟨l, b, xs, zs, rfl, rfl, hH, hB, hz, q⟩ := h
  cases rx
  cases ry
  obtain ⟨z, its, n, r, hl, e⟩ := I.lstM hH
  obtain ⟨z2, its2, n2, r2, hl2, e2⟩ := I.lstM hB
  refine PySem.P.add_list e e2 ?_ (by rw [List.size_toArray, List.size_toArray]; (first | lia | omega))
  have ea : its.toArray ++ its2.toArray = (its ++ its2).toArray := by simp
  rw [ea]
  exact ⟨.ref _, _, I.lnew (t' := s.toks) (r.append r2) (by rw [List.length_append]; (first | lia | omega)), rfl, q _ I.fresh⟩
/-! ### del xs[i] -/
end

/-! ### xs[a:b] = ys -/
section
end

section
end
end L2

namespace L2
open PySem PySem.Spec PyProof.Rows

/-! ### lists of pairs as tables -/
section
theorem RelO.getD {o : Option V} {u : Option Value} {d : V} {d' : Value} (r : RelO o u) (rd : RelV d d') : RelV (o.getD d) (u.getD d') := by
  cases o with
  | none => cases u with
    | none => exact rd
    | some _ => exact (show False from r).elim
  | some _ => cases u with
    | none => exact (show False from r).elim
    | some _ => exact r

theorem KV.length {kvs : List (κ × V)} {vs : List (κ × Value)} (r : KV kvs vs) : kvs.length = vs.length := Paired.length r
end


/-! ### a tracked dict, its keys ints and texts or tuples of these -/
section
end

section
end

section
end


/-! ### readings and rules -/
section
end


/-! ### displays -/
section
end

/-! ### methods -/
section
end

section
end

/-! ### dict(d): a copy -/
section
end


section
end
end L2

namespace Att
open PySem PySem.W PySem.Calls PyProof.Rows

/-! ### the script -/
theorem ints_of_wellAll {P : Params} {h : Heap} : ∀ (ns : List Int) (vs : List Value), WellAll P h vs (ns.map WData.int) → IntsAre vs ns := by
  intro ns
  induction ns with
  | nil =>
    intro vs w
    rw [List.map_nil] at w
    cases w
    exact .nil
  | cons n ns ih =>
    intro vs w
    rw [List.map_cons] at w
    cases w with
    | cons a b =>
      cases a
      exact .cons _ _ (ih _ b)

theorem script_of {l : OpenLaw} {n : Nat} (hn : l.most = some n) {P : Params} {h : Heap} {args : List WData} {vals : List Value}
    (hpre : l.row.toRowW.claim.pre args = true) (hwl : WellAll P h vals args) :
    ∃ a vs ns, vals = [Value.ref a] ∧ args = [WData.list (ns.map WData.int)] ∧ h.get? a = some { cls := .type "list", data := .seq vs.toArray } ∧ IntsAre vs ns ∧ ns.length ≤ n := by
  have hsh : WShape.hasAll [] args [.list .int] = true := (pre_splitW hpre).1
  have hc : l.pre.holds [] { args := args } = true := (pre_splitW hpre).2
  obtain ⟨d, r, rfl, h1, h2⟩ := hasAllW_cons hsh
  obtain rfl := hasAllW_nil h2
  obtain ⟨xs, rfl, h3⟩ := hasW_list h1
  obtain ⟨ns, rfl⟩ := items_int h3
  have hlen : ns.length ≤ n := by
    unfold OpenLaw.pre at hc
    have h4 : (WTm.not (.lt (.lit (.int (n : Int))) (.len (.arg 0)))).holds [] { args := [.list (ns.map .int)] } = true := by
      have h4 := (holds_andW hc).1
      rw [hn] at h4
      exact h4
    have h5 := condW_of h4 (w_not (w_lt w_lit (w_len_list (w_arg rfl))))
    rw [List.length_map] at h5
    refine Nat.le_of_not_lt fun q => ?_
    have q' : (n : Int) < ((ns.length : Nat) : Int) := by (first | lia | omega)
    first
      | (rw [decide_eq_true q'] at h5; exact absurd h5 (by decide))
      | (simp at h5; (first | lia | omega))
  cases hwl with
  | cons w1 w2 =>
    cases w2
    cases w1 with
    | list ho hall => exact ⟨_, _, ns, rfl, rfl, ho, ints_of_wellAll ns _ hall, hlen⟩

theorem post_true (l : OpenLaw) (args : List WData) : l.row.toRowW.claim.post args (.bool true) args = true :=
  postW_of (r := l.row.toRowW) (X := (true == true))
    (show WShape.has [] (.bool true) .bool = true by first | rfl | decide | simp [WShape.has, WShape.arms, WShape.armsAll])
    (show (WTm.eq .res (.lit (.bool true))).value [] { args := args, res := some (.bool true), after := args } = some (.bool (true == true)) from w_eq_bool (w_res rfl) w_lit) rfl

/-! ### the attachment: holds_open's last premise (the goal 'hc' behind k_head) from a wpAny of the law's body -/
/-- the same from a codeAny of the CALL (for a layer whose function contracts speak of calls) -/
theorem attach_call {l : OpenLaw} {n : Nat} {q : Program} {loose : List Str} {XP : (Str → Option Value) → Heap → Prop} {YP : World → Heap → Prop} {d : DefRec}
    (hn : l.most = some n) (hdf : d.params.defaults = [])
    (call : ∀ (w : World) (s₀ s₁ : Shared) (mg mb : Str → Option Value) (fa : Addr) (o : Obj) (pm cd doc : Value) (a : Addr) (vs : List Value) (ns : List Int),
      Ground q loose [] XP w s₀ mg mb s₁.heap → YP w s₁.heap →
      s₁.heap.get? fa = some o → o.data = .func (docDef d.name d.params d.body d.scope pm cd doc) → s₁.heap.CodeRec cd d.name → mg d.name = some (.ref fa) →
      s₁.heap.get? a = some { cls := .type "list", data := .seq vs.toArray } → IntsAre vs ns → ns.length ≤ n → s₁.gens = #[] →
      codeAny (model l.prog w) callerA (.call (.ref fa) ⟨[.ref a], []⟩) (fun r s' => r = .ok (.ret (.bool true)) ∧ OldK s₁.heap s'.heap ∧ s'.os = s₁.os ∧ AllBare s'.gens) s₁) :
    WalkO q loose XP YP l.row.toRowW d [] (fun f vs => PySem.call f vs) := by
  intro w s₀ s₁ mg mb G Y fa o pm cd doc dV kV ho hd hcd hD hmg hg args vals as hpre hlay hrd hwl hlo
  obtain rfl : dV = .none := Dflts.none hD hdf
  obtain rfl : kV = .none := Dflts.noKw hD
  obtain ⟨a, vs, ns, rfl, rfl, hobj, hints, hlen⟩ := script_of hn hpre hwl
  refine enter_call (codeAny_mono (call w s₀ s₁ mg mb fa o pm cd doc a vs ns G Y ho (fd_plain hd) hcd hmg hobj hints hlen hg) fun r s' hq => ?_)
  obtain ⟨rfl, h2, h3, h4⟩ := hq
  exact ⟨.inl ⟨.bool true, .bool true, [], rfl, fun _ => rfl, .bool true, post_true l _, fun _ => ⟨List.Pairwise.nil, fun _ hm => (nomatch hm)⟩⟩, h2, h3, h4⟩

/-! ### rules over ANY heap (no ledger) from facts about the written part K: the library's own take a ledger (News) for what they write -/
section
/-! the whole heap as the ledger: makes every rule that writes through a ledger a rule over any heap -/
end
end Att

namespace L2
open PySem PySem.Spec PyProof.Rows

theorem vals_ints : ∀ {vs : List Value} {ns : List Int}, IntsAre vs ns → Vals (ns.map V.int) vs
  | _, _, .nil => .nil
  | _, _, .cons n t h => .cons ⟨t, rfl⟩ (vals_ints h)

/-- nothing is tracked but the script, known to the object (or it is an object of the module) -/
def Only (H : Hp) : Prop := ∀ b, H b = none ∨ ∃ o xs, H b = some (.frz o (.lst xs))

/-- THE HEAD: the law's promise, at the heap behind the top. F, the promise of the law's def, may use that base is part of the heap (so K.In base, base.Ns mainGlobals mg stand in Mod) -/
theorem law_call {P : Program} {w : World} {K : PySem.W.Frag} {mg mb : Str → Option Value} {CX : CXT} {k : Nat} {fa a : Addr} {fd : FuncData} {x : Str} {sp : Sp} {s₁ : Shared} {vs : List Value} {ns : List Int}
    (KX : K.In s₁.heap) (hns : s₁.heap.Ns mainGlobals mg) (hb : s₁.heap.Ns builtinsNs mb) (hbb : ∀ x : Str, x ≠ "__name__" → mb x = bootBuiltins x) (hlim : s₁.heap.NoLimit) (hg : s₁.gens = #[])
    (ha : s₁.heap.get? a = some { cls := .type "list", data := .seq vs.toArray }) (hi : IntsAre vs ns) (hl : ns.length ≤ sizeLine) (hr : Room k callerA)
    (F : ∀ base : Heap, K.In base → base.Ns mainGlobals mg → FnOk P w K mg base CX k fa fd [x] sp) (hbind : ∀ (s : Shared) (u : Value), BindsTo s fd ⟨[u], []⟩ [(x, u)])
    (hsp : ∀ H : Hp, Only H → SqL K H a (ns.map V.int) → sp [.ref a] H (fun v _ => v = .bl true) fun _ _ _ => False)
    (hCX : ∀ H e s', CX [] H s₁ (fun _ _ _ => False) e s' → False) :
    codeAny (model P w) callerA (.call (.ref fa) ⟨[.ref a], []⟩) (fun r s' => r = .ok (.ret (.bool true)) ∧ OldK s₁.heap s'.heap ∧ s'.os = s₁.os ∧ AllBare s'.gens) s₁ := by
  have rv := vals_ints hi
  have lenV := hi.length
  have core : ∀ H : Hp, Only H → SqL K H a (ns.map V.int) → HOk P w H s₁.heap → (∀ b, H b ≠ none → b = a) → (H a ≠ none → K.lookup a = none) →
      codeAny (model P w) callerA (.call (.ref fa) ⟨[.ref a], []⟩) (fun r s' => r = .ok (.ret (.bool true)) ∧ OldK s₁.heap s'.heap ∧ s'.os = s₁.os ∧ AllBare s'.gens) s₁ := by
    intro H hO hS hok hA hK
    have base_of : ∀ {b : Addr} {o : Obj}, s₁.heap.get? b = some o → H b = none → (hidT s₁.heap H).get? b = some o := fun e n => hidT_get e n
    have noA : ∀ {b : Addr} {o : Obj} {es : Array DictEntry} {ep : Nat}, s₁.heap.get? b = some o → o.data = .dict es ep → H b = none := fun {b o es ep} e d => by
      cases q : H b with
      | none => rfl
      | some u =>
        have e' : b = a := hA b (by rw [q]; simp)
        subst e'
        rw [ha] at e; cases e
        have d' : Data.seq vs.toArray _ = Data.dict es ep := d
        cases d'
    have nsK : ∀ {b : Addr} {m : Str → Option Value}, s₁.heap.Ns b m → (hidT s₁.heap H).Ns b m := fun {b m} ⟨o, es, ep, e, d, r⟩ => ⟨o, es, ep, base_of e (noA e d), d, r⟩
    have hKb : K.In (hidT s₁.heap H) := fun b o e => base_of (KX b o e) (by
      cases q : H b with
      | none => rfl
      | some u =>
        have e' : b = a := hA b (by rw [q]; simp)
        subst e'
        rw [hK (by rw [q]; simp)] at e; cases e)
    have hM : Mod K mg (hidT s₁.heap H) := ⟨hKb, nsK hns, ⟨mb, nsK hb, hbb⟩, let ⟨mc, h1, h2⟩ := hlim; ⟨mc, nsK h1, h2⟩⟩
    have e0 : Env0 P w K mg (hidT s₁.heap H) callerA [] s₁ H := ⟨rfl, rfl, hM, fun b o e => of_hidT e, Nat.le_of_eq (hidT_size _ _), trivial, fun b hb => absurd (show b ∈ ([] : List Addr) from hb) (by simp), hok, .of_eq hg⟩
    refine codeAny_mono ((F _ hKb (nsK hns)).run callerA [] s₁ H ⟨[.ref a], []⟩ [.ref a] [.ref a] _ _ hr e0 (hbind s₁ (.ref a)) (.cons rfl .nil) (hsp H hO hS)) fun r s' h => ?_
    cases r with
    | error e => exact (hCX H e s' h).elim
    | ok fl =>
      cases fl with
      | next => exact False.elim h
      | brk => exact False.elim h
      | cont => exact False.elim h
      | ret u =>
        obtain ⟨v, H', os, bare, un, hok', r', q⟩ := h
        have q' : v = .bl true := q
        subst q'
        obtain rfl : u = Value.bool true := r'
        refine ⟨rfl, OldK.of_keep fun b o e => ?_, os, bare⟩
        cases q : H b with
        | none => exact un.keep b o e q (by intro z; exact absurd (show b ∈ ([] : List Addr) from z) (by simp)) (by simp)
        | some u =>
          rcases hO b with z | ⟨ob, xs, z⟩
          · rw [q] at z; cases z
          · have z2 := un.frzs b ob _ z
            obtain ⟨e1, _⟩ := hok b _ z
            obtain ⟨e2, _⟩ := hok' b _ z2
            rw [e] at e1; cases e1
            exact e2
  cases hk : K.lookup a with
  | some o =>
    have e := KX a o hk
    rw [ha] at e
    cases e
    refine core (fun _ => none) (fun _ => .inl rfl) (.inr ⟨_, vs.toArray, _, hk, rfl, rfl, rfl, by rw [List.size_toArray, lenV]; exact hl, by simpa using rv⟩) (fun b u z => by have z' : (none : Option HO) = some u := z; cases z') (fun b z => absurd rfl z) fun z => absurd rfl z
  | none =>
    refine core (fun b => if b = a then some (.frz { cls := .type "list", data := .seq vs.toArray } (.lst (ns.map V.int))) else none) (fun b => ?_) (.inl (.inr ⟨{ cls := .type "list", data := .seq vs.toArray }, if_pos rfl⟩)) (fun b u z => ?_) (fun b z => ?_) fun _ => hk
    · by_cases hb : b = a
      · exact .inr ⟨_, _, if_pos hb⟩
      · exact .inl (if_neg hb)
    · by_cases hb : b = a
      · have z' := (if_pos hb).symm.trans z
        cases z'
        subst hb
        exact ⟨ha, by rw [List.length_map]; exact hl, vs, _, rv, ha⟩
      · have z' := (if_neg hb).symm.trans z
        cases z'
    · by_cases hb : b = a
      · exact hb
      · exact absurd (if_neg hb) z
end L2

namespace L2
open PySem PySem.Spec PyProof.Rows

/-- the goal that k_head leaves (case hc), from the law's promise. F gives the function object fd (K's own) once, then the promise over every base -/
theorem walk_of {l : PySem.W.OpenLaw} {n k : Nat} {q : Program} {loose : List Str} {XP : (Str → Option Value) → Heap → Prop} {YP : World → Heap → Prop} {d : DefRec} {K : Params → PySem.W.Frag} {CX : World → CXT} {sp : World → Sp} {x : Str}
    (hn : l.most = some n) (hn2 : n ≤ sizeLine) (hdf : d.params.defaults = []) (hr : Room k callerA)
    (hY : ∀ (w : World) (h : Heap), YP w h → (K w.params).In h)
    (F : ∀ (w : World) (mg : Str → Option Value) (fa : Addr) (h : Heap), (K w.params).In h → h.Ns mainGlobals mg → mg d.name = some (.ref fa) →
      ∃ fd : FuncData, (∀ (s : Shared) (u : Value), BindsTo s fd ⟨[u], []⟩ [(x, u)]) ∧
        ∀ base : Heap, (K w.params).In base → base.Ns mainGlobals mg → FnOk l.prog w (K w.params) mg base (CX w) k fa fd [x] (sp w))
    (hsp : ∀ (w : World) (H : Hp) (a : Addr) (ns : List Int), ns.length ≤ n → Only H → SqL (K w.params) H a (ns.map V.int) → sp w [.ref a] H (fun v _ => v = .bl true) fun _ _ _ => False)
    (hCX : ∀ (w : World) (H : Hp) (s : Shared) (e : Value) (s' : Shared), CX w [] H s (fun _ _ _ => False) e s' → False) :
    PySem.W.WalkO q loose XP YP l.row.toRowW d [] (fun f vs => PySem.call f vs) := by
  refine Att.attach_call hn hdf fun w s₀ s₁ mg mb fa o pm cd doc a vs ns G Y ho hd hcd hmg hobj hints hlen hg => ?_
  have KX := hY w _ Y
  obtain ⟨fd, hb, hF⟩ := F w mg fa _ KX G.T.g hmg
  exact law_call KX G.T.g G.T.b G.T.builtins G.T.nolimit hg hobj hints (Nat.le_trans hlen hn2) hr hF hb (fun H hO hS => hsp w H a ns hlen hO hS) fun H e s' => hCX w H s₁ e s'
end L2



/-! SHORT WORDS over the layer: a def of the text, its body, what a loop and a test want. -/
namespace L2
open PySem PySem.Spec PyProof.Rows

/-! ### the text by places -/
def defArgs (s : Stmt) : Arguments := match s with
  | .FunctionDef _ a _ _ _ _ _ _ _ _ => a
  | _ => { posonlyargs := [], args := [], vararg := none, kwonlyargs := [], kw_defaults := [], kwarg := none, defaults := [] }
def defBody (s : Stmt) : List Stmt := match s with
  | .FunctionDef _ _ b _ _ _ _ _ _ _ => b
  | _ => []
def defScope (s : Stmt) : Scope := match s with
  | .FunctionDef _ _ _ _ _ _ sc _ _ _ => sc
  | _ => { kind := .function, names := [], isGenerator := false, isCoroutine := false }

/-! ### no exception leaves a def -/
abbrev CX0 : CXT := fun _ _ _ _ _ _ => False
abbrev E0 : XK := fun _ _ _ => False
theorem pass0 {X : Cx} : Passes CX0 X E0 := fun _ _ _ _ _ _ _ h => h.elim

/-! ### a def (or method) of the text as it stands behind the top -/
structure Fun (K : PySem.W.Frag) (x qual : Str) (st : Stmt) (f : Addr) (fd : FuncData) : Prop where
  ex : ∃ (oc : Value) (od : Option Addr) (kV doc pm : Value) (an : Option Addr) (cdv ct : Value) (osl : Array (Option Value)),
    fd = PySem.W.fnOf x qual (defArgs st) (defBody st) (defScope st) .none kV doc pm an cdv ct ∧ K.lookup f = some ⟨oc, od, .func fd, osl⟩ ∧ PySem.W.codeIn K cdv qual = true
  kp : PySem.W.keepIn K (.ref f) = true
section
variable {P : Program} {w : World} {K : PySem.W.Frag} {mg : Str → Option Value} {base : Heap}
/-- THE RULE for a def: its body as a term of rules, and the reading of that term -/
theorem Fun.ok {x qual : Str} {st : Stmt} {f : Addr} {fd : FuncData} {N ps : List Str} {k : Nat} {sp : Sp} (F : Fun K x qual st f fd) (S : FnScope N ps (defScope st)) (len : ∀ vs H Q E, sp vs H Q E → vs.length = ps.length)
    (hbody : ∀ (cdv : Value) (A : Around) (outer : List Env) (s : Shared) (H : Hp) (vs : List V) (Q : VK) (E : XK), Room k (A.deeper (envOfC qual (defScope st) s.heap.objs.size f cdv)) → sp vs H Q E →
      ∃ t, PSs (cxOf CX0 P w K mg base N qual (defScope st) f cdv A outer s H E).nox (defBody st) t ∧ t { nx := fun _ H' => Q .non H', rt := Q } (start N vs) H) : FnOk P w K mg base CX0 (k + 1) f fd ps sp := by
  obtain ⟨oc, od, kV, doc, pm, an, cdv, ct, osl, rfl, lk, hcd⟩ := F.ex
  refine fn_of lk hcd S len fun A outer s H vs Q E hr hsp => ?_
  obtain ⟨t, h, q⟩ := hbody cdv A outer s H vs Q E hr hsp
  exact ⟨t, h.nox, q⟩
/-- how its arguments bind (no defaults): h is «fun _ _ _ _ _ _ us hl => match us, hl with | [_, _], _ => rfl», one _ a parameter -/
theorem Fun.binds {x qual : Str} {st : Stmt} {f : Addr} {fd : FuncData} {ps : List Str} (F : Fun K x qual st f fd)
    (h : ∀ (kV doc pm : Value) (an : Option Addr) (cdv ct : Value) (us : List Value), us.length = ps.length → bindArgs (PySem.W.fnOf x qual (defArgs st) (defBody st) (defScope st) .none kV doc pm an cdv ct) ⟨us, []⟩ = pure (ps.zip us)) : Binds K fd ps [] := by
  obtain ⟨oc, od, kV, doc, pm, an, cdv, ct, osl, rfl, lk, hcd⟩ := F.ex
  exact .all (h kV doc pm an cdv ct)
theorem fun_mk {x qual : Str} {st : Stmt} {f : Addr} {oc : Value} {od an : Option Addr} {osl : Array (Option Value)} {kV doc pm cdv ct : Value} (l : K.lookup f = some ⟨oc, od, .func (PySem.W.fnOf x qual (defArgs st) (defBody st) (defScope st) .none kV doc pm an cdv ct), osl⟩)
    (c : PySem.W.codeIn K cdv qual = true) (k : PySem.W.keepIn K (.ref f) = true) : Fun K x qual st f (PySem.W.fnOf x qual (defArgs st) (defBody st) (defScope st) .none kV doc pm an cdv ct) := ⟨⟨oc, od, kV, doc, pm, an, cdv, ct, osl, rfl, l, c⟩, k⟩
end
/-! ### expressions in short: the name that stands in the i-th slot -/
section
variable {X : Cx}
theorem pv (i : Nat) {x : Str} {pos : Pos} (hN : X.N[i]? = some x := by rfl) (hv : Vis X.env.scope x := by first | exact Or.inl rfl | exact Or.inr (Or.inl rfl) | exact Or.inr (Or.inr rfl)) (hd : (x == ("__debug__" : Str)) = false := by decide)
    (hcd : (x == ("__classdict__" : Str)) = false := by decide) : PE X (.Name x pos) (tVar i) := pe_var hN hv hd hcd
end

/-! ### tests -/
theorem iteT {A B : Prop} (h : A) : if true = true then A else B := by
  rw [if_pos rfl]
  exact h
theorem ite2 {c A B : Prop} [Decidable c] (h1 : c → A) (h2 : ¬ c → B) : if c then A else B := by
  by_cases h : c
  · rw [if_pos h]
    exact h1 h
  · rw [if_neg h]
    exact h2 h
/-! ### heaps -/
/-- all that was tracked is as it was -/
def Same (H H' : Hp) : Prop := ∀ b o, H b = some o → H' b = some o
theorem Same.refl (H : Hp) : Same H H := fun _ _ h => h
theorem Same.trans {H H1 H2 : Hp} (a : Same H H1) (b : Same H1 H2) : Same H H2 := fun c o h => b c o (a c o h)
theorem Same.free {H H' : Hp} (e : Same H H') {l : Addr} (h : H' l = Option.none) : H l = Option.none := by
  cases q : H l with
  | none => rfl
  | some o =>
    rw [e l o q] at h
    cases h
theorem Same.seq {K : PySem.W.Frag} {H H' : Hp} {a : Addr} {xs : List V} (e : Same H H') (h : SqL K H a xs) : SqL K H' a xs := by
  rcases h with (h | ⟨o, h⟩) | h
  · exact .inl (.inl (e _ _ h))
  · exact .inl (.inr ⟨o, e _ _ h⟩)
  · exact .inr h

end L2


namespace L2
open PySem PySem.Spec PyProof.Rows
section
end
/-! ### a dict's pairs: keys that differ -/
section
end
end L2


set_option Elab.async false
set_option linter.all false
set_option maxRecDepth 100000
/-! Comprehensions of one clause over the layer: a block of its own, with the cells that it takes from around it. -/
namespace L2
open PySem PySem.Spec PyProof.Rows

def clOf (env : Env) : List (Str × NameKind) → List (Str × Addr) → List (Str × Addr)
  | [], acc => acc
  | (n, k) :: r, acc => if (k == NameKind.free) = true then clOf env r ((n, (env.cells.lookup n).getD 0) :: acc) else clOf env r acc

theorem clOf_lookup {env : Env} {x : Str} : ∀ (l : List (Str × NameKind)) (acc : List (Str × Addr)),
    (clOf env l acc).lookup x = if (l.any fun p => (p.1 == x) && (p.2 == NameKind.free)) = true then some ((env.cells.lookup x).getD 0) else acc.lookup x
  | [], acc => by simp [clOf]
  | (n, k) :: r, acc => by
    unfold clOf
    by_cases hk : (k == NameKind.free) = true
    · rw [if_pos hk, clOf_lookup r]
      by_cases hr : (r.any fun p => (p.1 == x) && (p.2 == NameKind.free)) = true
      · rw [if_pos hr, if_pos]
        rw [List.any_cons, hr, Bool.or_true]
      · rw [if_neg hr]
        have hr' : (r.any fun p => (p.1 == x) && (p.2 == NameKind.free)) = false := (Bool.not_eq_true _).mp hr
        rw [List.any_cons, hr', Bool.or_false, hk, Bool.and_true, List.lookup_cons]
        by_cases hn : n = x
        · subst hn
          simp
        · have h1 : (n == x) = false := by simpa using hn
          have h2 : (x == n) = false := by simpa using fun z => hn (Eq.symm z)
          simp [h1, h2]
    · rw [if_neg hk, clOf_lookup r]
      have hk' : (k == NameKind.free) = false := by simpa using hk
      rw [List.any_cons, hk', Bool.and_false, Bool.false_or]

theorem closure_clOf {env : Env} {scope : Scope} (h : ∀ n k, (n, k) ∈ scope.names → (k == NameKind.free) = true → (env.cells.lookup n).isSome = true) : closureFor scope env = pure (clOf env scope.names []) := by
  have go : ∀ (l : List (Str × NameKind)) (acc : List (Str × Addr)), (∀ n k, (n, k) ∈ l → (k == NameKind.free) = true → (env.cells.lookup n).isSome = true) →
      (forIn l acc (fun (x : Str × NameKind) (r : List (Str × Addr)) => match x with
        | (name, kind) => if (kind == NameKind.free) = true then (do let a ← cellOf env name; pure (ForInStep.yield ((name, a) :: r))) else pure (ForInStep.yield r)) : Sem (List (Str × Addr))) = pure (clOf env l acc) := by
    intro l
    induction l with
    | nil => intro acc _; rfl
    | cons p r ih =>
      intro acc hp
      obtain ⟨n, k⟩ := p
      rw [List.forIn_cons]
      unfold clOf
      by_cases hk : (k == NameKind.free) = true
      · obtain ⟨c, hc⟩ := Option.isSome_iff_exists.mp (hp n k List.mem_cons_self hk)
        have hc1 : cellOf env n = pure c := by simp only [cellOf, hc]
        simp only [hk, if_true, hc1, hc, Option.getD_some]
        have := ih ((n, c) :: acc) (fun n' k' h' => hp n' k' (List.mem_cons_of_mem _ h'))
        simpa using this
      · simp only [hk, if_false]
        have := ih acc (fun n' k' h' => hp n' k' (List.mem_cons_of_mem _ h'))
        simpa using this
  have := go scope.names [] h
  simp only [closureFor]
  simpa using this

/-- what a comprehension's scope must be, beside the scope around it; cs: the names that it reads from around -/
def compOk (sc out : Scope) (xs : List Str) (cs : List Str) : Bool :=
  (sc.kind == .function) && (out.kind == .function) && sc.names.all (fun p => p.2 != NameKind.cell) && sc.names.all (fun p => p.2 != NameKind.local || sc.names.lookup p.1 == some .local) && xs.all (fun x => sc.names.lookup x == some .local)
    && sc.names.all (fun p => p.2 != NameKind.free || out.names.lookup p.1 == some .cell) && cs.all (fun c => sc.names.lookup c == some .free)

structure CompOk (sc out : Scope) (xs : List Str) (cs : List Str) : Prop where
  kind : sc.kind = .function
  okind : out.kind = .function
  cell : ∀ y ∈ sc.names, y.2 ≠ .cell
  names : ∀ y ∈ sc.names, y.2 = .local → sc.names.lookup y.1 = some .local
  x : ∀ x ∈ xs, sc.names.lookup x = some .local
  free : ∀ n k, (n, k) ∈ sc.names → k = .free → out.names.lookup n = some .cell
  cs : ∀ c ∈ cs, sc.names.lookup c = some .free
theorem compOk.mk {sc out : Scope} {xs : List Str} {cs : List Str} (h : compOk sc out xs cs = true) : CompOk sc out xs cs := by
  unfold compOk at h
  simp only [Bool.and_eq_true, List.all_eq_true, beq_iff_eq, bne_iff_ne, ne_eq, Bool.or_eq_true] at h
  obtain ⟨⟨⟨⟨⟨⟨h1, h2⟩, h3⟩, h4⟩, h5⟩, h6⟩, h7⟩ := h
  exact ⟨h1, h2, h3, fun y hy hl => (h4 y hy).resolve_left fun z => z hl, h5, fun n k hm hk => (h6 (n, k) hm).resolve_left fun z => z hk, h7⟩

theorem relabel_free {sc : Scope} {env : Env} {n : Str} (hk : env.scope.kind = .function) (hout : env.scope.names.lookup n = some .cell) (h : sc.names.lookup n = some .free) : (relabel sc env).names.lookup n = some .cell := by
  unfold relabel
  have go : ∀ l : List (Str × NameKind), l.lookup n = some .free →
      (l.map fun (p : Str × NameKind) => if (p.2 == NameKind.free && env.scope.kind == .function && env.kindOf p.1 == some .cell) = true then (p.1, NameKind.cell) else (p.1, p.2)).lookup n = some .cell := by
    intro l
    induction l with
    | nil => intro h; simp at h
    | cons p r ih =>
      intro h
      obtain ⟨m, k⟩ := p
      rw [List.lookup_cons] at h
      cases hm : n == m with
      | true =>
        rw [hm] at h
        cases h
        have e : n = m := by simpa using hm
        subst e
        have hko : env.kindOf n = some .cell := hout
        rw [List.map_cons]
        simp [hk, hko]
      | false =>
        rw [hm] at h
        rw [List.map_cons]
        by_cases hc : (k == NameKind.free && env.scope.kind == .function && env.kindOf m == some .cell) = true
        · rw [if_pos hc, List.lookup_cons, hm]
          exact ih h
        · rw [if_neg hc, List.lookup_cons, hm]
          exact ih h
  exact go sc.names h

/-- the context of a comprehension's block -/
def cxComp (X : Cx) (xs : List Str) (capt : List Nat) (scope : Scope) (C : Addr) (s : Shared) (H : Hp) (ex : List Addr) : Cx :=
  { X with N := xs ++ capt.map (fun j => X.N.getD j ""), s₀ := s, H₀ := H, env := compEnvC scope (clOf X.env scope.names []) C X.env, outer := X.stack, ex := ex, fn := fun _ => false, pn := [] }

def PTs (X : Cx) (ifs : List Expr) (t : TT) : Prop :=
  ∀ (pins : List (Addr × Obj)) (s : Shared) (σ : St) (H : Hp) (Q : Bool → Hp → Prop), Inv X pins σ H s → t σ H Q →
    wpAny (model X.prog X.w) X.A (forIn ifs true fun c r => if r = true then do let ok ← isTrue c X.env (eval c X.env); pure (ForInStep.yield ok) else pure (ForInStep.yield r)) (TP X pins σ Q) X.xe s
def tYes : TT := fun _ H Q => Q true H
theorem pts_nil {X : Cx} : PTs X [] tYes := fun pins s σ H Q I h => by
  show wpAny _ _ (pure true) _ _ _
  exact wpAny_pure ⟨H, I, h⟩
/-- the loop of a comprehension, with the step between -/
theorem compLoop_own {prog : Program} {w : World} {A : Around} {R : Result → Shared → Prop} {s : Shared} {elt target iter : Expr} {ifs : List Expr} {scope : Scope} {pos : Pos} {it acc : Value} {env : Env} (I : Nat → Shared → Prop)
    (turn : ∀ n s, I n s → wpAny (model prog w) A (pyNext it) (fun r s₁ => match r with
      | none => R (.ok .next) s₁
      | some v => wpAny (model prog w) A (letOwnedTupleGo target it v) (fun _ s₁' => wpAny (model prog w) A (assign target env v) (fun _ s₂ =>
          wpAny (model prog w) A (forIn ifs true fun c r => if r = true then do let ok ← isTrue c env (eval c env); pure (ForInStep.yield ok) else pure (ForInStep.yield r)) (fun ok s₃ =>
            if ok = true then wpAny (model prog w) A (eval elt env) (fun x s₄ =>
              wpAny (model prog w) A (call (.builtin "list.append") [acc, x]) (fun _ s₅ => ∃ m, m < n ∧ I m s₅) (notedBy (model prog w) A env fun e s' => R (.error e) s') s₄) (notedBy (model prog w) A env fun e s' => R (.error e) s') s₃
            else ∃ m, m < n ∧ I m s₃) (notedBy (model prog w) A env fun e s' => R (.error e) s') s₂) (notedBy (model prog w) A env fun e s' => R (.error e) s') s₁') (notedBy (model prog w) A env fun e s' => R (.error e) s') s₁) (notedBy (model prog w) A env fun e s' => R (.error e) s') s)
    (n : Nat) (h : I n s) : codeAny (model prog w) A (.compLoop (.ListComp elt [⟨target, iter, ifs, 0⟩] scope pos) 0 it acc env) R s := by
  refine codeAny_loop rfl I (fun n s hI => ?_) n h
  show wpAny _ A ((compTurn (.ListComp elt [⟨target, iter, ifs, 0⟩] scope pos) 0 it acc env).onRaise (fun x => do noteFrame x env; theTreesLotGoes x)) _ _ s
  refine wpAny_noted ?_
  rw [compTurn_list]
  refine wpAny_bind (wpAny_standAt (wpAny_bind (wpAny_mono (turn n s hI) (fun r s₁ h₁ => ?_) fun _ _ h' => h')))
  cases r with
  | none => exact wpAny_pure h₁
  | some v =>
    refine wpAny_bind (wpAny_mono h₁ (fun _ s₁' h₁' => ?_) fun _ _ h' => h')
    refine wpAny_bind (wpAny_mono h₁' (fun _ s₂ h₂ => wpAny_bind (wpAny_mono h₂ (fun ok s₃ h₃ => ?_) fun _ _ h' => h')) fun _ _ h' => h')
    cases ok with
    | false => exact wpAny_pure ⟨rfl, h₃⟩
    | true =>
      exact wpAny_bind (wpAny_bind (wpAny_mono h₃ (fun x s₄ h₄ => wpAny_bind (wpAny_mono h₄ (fun _ s₅ h₅ => wpAny_pure (wpAny_pure ⟨rfl, h₅⟩)) fun _ _ h' => h')) fun _ _ h' => h'))

section
variable {X : Cx} {pins : List (Addr × Obj)} {σ : St} {H H2 : Hp} {s s2 : Shared} {xs : List Str} {capt : List Nat} {scope : Scope} {fp : List Addr}

abbrev emptyL : Obj := { cls := .type "list", dict := none, data := .seq ([] : List Value).toArray }
theorem Inv.stk_lt (I : Inv X pins σ H s) {b : Addr} (hb : s.heap.objs.size ≤ b) : b ∉ frs X.stack := fun z => by
  rcases List.mem_cons.mp (I.stkSub b z) with e | e
  · exact absurd (Nat.lt_of_lt_of_le I.lt hb) (by rw [e]; exact Nat.lt_irrefl _)
  · exact I.nofs hb e

/-- the block's context stands -/
theorem comp_cxok (I : Inv X pins σ H2 s2) (ok : CompOk scope X.env.scope xs (capt.map fun j => X.N.getD j "")) (hf : ∀ b ∈ fp, FpOk X pins H2 b) (hfo : ∀ b ∈ fp, ∃ o, s2.heap.get? b = some o) {HH : Heap} (eH : HH = s2.heap.push emptyL) :
    (cxComp X xs capt scope HH.objs.size { s2 with heap := HH } H2 (s2.heap.objs.size :: fp)).Ok := by
  have hsz : HH.objs.size = s2.heap.objs.size + 1 := by rw [eH, Heap.size_push]
  have look : ∀ y c, (clOf X.env scope.names []).lookup y = some c → X.env.cells.lookup y = some c := fun y c e => by
    rw [clOf_lookup] at e
    split at e
    · rename_i ha
      obtain ⟨p, hp, hq⟩ := List.any_eq_true.mp ha
      simp only [Bool.and_eq_true, beq_iff_eq] at hq
      obtain ⟨q1, q2⟩ := hq
      subst q1
      obtain ⟨c', hc'⟩ := I.ok.has p.1 (.inl (ok.free p.1 p.2 hp q2))
      rw [hc'] at e ⊢
      exact e
    · cases e
  have keep : ∀ b o, s2.heap.get? b = some o → HH.get? b = some o := fun b o e => by rw [eH]; exact Heap.get?_push_of_some _ e
  refine ⟨I.ok.mod, ok.kind, I.ok.glob, I.ok.blt, Nat.le_refl _, fun y z c h1 h2 => I.ok.inj y z c (look y c h1) (look z c h2), fun y hy => ?_, (fun y c h _ => nomatch h), I.ok.hd, I.ok.frames, I.ok.gd, .inl rfl, fun b hb => ?_, fun b o e => ?_, ?_, fun b o e hb => ?_, fun b hb => ?_, ?_, fun b hb => I.stkFree b hb⟩
  · -- each cell's name has its cell
    have hy' : (relabel scope X.env).names.lookup y = some .cell ∨ (relabel scope X.env).names.lookup y = some .free := hy
    have inn : ∀ (l : List (Str × NameKind)) (k : NameKind), (∀ p ∈ l, p.2 ≠ .cell) → (k = .cell ∨ k = .free) →
        (l.map fun (p : Str × NameKind) => if (p.2 == NameKind.free && X.env.scope.kind == .function && X.env.kindOf p.1 == some .cell) = true then (p.1, NameKind.cell) else (p.1, p.2)).lookup y = some k → ∃ p ∈ l, p.1 = y ∧ p.2 = .free := by
      intro l k hnc hkk
      induction l with
      | nil => intro h; simp at h
      | cons p r ih =>
        intro h
        obtain ⟨m, k'⟩ := p
        rw [List.map_cons] at h
        by_cases hc : (k' == NameKind.free && X.env.scope.kind == .function && X.env.kindOf m == some .cell) = true
        · rw [if_pos hc, List.lookup_cons] at h
          have hfree : k' = .free := by
            simp only [Bool.and_eq_true, beq_iff_eq] at hc
            exact hc.1.1
          cases hm : y == m with
          | true => exact ⟨(m, k'), List.mem_cons_self, by simpa using Eq.symm (by simpa using hm), hfree⟩
          | false =>
            rw [hm] at h
            obtain ⟨p, hp, q⟩ := ih (fun p hp => hnc p (List.mem_cons_of_mem _ hp)) h
            exact ⟨p, List.mem_cons_of_mem _ hp, q⟩
        · rw [if_neg hc, List.lookup_cons] at h
          cases hm : y == m with
          | true =>
            rw [hm] at h
            cases h
            rcases hkk with z | z
            · exact absurd z (hnc (m, k') List.mem_cons_self)
            · exact ⟨(m, k'), List.mem_cons_self, by simpa using Eq.symm (by simpa using hm), z⟩
          | false =>
            rw [hm] at h
            obtain ⟨p, hp, q⟩ := ih (fun p hp => hnc p (List.mem_cons_of_mem _ hp)) h
            exact ⟨p, List.mem_cons_of_mem _ hp, q⟩
    have hex : ∃ p ∈ scope.names, p.1 = y ∧ p.2 = .free := by
      rcases hy' with h | h
      · exact inn scope.names .cell ok.cell (.inl rfl) h
      · exact inn scope.names .free ok.cell (.inr rfl) h
    obtain ⟨p, hp, q1, q2⟩ := hex
    refine ⟨_, (clOf_lookup (env := X.env) scope.names []).trans (if_pos (List.any_eq_true.mpr ⟨p, hp, ?_⟩))⟩
    simp [q1, q2]
  · -- the records that turn are not the frame's
    rcases List.mem_cons.mp hb with z | z
    · subst z
      refine ⟨Nat.ne_of_lt (show s2.heap.objs.size < HH.objs.size by (first | lia | omega)), fun y c e q => ?_⟩
      obtain ⟨v, hv⟩ := I.cell y c (look y c e)
      have := hv.lt
      rw [q] at this
      exact absurd this (Nat.lt_irrefl _)
    · obtain ⟨o, ho⟩ := hfo b z
      exact ⟨Nat.ne_of_lt (Nat.lt_of_lt_of_le (Heap.lt_size ho) (show s2.heap.objs.size ≤ HH.objs.size by (first | lia | omega))), fun y c e => (hf b z).2.2.2.2.1 y c (look y c e)⟩
  · obtain ⟨h1, h2⟩ := I.bs b o e
    exact ⟨keep b o h1, h2⟩
  · show X.base.objs.size ≤ HH.objs.size
    have h1 := I.ok.bsz
    have h2 := I.sz
    (first | lia | omega)
  · -- the base's objects do not turn
    have h0 := (I.bs b o e).1
    rcases List.mem_cons.mp hb with z | z
    · subst z
      exact absurd (Heap.lt_size h0) (Nat.lt_irrefl _)
    · rcases (hf b z).2.2.2.1 with q | q
      · exact I.ok.noex b o e q
      · have h1 := (I.ok.bs b o e).1
        exact absurd (Nat.lt_of_lt_of_le (Heap.lt_size h1) q) (Nat.lt_irrefl _)
  · show b ∉ frs X.stack
    rcases List.mem_cons.mp hb with z | z
    · subst z
      exact I.stk_lt (Nat.le_refl _)
    · intro q
      rcases List.mem_cons.mp (I.stkSub b q) with e | e
      · exact (hf b z).2.1 e
      · exact (hf b z).2.2.1 e
  · show HH.FunFrames X.base X.stack
    exact Heap.FunFrames.of_keeps (fun b o e _ => ⟨o, keep b o e, rfl⟩) I.stack

/-- the block's first state -/
theorem comp_inv (I : Inv X pins σ H2 s2) (ok : CompOk scope X.env.scope xs (capt.map fun j => X.N.getD j "")) (hcap : ∀ j ∈ capt, j < X.N.length) (hf : ∀ b ∈ fp, FpOk X pins H2 b) (hfo : ∀ b ∈ fp, ∃ o, s2.heap.get? b = some o)
    {HH h1 : Heap} {t : Nat} {m : Str → Option Value} {oc : Obj} (eH : HH = s2.heap.push emptyL) (hns : h1.Ns HH.objs.size m) (hsb : Heap.SameBut HH.objs.size (HH.push oc) h1) :
    Inv (cxComp X xs capt scope HH.objs.size { s2 with heap := HH } H2 (s2.heap.objs.size :: fp)) [(s2.heap.objs.size, emptyL)] (List.replicate xs.length none ++ capt.map fun j => (σ[j]?).join) H2 { s2 with heap := h1, toks := t } := by
  have hsz : HH.objs.size = s2.heap.objs.size + 1 := by rw [eH, Heap.size_push]
  have look : ∀ y c, (clOf X.env scope.names []).lookup y = some c → X.env.cells.lookup y = some c := fun y c e => by
    rw [clOf_lookup] at e
    split at e
    · rename_i ha
      obtain ⟨p, hp, hq⟩ := List.any_eq_true.mp ha
      simp only [Bool.and_eq_true, beq_iff_eq] at hq
      obtain ⟨q1, q2⟩ := hq
      subst q1
      obtain ⟨c', hc'⟩ := I.ok.has p.1 (.inl (ok.free p.1 p.2 hp q2))
      rw [hc'] at e ⊢
      exact e
    · cases e
  have keep0 : ∀ b o, HH.get? b = some o → h1.get? b = some o := fun b o e => hsb.extBut b o (Nat.ne_of_lt (Heap.lt_size e)) (Heap.get?_push_of_some _ e)
  have keep : ∀ b o, s2.heap.get? b = some o → h1.get? b = some o := fun b o e => keep0 b o (by rw [eH]; exact Heap.get?_push_of_some _ e)
  have hD : h1.get? s2.heap.objs.size = some emptyL := keep0 _ _ (by rw [eH]; exact Heap.get?_push_size _ rfl)
  refine ⟨comp_cxok I ok hf hfo eH, rfl, I.bare, Un.kept keep0, ⟨m, hns, fun i y v h1' h2 h3 => ?_⟩, fun y c e => ?_, I.hok.fresh (show s2.heap.objs.size ≤ HH.objs.size by (first | lia | omega)), fun y c e => I.freeC y c (look y c e), fun p hp => ?_, I.hok.kept keep, ?_⟩
  · by_cases hi : i < xs.length
    · have h2' : (List.replicate xs.length (none : Option V))[i]? = some (some v) := by
        rw [← List.getElem?_append_left (l₂ := capt.map fun j => (σ[j]?).join) (by simpa using hi)]
        exact h2
      rw [List.getElem?_replicate_of_lt hi] at h2'
      cases h2'
    · have h1'' : (capt.map fun j => X.N.getD j "")[i - xs.length]? = some y := by
        rw [← List.getElem?_append_right (l₁ := xs) (by (first | lia | omega))]
        exact h1'
      have h2' : (capt.map fun j => (σ[j]?).join)[i - xs.length]? = some (some v) := by
        have q := List.getElem?_append_right (l₁ := List.replicate xs.length (none : Option V)) (l₂ := capt.map fun j => (σ[j]?).join) (i := i) (by simpa using hi)
        rw [List.length_replicate] at q
        rw [← q]
        exact h2
      rw [List.getElem?_map] at h1'' h2'
      cases hj : capt[i - xs.length]? with
      | none => rw [hj] at h1''; cases h1''
      | some j =>
        rw [hj] at h1'' h2'
        have ey : X.N.getD j "" = y := by simpa using h1''
        have ev : (σ[j]?).join = some v := by simpa using h2'
        have hjm : j ∈ capt := List.mem_of_getElem? hj
        have hjl := hcap j hjm
        have hN : X.N[j]? = some y := by
          rw [List.getD_eq_getElem?_getD, List.getElem?_eq_getElem hjl] at ey
          rw [List.getElem?_eq_getElem hjl]
          simpa using ey
        have hσ : σ[j]? = some (some v) := by
          cases e : σ[j]? with
          | none => rw [e] at ev; cases ev
          | some o => rw [e] at ev; have ev' : o = some v := ev; rw [ev']
        have hfr : scope.names.lookup y = some .free := ok.cs y (List.mem_map.mpr ⟨j, hjm, ey⟩)
        have hout : X.env.scope.names.lookup y = some .cell := ok.free y .free (PySem.mem_of_lookup hfr) rfl
        obtain ⟨mX, _, hl⟩ := I.loc
        obtain ⟨u, ru, lk⟩ := hl j y v hN hσ (.inr (.inl hout))
        refine ⟨u, ru, ?_⟩
        have hko : X.env.kindOf y = some .cell := hout
        rcases lk with ⟨z, _⟩ | ⟨_, c, hc, hcell⟩
        · rw [hko] at z; cases z
        · refine .inr ⟨.inl (relabel_free ok.okind hout hfr), c, ?_, hcell.keeps keep⟩
          show (clOf X.env scope.names []).lookup y = some c
          rw [clOf_lookup, if_pos (List.any_eq_true.mpr ⟨(y, .free), PySem.mem_of_lookup hfr, by simp⟩), hc]
          rfl
  · obtain ⟨v, hv⟩ := I.cell y c (look y c e)
    exact ⟨v, hv.keeps keep⟩
  · have hp' : p = (s2.heap.objs.size, emptyL) := by simpa [cxComp] using hp
    subst hp'
    refine ⟨hD, I.hok.fresh (Nat.le_refl _), Nat.ne_of_lt (show s2.heap.objs.size < HH.objs.size by (first | lia | omega)), I.stk_lt (Nat.le_refl _), fun v z => by cases z⟩
  · show _ = (xs ++ capt.map fun j => X.N.getD j "").length
    simp

/-- W: a comprehension's invariant, by the turn, a measure, the items so far; N: what a turn is to reach; n slots of the target's, c what is taken from around -/
def CompG (J : It) (n : Nat) (c : St) (g : TG) (tt : TT) (te : TE) (H1 : Hp) (Fin : List V → Hp → Prop) : Prop :=
  ∃ W : Nat → Nat → List V → Hp → Prop, (∃ m, W 0 m [] H1) ∧ ∀ i m ys H, W i m ys H → (J.stop i H ∧ Fin ys H) ∨
    (J.go i H ∧ ys.length < sizeLine ∧ ∃ N : List V → Hp → Prop, (∀ ys' H', N ys' H' → ∃ m', m' < m ∧ W (i + 1) m' ys' H') ∧
      ∀ x H', J.yld i H x H' → ∀ os : St, os.length = n → g x (os ++ c) H' fun σ1 H1 => tt σ1 H1 fun b H2 => if b = true then te σ1 H2 fun y H3 => N (ys ++ [y]) H3 else N ys H2)
def tCompG (n : Nat) (g : TG) (capt : List Nat) (wi : TI) (tt : TT) (te : TE) : TE := fun σ H Q => wi σ H fun J H1 =>
  CompG J n (capt.map fun j => (σ[j]?).join) g tt te H1 fun ys H => ∀ l, H l = none → Q (.ref l) (upd H l (.lst ys))
/-- the target writes its own slots alone -/
def Shp (n : Nat) (g : TG) : Prop := ∀ v (os c : St) H Q, os.length = n → g v (os ++ c) H Q → g v (os ++ c) H fun σ' H' => (∃ os' : St, os'.length = n ∧ σ' = os' ++ c) ∧ Q σ' H'
/-- the same, the target a name -/
def CompW (J : It) (S : V → St) (tt : TT) (te : TE) (H1 : Hp) (Fin : List V → Hp → Prop) : Prop :=
  ∃ W : Nat → Nat → List V → Hp → Prop, (∃ m, W 0 m [] H1) ∧ ∀ i m ys H, W i m ys H → (J.stop i H ∧ Fin ys H) ∨
    (J.go i H ∧ ys.length < sizeLine ∧ ∃ N : List V → Hp → Prop, (∀ ys' H', N ys' H' → ∃ m', m' < m ∧ W (i + 1) m' ys' H') ∧
      ∀ x H', J.yld i H x H' → tt (S x) H' fun b H2 => if b = true then te (S x) H2 fun y H3 => N (ys ++ [y]) H3 else N ys H2)
def tComp (capt : List Nat) (wi : TI) (tt : TT) (te : TE) : TE := fun σ H Q => wi σ H fun J H1 =>
  CompW J (fun x => some x :: capt.map fun j => (σ[j]?).join) tt te H1 fun ys H => ∀ l, H l = none → Q (.ref l) (upd H l (.lst ys))
theorem CompW.g {J : It} {c : St} {tt : TT} {te : TE} {H : Hp} {Fin : List V → Hp → Prop} (h : CompW J (fun x => some x :: c) tt te H Fin) : CompG J 1 c (gName 0) tt te H Fin := by
  obtain ⟨W, w0, st⟩ := h
  refine ⟨W, w0, fun i m ys H w => ?_⟩
  rcases st i m ys H w with q | ⟨go, hl, N, hN, step⟩
  · exact .inl q
  · refine .inr ⟨go, hl, N, hN, fun x H' y os hos => ?_⟩
    obtain ⟨o, rfl⟩ := List.length_eq_one_iff.mp hos
    exact step x H' y
theorem shp_name : Shp 1 (gName 0) := fun v os c H Q hos h => by
  obtain ⟨o, rfl⟩ := List.length_eq_one_iff.mp hos
  exact ⟨⟨[some v], rfl, rfl⟩, h⟩
theorem shp_tup2 {K : PySem.W.Frag} : Shp 2 (gTup K 2 (gCons (gName 0) (gCons (gName 1) gNil))) := fun v os c H Q hos h => by
  match os, hos with
  | [a, b], _ =>
  obtain ⟨p, xs, rfl, hp, hl, v1, r1, rfl, v2, r2, rfl, rfl, q⟩ := h
  exact ⟨p, _, rfl, hp, hl, v1, _, rfl, v2, _, rfl, rfl, ⟨[some v1, some v2], rfl, rfl⟩, q⟩

/-- an untracked object becomes tracked -/
theorem HOk.track {P : Program} {w : World} {H : Hp} {h : Heap} {a : Addr} {o : HO} (k : HOk P w H h) (n : H a = none) (new : ObjOk P w (upd H a o) h a o) : HOk P w (upd H a o) h := fun b u e => by
  by_cases hb : b = a
  · subst hb; rw [upd_same] at e; cases e; exact new
  · rw [upd_ne hb] at e
    exact (k b u e).stay (fun _ _ _ q => q) (fun c q => by rw [upd_ne (ne_of_none q n)]; exact q) (fun c xs q => by rw [upd_ne (ne_of_none q n)]; exact q) fun c ob xs q => by rw [upd_ne (ne_of_none q n)]; exact q

theorem comp_block {elt iter tg : Expr} {g : TG} {ifs : List Expr} {pos : Pos} {tt : TT} {te : TE} {it : Addr} {tn : Nat → Heap → Prop} {J : It} {RR : Value → Addr → Result → Shared → Prop}
    (hx0 : ∀ e s, ¬ X.xe e s) (hc : X.calm = true) (ok : CompOk scope X.env.scope xs (capt.map fun j => X.N.getD j "")) (hcap : ∀ j ∈ capt, j < X.N.length) (hG : ∀ C s H ex, PG (cxComp X xs capt scope C s H ex) tg g) (hgs : Shp xs.length g)
    (hT : ∀ C s H ex, PTs (cxComp X xs capt scope C s H ex) ifs tt) (hE : ∀ C s H ex, PE (cxComp X xs capt scope C s H ex) elt te)
    (I2 : Inv X pins σ H2 s2) (T : Turn X.prog X.w X.K tg J fp it tn) (st2 : tn 0 s2.heap) (f2 : ∀ b ∈ fp, FpOk X pins H2 b)
    (Fin : List V → Hp → Prop) (hW : CompG J xs.length (capt.map fun j => (σ[j]?).join) g tt te H2 Fin)
    (hRR : ∀ D C s' ys H' oc, H' D = none → Fin ys H' → Inv X pins σ (upd H' D (.lst ys)) s' → s'.heap.get? C = some oc → (∃ m, s'.heap.Ns C m) → C ≠ D → H' C = none → C ≠ X.env.locals → C ∉ frs X.stack → X.s₀.heap.objs.size ≤ C → (∀ y c, X.env.cells.lookup y = some c → c ≠ C) → (∀ p ∈ X.pn ++ pins, p.1 ≠ C) →
      (∀ v, oc.data ≠ .cell v) → RR (.ref D) C (.ok .next) s') :
    wpAny (model X.prog X.w) X.A (newList []) (fun acc s₃ => wpAny (model X.prog X.w) X.A (newFunctionEnv scope X.env.globals (clOf X.env scope.names []) [] X.env.qual none .none (some X.env)) (fun cenv s₄ =>
      codeAny (model X.prog X.w) X.A (.compStart (.ListComp elt [⟨tg, iter, ifs, 0⟩] scope pos) 0 (.ref it) acc { cenv with scope := relabel scope X.env }) (RR acc cenv.locals) s₄) X.xe s₃) X.xe s2 := by
  refine wpAny_newObj_type (wpAny_newFunctionEnv ok.cell (by intro y hy; simp at hy) (fun h1 hns hsb => ?_) ok.kind)
  dsimp only at hns hsb ⊢
  generalize eH : s2.heap.push { cls := .type "list", dict := none, data := .seq ([] : List Value).toArray } = HH at hns hsb ⊢
  have eH' : HH = s2.heap.push emptyL := eH.symm
  have hsz : HH.objs.size = s2.heap.objs.size + 1 := by rw [eH', Heap.size_push]
  have hfo : ∀ b ∈ fp, ∃ o, s2.heap.get? b = some o := fun b hb => let ⟨o, ho, _⟩ := T.obj 0 _ st2 b hb; ⟨o, ho⟩
  have flt : ∀ b ∈ fp, b < s2.heap.objs.size := fun b hb => let ⟨o, ho⟩ := hfo b hb; Heap.lt_size ho
  have keep1 : ∀ b o, s2.heap.get? b = some o → h1.get? b = some o := fun b o e =>
    hsb.extBut b o (Nat.ne_of_lt (Nat.lt_of_lt_of_le (Heap.lt_size e) (show s2.heap.objs.size ≤ HH.objs.size by (first | lia | omega)))) (Heap.get?_push_of_some _ (by rw [eH']; exact Heap.get?_push_of_some _ e))
  have I4 := comp_inv (t := s2.toks + ([] : List (Str × Value)).length) I2 ok hcap f2 hfo eH' hns hsb
  have st4 : tn 0 h1 := T.keep 0 _ _ st2 fun b _ o e => keep1 b o e
  obtain ⟨W, ⟨m0, w0⟩, turn⟩ := hW
  generalize hX : cxComp X xs capt scope HH.objs.size { s2 with heap := HH } H2 (s2.heap.objs.size :: fp) = Y at I4
  have eProg : Y.prog = X.prog := by rw [← hX]; rfl
  have eW : Y.w = X.w := by rw [← hX]; rfl
  have eK : Y.K = X.K := by rw [← hX]; rfl
  have eA : Y.A = X.A := by rw [← hX]; rfl
  have eEnv : Y.env = compEnvC scope (clOf X.env scope.names []) HH.objs.size X.env := by rw [← hX]; rfl
  have eXe : Y.xe = X.xe := by rw [← hX]; rfl
  have eCalm : Y.calm = true := by rw [← hX]; exact hc
  have ePn : Y.pn = [] := by rw [← hX]; rfl
  have eEx : Y.ex = s2.heap.objs.size :: fp := by rw [← hX]; rfl
  have eFs : Y.fs = frs X.stack := by rw [← hX]; rfl
  have hT' : PTs Y ifs tt := by rw [← hX]; exact hT _ _ _ _
  have hE' : PE Y elt te := by rw [← hX]; exact hE _ _ _ _
  have hG' : PG Y tg g := by rw [← hX]; exact hG _ _ _ _
  have eH0 : Y.H₀ = H2 := by rw [← hX]; rfl
  have eS0 : Y.s₀ = { s2 with heap := HH } := by rw [← hX]; rfl
  have eL : Y.env.locals = HH.objs.size := by rw [eEnv]; rfl
  have ecl : Y.env.cells = clOf X.env scope.names [] := by rw [eEnv]; rfl
  have look : ∀ y c, (clOf X.env scope.names []).lookup y = some c → X.env.cells.lookup y = some c := fun y c e => by
    rw [clOf_lookup] at e
    split at e
    · rename_i ha
      obtain ⟨p, hp, hq⟩ := List.any_eq_true.mp ha
      simp only [Bool.and_eq_true, beq_iff_eq] at hq
      obtain ⟨q1, q2⟩ := hq
      subst q1
      obtain ⟨c', hc'⟩ := I2.ok.has p.1 (.inl (ok.free p.1 p.2 hp q2))
      rw [hc'] at e ⊢
      exact e
    · cases e
  have fpOk : ∀ {pins' : List (Addr × Obj)} {H' : Hp}, (∀ b ∈ fp, H' b = none) → (∀ p ∈ pins', p.1 ∉ fp) → ∀ b ∈ fp, FpOk Y pins' H' b := fun {pins' H'} hn hp b hb => by
    have hlt := flt b hb
    refine ⟨hn b hb, by rw [eL]; exact Nat.ne_of_lt (Nat.lt_of_lt_of_le hlt (show s2.heap.objs.size ≤ HH.objs.size by (first | lia | omega))), ?_, .inl (by rw [eEx]; exact List.mem_cons_of_mem _ hb), fun y c e => (f2 b hb).2.2.2.2.1 y c (look y c (by rw [← ecl]; exact e)), fun p hpp z => ?_⟩
    · rw [eFs]
      intro q
      rcases List.mem_cons.mp (I2.stkSub b q) with e | e
      · exact (f2 b hb).2.1 e
      · exact (f2 b hb).2.2.1 e
    · rw [ePn, List.nil_append] at hpp
      exact hp p hpp (by rw [z]; exact hb)
  have Dnf : s2.heap.objs.size ∉ fp := fun z => absurd (flt _ z) (Nat.lt_irrefl _)
  have loop : codeAny (model X.prog X.w) X.A (.compLoop (.ListComp elt [⟨tg, iter, ifs, 0⟩] scope pos) 0 (.ref it) (.ref s2.heap.objs.size) Y.env) (RR (.ref s2.heap.objs.size) HH.objs.size) { s2 with heap := h1, toks := s2.toks + ([] : List (Str × Value)).length } := by
    refine compLoop_own (fun n s' => ∃ i ys its k os H', Inv Y [(s2.heap.objs.size, { cls := .type "list", data := .seq its.toArray k })] (os ++ capt.map fun j => (σ[j]?).join) H' s' ∧ os.length = xs.length ∧ Vals ys its ∧ ys.length ≤ sizeLine ∧ tn i s'.heap ∧ (∀ b ∈ fp, H' b = none) ∧ W i n ys H') ?_ m0
      ⟨0, [], [], 0, _, H2, I4, List.length_replicate, .nil, Nat.zero_le _, st4, fun b hb => (f2 b hb).1, w0⟩
    rintro n s3 ⟨i, ys, its, k, os, H3, I3, hos, rv, hys, st3, fr3, w3⟩
    have noErr : ∀ {e : Value} {s : Shared}, X.xe e s → notedBy (model X.prog X.w) X.A Y.env (fun e s' => RR (.ref s2.heap.objs.size) HH.objs.size (.error e) s') e s := fun {e s} z => (hx0 e s z).elim
    have pinD := I3.pin (s2.heap.objs.size, { cls := .type "list", data := .seq its.toArray k }) (by simp)
    have fp3 := fpOk (pins' := [(s2.heap.objs.size, { cls := .type "list", data := .seq its.toArray k })]) fr3 (by simpa using Dnf)
    rcases turn i n ys H3 w3 with ⟨stop, fin⟩ | ⟨go, hlt, N, hN, step⟩
    · -- it stops
      have d := T.done Y eProg eW eK eCalm i _ s3 _ H3 X.xe I3 fp3 st3 stop
      rw [eA] at d
      refine wpAny_mono d (fun r s4 ⟨hr, I4'⟩ => ?_) fun e s z => noErr z
      subst hr
      show RR (.ref s2.heap.objs.size) HH.objs.size (.ok .next) s4
      have pinD4 := I4'.pin (s2.heap.objs.size, { cls := .type "list", data := .seq its.toArray k }) (by simp)
      obtain ⟨mC, nsC, _⟩ := I4'.loc
      rw [eL] at nsC
      obtain ⟨oC, esC, epC, hoC, hdC, _⟩ := id nsC
      have base4 := I4'.base
      rw [eFs, eEx, eH0, eS0] at base4
      have hCn : H3 HH.objs.size = none := by rw [← eL]; exact I4'.free
      refine hRR s2.heap.objs.size HH.objs.size s4 ys H3 oC pinD4.2.1 fin ?_ hoC ⟨mC, nsC⟩ (Nat.ne_of_gt (show s2.heap.objs.size < HH.objs.size by (first | lia | omega))) hCn (Nat.ne_of_gt (Nat.lt_of_lt_of_le I2.lt (show s2.heap.objs.size ≤ HH.objs.size by (first | lia | omega)))) (I2.stk_lt (by (first | lia | omega))) (by have := I2.sz; (first | lia | omega)) (fun y c e z => ?_) (fun p hp z => ?_) (fun v z => by rw [hdC] at z; cases z)
      · have hok4 := I4'.hok
        rw [eProg, eW] at hok4
        have hbl : ∀ b ob, s2.heap.get? b = some ob → b ∉ fp → HH.get? b = some ob ∧ b ∉ s2.heap.objs.size :: fp := fun b ob e hm =>
          ⟨by rw [eH']; exact Heap.get?_push_of_some _ e, fun z => (List.mem_cons.mp z).elim (fun q => absurd (Heap.lt_size e) (by rw [q]; exact Nat.lt_irrefl _)) hm⟩
        refine I2.call' (ch := fp) (by rw [I4'.os, eS0]) ⟨fun b ob e nn hb hx => ?_, fun b ob e nn hb hx => ?_, fun b ob e nn hx => ?_, fun b ob e hx => ?_, fun b xs e => ?_, fun b ob u e => ?_, fun b pp qq e => ?_⟩ (HOk.track hok4 pinD4.2.1 ⟨hys, its, k, rv, pinD4.1⟩) I4'.bare fun b hb => ⟨(f2 b hb).2.2.2.1, (f2 b hb).2.1, (f2 b hb).2.2.2.2.1, (f2 b hb).2.2.2.2.2⟩
        · obtain ⟨h1', h2'⟩ := hbl b ob e hx
          exact base4.keep b ob h1' nn hb h2'
        · obtain ⟨h1', h2'⟩ := hbl b ob e hx
          exact base4.slot b ob h1' nn hb h2'
        · obtain ⟨h1', h2'⟩ := hbl b ob e hx
          rw [upd_ne (Nat.ne_of_lt (Heap.lt_size e))]
          exact base4.free b ob h1' nn h2'
        · obtain ⟨h1', h2'⟩ := hbl b ob e hx
          exact base4.there b ob h1' h2'
        · have q := base4.tups b xs e
          rw [upd_ne (ne_of_none q pinD4.2.1)]
          exact q
        · have q := base4.frzs b ob u e
          rw [upd_ne (ne_of_none q pinD4.2.1)]
          exact q
        · have q := base4.tbls b pp qq e
          rw [upd_ne (ne_of_none q pinD4.2.1)]
          exact q
      · obtain ⟨v, hv⟩ := I2.cell y c e
        have := hv.lt
        rw [z] at this
        exact absurd this (Nat.not_lt.mpr (show s2.heap.objs.size ≤ HH.objs.size by (first | lia | omega)))
      · have := Heap.lt_size (I2.pin p hp).1
        rw [z] at this
        exact absurd this (Nat.not_lt.mpr (show s2.heap.objs.size ≤ HH.objs.size by (first | lia | omega)))
    · -- one turn
      have d := T.item Y eProg eW eK eCalm i _ s3 _ H3 X.xe I3 fp3 st3 go
      rw [eA] at d
      refine wpAny_mono d (fun r s4 ⟨u, hr, h4⟩ => ?_) fun e s z => noErr z
      subst hr
      refine wpAny_mono h4 (fun _ s5 ⟨v, H5, I5, r5, y5, st5, fr5⟩ => ?_) fun e s z => noErr z
      have fp5 := fpOk (pins' := [(s2.heap.objs.size, { cls := .type "list", data := .seq its.toArray k })]) fr5 (by simpa using Dnf)
      have I5' := I5.pinned fp5 (T.obj _ _ st5)
      have pg' := hG' _ s5 _ H5 v u _ I5' r5 (hgs v os _ H5 _ hos (step v H5 y5 os hos))
      rw [eProg, eW, eA, eXe] at pg'
      refine wpAny_mono pg' (fun _ s6 ⟨σ6, H6, I6, ⟨os6, hos6, e6⟩, q6⟩ => ?_) fun e s z => noErr z
      subst e6
      have t6 := hT' _ s6 _ H6 _ I6 q6
      rw [eProg, eW, eA, eXe] at t6
      refine wpAny_mono t6 (fun b s7 ⟨H7, I7, q7⟩ => ?_) fun e s z => noErr z
      have ntn : ∀ {σ' : St} {H' : Hp} {s' : Shared}, Inv Y ([(s2.heap.objs.size, { cls := .type "list", data := .seq its.toArray k })] ++ pinsAt fp s5.heap) σ' H' s' → tn (i + 1) s'.heap ∧ ∀ b ∈ fp, H' b = none := fun {σ' H' s'} J' => by
        refine ⟨T.keep _ _ _ st5 fun b hb o e => (J'.pin (b, o) (List.mem_append_right _ (List.mem_append_right _ (mem_pinsAt hb e)))).1, fun b hb => ?_⟩
        obtain ⟨o, e, _⟩ := T.obj _ _ st5 b hb
        exact (J'.pin (b, o) (List.mem_append_right _ (List.mem_append_right _ (mem_pinsAt hb e)))).2.1
      cases b with
      | false =>
        rw [if_neg Bool.false_ne_true] at q7
        obtain ⟨m', hm, w7⟩ := hN _ _ q7
        rw [if_neg Bool.false_ne_true]
        exact ⟨m', hm, i + 1, ys, its, k, os6, H7, I7.unpinned, hos6, rv, hys, (ntn I7).1, (ntn I7).2, w7⟩
      | true =>
        rw [if_pos rfl] at q7
        rw [if_pos rfl]
        have e7 := hE' _ s7 _ H7 _ I7 q7
        rw [eProg, eW, eA, eXe] at e7
        refine wpAny_mono e7 (fun uy s8 ⟨y, H8, I8, r8, n8⟩ => ?_) fun e s z => noErr z
        obtain ⟨m', hm, w8⟩ := hN _ _ n8
        have pin8 := I8.pin (s2.heap.objs.size, { cls := .type "list", data := .seq its.toArray k }) (by simp)
        have hlen : ys.length = its.length := rv.length
        refine wpAny_list_append_plain (hsz := by rw [List.size_toArray]; (first | lia | omega)) ⟨k, pin8.1⟩ fun h9 ⟨k9, hl9⟩ hs9 => ?_
        have hk9 : ∀ b o, b ≠ s2.heap.objs.size → s8.heap.get? b = some o → h9.get? b = some o := fun b o hb e => (hs9.2 b hb).trans e
        have I8u : Inv Y (pinsAt fp s5.heap) (os6 ++ capt.map fun j => (σ[j]?).join) H8 s8 := I8.pins_of fun p hp => I8.pin p (List.mem_append_right _ (List.mem_append_right _ hp))
        have I9 : Inv Y (pinsAt fp s5.heap) (os6 ++ capt.map fun j => (σ[j]?).join) H8 { s8 with heap := h9, toks := s8.toks } := I8u.turned (it := s2.heap.objs.size) hk9 pin8.2.1 (by rw [eL]; exact Nat.ne_of_lt (show s2.heap.objs.size < HH.objs.size by (first | lia | omega))) (.inl (by rw [eEx]; exact List.mem_cons_self))
          (fun y c e z => by
            rw [ecl] at e
            obtain ⟨v', hv⟩ := I2.cell y c (look y c e)
            have := hv.lt
            rw [z] at this
            exact absurd this (Nat.lt_irrefl _))
          (fun p hp z => by
            rw [ePn, List.nil_append] at hp
            exact Dnf (by rw [← z]; exact (of_pinsAt hp).1))
        have hl9' : h9.get? s2.heap.objs.size = some { cls := .type "list", data := .seq (its ++ [uy]).toArray k9 } := by
          rw [hl9]; simp
        refine ⟨m', hm, i + 1, ys ++ [y], its ++ [uy], k9, os6, H8, I9.pins_of fun p hp => ?_, hos6, rv.append (.cons r8 .nil), ?_, ?_, (ntn I8).2, w8⟩
        · have hp' : p = (s2.heap.objs.size, { cls := .type "list", data := .seq (its ++ [uy]).toArray k9 }) := by simpa using hp
          subst hp'
          exact ⟨hl9', pin8.2.1, pin8.2.2.1, pin8.2.2.2.1, fun v z => by cases z⟩
        · rw [List.length_append, List.length_singleton]; (first | lia | omega)
        · refine T.keep _ _ _ (ntn I8).1 fun b hb o e => hk9 b o (fun z => Dnf (by rw [← z]; exact hb)) e
  rw [eEnv] at loop
  refine codeAny_compStart_list ?_ ?_
  · exact loop
  · exact T.self _ 0 _ _ _ st4 loop

/-- y = [..]: the list is stored ahead of the block's end -/
theorem ps_compG {elt iter tg : Expr} {g : TG} {py : Pos} {ifs : List Expr} {pos spos : Pos} {wi : TI} {tt : TT} {te : TE} {i : Nat} {y : Str} (xs : List Str) (capt : List Nat)
    (hN : X.N.Nodup) (hiy : X.N[i]? = some y) (hy : Loc X.env.scope y)
    (hx0 : ∀ e s, ¬ X.xe e s) (hc : X.calm = true) (hi : PI X tg iter wi) (hG : ∀ C s H ex, PG (cxComp X xs capt scope C s H ex) tg g) (hgs : Shp xs.length g)
    (hT : ∀ C s H ex, PTs (cxComp X xs capt scope C s H ex) ifs tt) (hE : ∀ C s H ex, PE (cxComp X xs capt scope C s H ex) elt te)
    (hk : compOk scope X.env.scope xs (capt.map fun j => X.N.getD j "") = true) (hcap : ∀ j ∈ capt, j < X.N.length)
    (hsw : swapsWith (.ListComp elt [⟨tg, iter, ifs, 0⟩] scope pos) (some (.Name y py)) spos.line X.env = pure true)
    (hs : ∀ y, foldedSetIterable iter X.env y = pure y := by intro _; rfl) (hf : X.fn y = true ∨ X.env.scope.names.lookup y = some .local := by first | exact .inl rfl | exact .inr rfl | assumption) :
    PS X (.Assign [.Name y py] (.ListComp elt [⟨tg, iter, ifs, 0⟩] scope pos) spos) (tAsg (tCompG xs.length g capt wi tt te) (gName i)) := by
  intro pins s σ H D0 I h
  have ok := compOk.mk hk
  rw [exec_Assign_Name_used _ _ _ _ hsw]
  refine wpAny_bind (wpAny_standAt (wpAny_bind ?_))
  show wpAny _ X.A (do let _ ← comprehension (.ListComp elt [⟨tg, iter, ifs, 0⟩] scope pos) scope X.env _ (newList []) false (eval iter X.env) (some (assign (.Name y py) X.env))) _ _ s
  refine wpAny_bind (wpAny_mono (wpAny_comprehension_free (use := some (assign (.Name y py) X.env)) (cl := clOf X.env scope.names []) (Q := fun _ s' => SP X pins D0 .next s') rfl hs (closure_clOf fun n k hm hf => ?_) ok.kind ok.names (thn (hi pins s σ H _ I h) fun xv s1 h1 => thn h1 fun itv s2 h2 => ?_))
    (fun _ s' hq => wpAny_pure (wpAny_pure hq)) fun _ _ e => e)
  · obtain ⟨c, e⟩ := I.ok.has n (.inl (ok.free n k hm (by simpa using hf)))
    rw [e]; rfl
  · obtain ⟨it, fp, tn, J, H2, e, I2, T, st2, f2, hW⟩ := h2
    subst e
    refine comp_block (RR := fun acc C => compPost (model X.prog X.w) X.A X.xe (some (assign (.Name y py) X.env)) (fun _ s' => SP X pins D0 .next s') acc C) hx0 hc ok hcap hG hgs hT hE I2 T st2 f2 (fun ys H => ∀ l, H l = none → gName i (.ref l) σ (upd H l (.lst ys)) D0.nx) hW ?_
    intro D C s' ys H' oc hD fin I' hC ⟨m, hns⟩ hCD hCn hL hst hsz hcl hpn hnc
    show wpAny _ _ (assign (.Name y py) X.env (.ref D)) _ _ s'
    have hCf : C ∉ X.fs := fun z => by
      rcases I'.ok.stk with e | ⟨e, _⟩
      · exact hst (by rw [e]; exact z)
      · refine hst ?_
        rw [e]
        unfold frs
        rw [List.filterMap_cons]
        split
        · exact z
        · exact List.mem_cons_of_mem _ z
    have Ip : Inv X (pins ++ [(C, oc)]) σ (upd H' D (.lst ys)) s' := I'.pins_of fun p hp => (List.mem_append.mp hp).elim (fun z => I'.pin p (List.mem_append_right _ z)) fun z => by
      have z' : p = (C, oc) := by simpa using z
      subst z'
      exact ⟨hC, by rw [upd_ne hCD]; exact hCn, hL, hCf, hnc⟩
    have pg := pg_name (X := X) (i := i) (x := y) (pos := py) hN hiy hy hf
    refine thn (pg _ s' σ _ (.ref D) (.ref D) (fun σ' H'' => D0.nx σ' H'' ∧ H'' = upd H' D (.lst ys)) Ip rfl ⟨fin D hD, rfl⟩) fun _ s'' ⟨σ', H'', I'', q, eH⟩ => ?_
    subst eH
    have pC := I''.pin (C, oc) (by simp)
    obtain ⟨o, es, ep, ho, r⟩ := hns
    rw [hC] at ho
    cases ho
    refine ⟨m, ⟨oc, es, ep, pC.1, r⟩, fun h' hsb => ?_⟩
    have Iu : Inv X pins σ' (upd H' D (.lst ys)) s'' := I''.pins_of fun p hp => I''.pin p (List.mem_append_right _ (List.mem_append_left _ hp))
    exact ⟨σ', _, Iu.turned (t' := s''.toks) (it := C) (fun b o hb e => (hsb.2 b hb).trans e) pC.2.1 hL (.inr hsz) hcl hpn, q⟩
theorem pe_comp {elt iter : Expr} {x : Str} {px : Pos} {ifs : List Expr} {pos : Pos} {wi : TI} {tt : TT} {te : TE} (capt : List Nat)
    (hx0 : ∀ e s, ¬ X.xe e s) (hc : X.calm = true) (hi : PI X (.Name x px) iter wi)
    (hT : ∀ C s H ex, PTs (cxComp X [x] capt scope C s H ex) ifs tt) (hE : ∀ C s H ex, PE (cxComp X [x] capt scope C s H ex) elt te)
    (hk : compOk scope X.env.scope [x] (capt.map fun j => X.N.getD j "") = true) (hcap : ∀ j ∈ capt, j < X.N.length) (hnd : (x :: capt.map fun j => X.N.getD j "").Nodup)
    (hs : ∀ y, foldedSetIterable iter X.env y = pure y := by intro _; rfl) : PE X (.ListComp elt [⟨.Name x px, iter, ifs, 0⟩] scope pos) (tComp capt wi tt te) := by
  intro pins s σ H Q I h
  have ok := compOk.mk hk
  rw [eval_ListComp]
  refine wpAny_comprehension_free (use := none) (cl := clOf X.env scope.names []) rfl hs (closure_clOf fun n k hm hf => ?_) ok.kind ok.names (thn (hi pins s σ H _ I h) fun xv s1 h1 => thn h1 fun itv s2 h2 => ?_)
  · obtain ⟨c, e⟩ := I.ok.has n (.inl (ok.free n k hm (by simpa using hf)))
    rw [e]; rfl
  · obtain ⟨it, fp, tn, J, H2, e, I2, T, st2, f2, hW⟩ := h2
    subst e
    refine comp_block (RR := fun acc C => compPost (model X.prog X.w) X.A X.xe none (EP X pins σ Q) acc C) hx0 hc ok hcap (xs := [x]) (g := gName 0) (fun C s H ex => pg_name hnd rfl (.inl (lookup_relabel_local (ok.x x (by simp)))) (.inr (lookup_relabel_local (ok.x x (by simp))))) shp_name hT hE I2 T st2 f2 (fun ys H => ∀ l, H l = none → Q (.ref l) (upd H l (.lst ys))) hW.g ?_
    intro D C s' ys H' oc hD fin I' hC ⟨m, hns⟩ hCD hCn hL _ hsz hcl hpn _
    refine ⟨m, hns, fun h' hsb => ⟨.ref D, _, I'.turned (t' := s'.toks) (it := C) (fun b o hb e => (hsb.2 b hb).trans e) (by rw [upd_ne hCD]; exact hCn) hL (.inr hsz) hcl hpn, rfl, fin D hD⟩⟩

/-- y = [..]: the list is stored ahead of the block's end -/
theorem ps_comp {elt iter : Expr} {x : Str} {px : Pos} {py : Pos} {ifs : List Expr} {pos spos : Pos} {wi : TI} {tt : TT} {te : TE} {i : Nat} {y : Str} (capt : List Nat)
    (hN : X.N.Nodup) (hiy : X.N[i]? = some y) (hy : Loc X.env.scope y)
    (hx0 : ∀ e s, ¬ X.xe e s) (hc : X.calm = true) (hi : PI X (.Name x px) iter wi)
    (hT : ∀ C s H ex, PTs (cxComp X [x] capt scope C s H ex) ifs tt) (hE : ∀ C s H ex, PE (cxComp X [x] capt scope C s H ex) elt te)
    (hk : compOk scope X.env.scope [x] (capt.map fun j => X.N.getD j "") = true) (hcap : ∀ j ∈ capt, j < X.N.length) (hnd : (x :: capt.map fun j => X.N.getD j "").Nodup)
    (hsw : swapsWith (.ListComp elt [⟨.Name x px, iter, ifs, 0⟩] scope pos) (some (.Name y py)) spos.line X.env = pure true)
    (hs : ∀ y, foldedSetIterable iter X.env y = pure y := by intro _; rfl) (hf : X.fn y = true ∨ X.env.scope.names.lookup y = some .local := by first | exact .inl rfl | exact .inr rfl | assumption) :
    PS X (.Assign [.Name y py] (.ListComp elt [⟨.Name x px, iter, ifs, 0⟩] scope pos) spos) (tAsg (tComp capt wi tt te) (gName i)) := by
  intro pins s σ H D0 I h
  have ok := compOk.mk hk
  rw [exec_Assign_Name_used _ _ _ _ hsw]
  refine wpAny_bind (wpAny_standAt (wpAny_bind ?_))
  show wpAny _ X.A (do let _ ← comprehension (.ListComp elt [⟨.Name x px, iter, ifs, 0⟩] scope pos) scope X.env _ (newList []) false (eval iter X.env) (some (assign (.Name y py) X.env))) _ _ s
  refine wpAny_bind (wpAny_mono (wpAny_comprehension_free (use := some (assign (.Name y py) X.env)) (cl := clOf X.env scope.names []) (Q := fun _ s' => SP X pins D0 .next s') rfl hs (closure_clOf fun n k hm hf => ?_) ok.kind ok.names (thn (hi pins s σ H _ I h) fun xv s1 h1 => thn h1 fun itv s2 h2 => ?_))
    (fun _ s' hq => wpAny_pure (wpAny_pure hq)) fun _ _ e => e)
  · obtain ⟨c, e⟩ := I.ok.has n (.inl (ok.free n k hm (by simpa using hf)))
    rw [e]; rfl
  · obtain ⟨it, fp, tn, J, H2, e, I2, T, st2, f2, hW⟩ := h2
    subst e
    refine comp_block (RR := fun acc C => compPost (model X.prog X.w) X.A X.xe (some (assign (.Name y py) X.env)) (fun _ s' => SP X pins D0 .next s') acc C) hx0 hc ok hcap (xs := [x]) (g := gName 0) (fun C s H ex => pg_name hnd rfl (.inl (lookup_relabel_local (ok.x x (by simp)))) (.inr (lookup_relabel_local (ok.x x (by simp))))) shp_name hT hE I2 T st2 f2 (fun ys H => ∀ l, H l = none → gName i (.ref l) σ (upd H l (.lst ys)) D0.nx) hW.g ?_
    intro D C s' ys H' oc hD fin I' hC ⟨m, hns⟩ hCD hCn hL hst hsz hcl hpn hnc
    show wpAny _ _ (assign (.Name y py) X.env (.ref D)) _ _ s'
    have hCf : C ∉ X.fs := fun z => by
      rcases I'.ok.stk with e | ⟨e, _⟩
      · exact hst (by rw [e]; exact z)
      · refine hst ?_
        rw [e]
        unfold frs
        rw [List.filterMap_cons]
        split
        · exact z
        · exact List.mem_cons_of_mem _ z
    have Ip : Inv X (pins ++ [(C, oc)]) σ (upd H' D (.lst ys)) s' := I'.pins_of fun p hp => (List.mem_append.mp hp).elim (fun z => I'.pin p (List.mem_append_right _ z)) fun z => by
      have z' : p = (C, oc) := by simpa using z
      subst z'
      exact ⟨hC, by rw [upd_ne hCD]; exact hCn, hL, hCf, hnc⟩
    have pg := pg_name (X := X) (i := i) (x := y) (pos := py) hN hiy hy hf
    refine thn (pg _ s' σ _ (.ref D) (.ref D) (fun σ' H'' => D0.nx σ' H'' ∧ H'' = upd H' D (.lst ys)) Ip rfl ⟨fin D hD, rfl⟩) fun _ s'' ⟨σ', H'', I'', q, eH⟩ => ?_
    subst eH
    have pC := I''.pin (C, oc) (by simp)
    obtain ⟨o, es, ep, ho, r⟩ := hns
    rw [hC] at ho
    cases ho
    refine ⟨m, ⟨oc, es, ep, pC.1, r⟩, fun h' hsb => ?_⟩
    have Iu : Inv X pins σ' (upd H' D (.lst ys)) s'' := I''.pins_of fun p hp => I''.pin p (List.mem_append_right _ (List.mem_append_left _ hp))
    exact ⟨σ', _, Iu.turned (t' := s''.toks) (it := C) (fun b o hb e => (hsb.2 b hb).trans e) pC.2.1 hL (.inr hsz) hcl hpn, q⟩
end
end L2

set_option Elab.async false
set_option linter.all false
set_option maxRecDepth 100000
/-! More rules over the layer: texts, isinstance, all, join, is True, // by large numbers. -/
namespace L2
open PySem PySem.Spec PyProof.Rows
section
variable {X : Cx}

/-- // by any positive divisor below 2 ** 1000 -/
def bigB : Int := 1645504557321206042154969182557350504982735865633579863348609024
def CDivL (i j : Int) : Prop := 0 < j ∧ j < bigB
theorem log2_lt_of {n k : Nat} (h : n < 2 ^ k) (hk : 0 < k) : n.log2 < k := by
  by_cases h0 : n = 0
  · subst h0; simpa using hk
  · exact (Nat.log2_lt h0).mpr h
theorem op_fdivL : OpR X (binaryOp .FloorDiv) (rI CDivL fun i j => .int (i / j)) := opI fun i j _ _ _ _ _ hc q => by
  have h1 : (0 : Int) < j := hc.1
  have h2 : j < bigB := hc.2
  refine floordiv_int (by (first | lia | omega)) (by rw [Int.fdiv_eq_ediv_of_nonneg i (by (first | lia | omega))]; exact q) (.inl (PyProof.noPylong_of_log2 ?_))
  have h3 : j.natAbs < 2 ^ 210 := by
    have e : (2 ^ 210 : Nat) = 1645504557321206042154969182557350504982735865633579863348609024 := by decide
    unfold bigB at h2
    rw [e]
    (first | lia | omega)
  exact Nat.lt_of_lt_of_le (log2_lt_of h3 (by decide)) (by decide)

theorem op_le_str : OpR X (compareOp .LtE) (fun x y H Q => ∃ i j, x = .str i ∧ y = .str j ∧ Q (.bl (!decide (j.cps.toList < i.cps.toList))) H) := by
  intro pins s σ H x y v u Q I rx ry h
  obtain ⟨i, j, rfl, rfl, q⟩ := h
  obtain ⟨t, rfl⟩ := rx
  obtain ⟨t', rfl⟩ := ry
  exact PySem.P.le_str (fin_bl I q rfl)
/-- isinstance(x, T), T a built-in type -/
theorem call_isinst {T : String} : CallR X (.builtin "isinstance") (fun xs H Q => ∃ x t b, xs = [x, .ty T] ∧ TyOf X.K H x t ∧ PySem.W.kitOne X.K t (.type T) = some b ∧ Q (.bl b) H) := by
  intro pins s σ H xs us Q I r h
  obtain ⟨x, t, b, rfl, ty, e, q⟩ := h
  obtain ⟨u, w', rfl, rx, rt⟩ := vals2 r
  cases rt
  exact isinst_ok I rx ty e fun tk => ⟨.bl b, H, I.tok _, rfl, q⟩

/-- all(xs) of truths -/
theorem bools_of {bs : List Bool} : ∀ {us : List Value}, Vals (bs.map V.bl) us → us = bs.map Value.bool := by
  induction bs with
  | nil => intro us r; cases r; rfl
  | cons b bs ih =>
    intro us r
    rw [List.map_cons] at r
    cases r with
    | cons r1 r2 =>
      cases r1
      rw [ih r2, List.map_cons]
theorem call_all : CallR X (.builtin "all") (fun xs H Q => X.calm = true ∧ ∃ (p : Addr) (bs : List Bool), xs = [.ref p] ∧ SqL X.K H p (bs.map V.bl) ∧ Q (.bl (bs.all id)) H) := by
  intro pins s σ H xs us Q I r h
  obtain ⟨hc, p, bs, rfl, hp, q⟩ := h
  obtain ⟨u, rfl, ru⟩ := vals1 r
  cases ru
  obtain ⟨its, rv, pl, hz⟩ := I.list hp
  have e := bools_of rv
  subst e
  have hl := pl.isList
  have hlt : p < s.heap.objs.size := by obtain ⟨_, e, _⟩ := hl; exact Heap.lt_size e
  refine call_all_walk (wpAny_pyIter_list hl ?_)
  refine ⟨s.heap.objs.size, [s.heap.objs.size, p], [s.heap.objs.size], (bs.map Value.bool).toArray.size, _, _, fun i => (bs[i]?).getD true, rfl, Walks.list (A := X.A.in1) (I.ok.hd hc) _ p (Nat.ne_of_lt hlt) (bs.map Value.bool).toArray,
    ⟨⟨_, Heap.get?_push_size _ rfl, rfl, rfl⟩, hl.push _⟩, fun i v s' Q' E' hP hQ => ?_, fun h' tk hk => ?_⟩
  · have hP' : (bs.map Value.bool)[i]? = some v := by simpa using hP
    rw [List.getElem?_map] at hP'
    cases e : bs[i]? with
    | none => rw [e] at hP'; cases hP'
    | some b =>
      rw [e] at hP'
      have ev : Value.bool b = v := Option.some.inj hP'
      subst ev
      simp only [e, Option.getD_some] at hQ
      exact wpAny_truthy_bool hQ
  · have e : ((List.range (bs.map Value.bool).toArray.size).all fun i => (bs[i]?).getD true) = bs.all id := by
      rw [List.size_toArray, List.length_map]
      rw [Bool.eq_iff_iff, List.all_eq_true, List.all_eq_true]
      constructor
      · intro h b hb
        obtain ⟨i, hi, rfl⟩ := List.mem_iff_getElem.mp hb
        have := h i (List.mem_range.mpr hi)
        rw [List.getElem?_eq_getElem hi] at this
        exact this
      · intro h i hi
        have hi' := List.mem_range.mp hi
        rw [List.getElem?_eq_getElem hi']
        exact h _ (List.getElem_mem hi')
    rw [e]
    exact ⟨.bl _, H, I.kept (t' := tk) fun b o eb => hk b o (fun z => by rw [List.mem_singleton.mp z] at eb; exact Nat.lt_irrefl _ (Heap.lt_size eb)) (Heap.get?_push_of_some _ eb), rfl, q⟩

/-- sep.join(xs), a list of texts -/
theorem strs_of {ts : List Str} : ∀ {us : List Value}, Vals (ts.map V.str) us → StrsAre us ts := by
  induction ts with
  | nil => intro us r; cases r; exact .nil
  | cons x xs ih =>
    intro us r
    rw [List.map_cons] at r
    cases r with
    | cons r1 r2 =>
      obtain ⟨t, rfl⟩ := r1
      exact .cons x t (ih r2)
theorem mt_join : MtR X "str.join" (fun x xs H Q => ∃ (sep : Str) (p : Addr) (ts : List Str), x = .str sep ∧ xs = [.ref p] ∧ SqL X.K H p (ts.map V.str) ∧ (ts.map (·.length)).sum + ts.length * sep.length ≤ 16777216 ∧ Q (.str (Txt.join sep ts)) H) := by
  intro pins s σ H x xs v us Q I rx r h
  obtain ⟨sep, p, ts, rfl, rfl, hp, hz, q⟩ := h
  obtain ⟨t, rfl⟩ := rx
  obtain ⟨u, rfl, ru⟩ := vals1 r
  cases ru
  obtain ⟨its, rv, pl, _⟩ := I.list hp
  exact PyProof.Rows.join_list pl.isList (by simpa using strs_of rv) hz fun t' k => ⟨.str _, H, I.tok _, ⟨_, rfl⟩, q⟩
end

/-! ### a text's signs, one by one -/
def Its (x : Str) : It := ⟨fun i _ => i < x.cps.size, fun i H v H' => H' = H ∧ ∃ c, x.cps[i]? = some c ∧ v = .str ⟨#[c]⟩, fun i _ => i = x.cps.size⟩
theorem turn_str {P : Program} {w : World} {K : PySem.W.Frag} {tg : Expr} {it : Addr} {x : Str} {t : Tok} {T : String}
    (hT : ["enumerate", "zip", "dict_itemiterator", "dict_reverseitemiterator", "odict_iterator", "itertools.zip_longest", "itertools.pairwise"].contains T = false)
    (W : ∀ A' : Around, A'.handled = none → Walks P w A' it [it] [it] x.cps.size (SignAt x) (fun i h => h.IsStrIter it T x t i))
    (hself : ∀ (A : Around) (i : Nat) (s : Shared) (Q : Value → Shared → Prop) (E : Value → Shared → Prop), s.heap.IsStrIter it T x t i → Q (.ref it) s → wpAny (model P w) A (pyIter (.ref it)) Q E s) :
    Turn P w K tg (Its x) [it] it (fun i h => h.IsStrIter it T x t i) where
  mem := by simp
  obj := fun i h st b hb => by
    have e : b = it := by simpa using hb
    subst e
    obtain ⟨o, e, c, d⟩ := st
    exact ⟨o, e, fun v z => by rw [d] at z; cases z⟩
  keep := fun i h h' st k => by
    obtain ⟨o, e, c, d⟩ := st
    exact ⟨o, k it (by simp) o e, c, d⟩
  item := by
    intro X hP hw hK hc i pins s σ H E I hf st hg
    subst hP hw hK
    obtain ⟨f0, f1, f2, f3, f4, f5⟩ := hf it (by simp)
    refine (W X.A (I.ok.hd hc)).item i s _ E hg st fun v h' tk hv st' hk => ?_
    obtain ⟨c, u, hcx, rfl⟩ := hv
    have I1 : Inv X pins σ H { s with heap := h', toks := tk } := I.turned (t' := tk) (fun b o hb e => hk b o (by simpa using hb) e) f0 f1 f3 f4 f5
    obtain ⟨o, e, c', d⟩ := id st'
    exact ⟨_, rfl, go_of (s := { s with heap := h', toks := tk }) e c' d hT ⟨.str ⟨#[c]⟩, H, I1, ⟨u, rfl⟩, ⟨rfl, c, hcx, rfl⟩, st', fun b hb => (hf b hb).1⟩⟩
  done := by
    intro X hP hw hK hc i pins s σ H E I hf st hg
    subst hP hw hK
    obtain ⟨f0, f1, f2, f3, f4, f5⟩ := hf it (by simp)
    have hg' : i = x.cps.size := hg
    subst hg'
    exact (W X.A (I.ok.hd hc)).done s _ E st fun h' tk hk => ⟨rfl, I.turned (t' := tk) (fun b o hb e => hk b o (by simpa using hb) e) f0 f1 f3 f4 f5⟩
  self := fun A i s Q E st h => hself A i s Q E st h
def iStr (tl : TE) : TI := fun σ H R => tl σ H fun x H1 => ∃ z, x = .str z ∧ R (Its z) H1
theorem pi_str {X : Cx} {tg l : Expr} {tl : TE} (hl : PE X l tl) : PI X tg l (iStr tl) := by
  intro pins s σ H R I h
  refine thn (hl pins s σ H _ I h) fun v s1 ⟨x, H1, I1, r1, z, ex, q⟩ => ?_
  subst ex
  obtain ⟨t, rfl⟩ := r1
  have hn : H1 s1.heap.objs.size = none := I1.hok.fresh (Nat.le_refl _)
  have hfp : ∀ b ∈ [s1.heap.objs.size], FpOk X pins H1 b := fun b hb => by
    have e : b = s1.heap.objs.size := by simpa using hb
    subst e
    exact I1.fpOk (Nat.le_refl _) hn
  cases ha : z.cps.all (· < 128)
  · refine wpAny_pyIter_wide ha ?_
    exact ⟨s1.heap.objs.size, [s1.heap.objs.size], _, Its z, H1, rfl, I1.kept (t' := s1.toks) (fun b u e => Heap.get?_push_of_some _ e), turn_str (T := "str_iterator") (t := t) (by decide) (fun A' hA => Walks.strWide hA _ z t) (fun A i s Q E st hQ => wpAny_pyIter_striter_wide st hQ),
      ⟨_, Heap.get?_push_size _ rfl, rfl, rfl⟩, hfp, q⟩
  · refine wpAny_pyIter_ascii ha ?_
    exact ⟨s1.heap.objs.size, [s1.heap.objs.size], _, Its z, H1, rfl, I1.kept (t' := s1.toks) (fun b u e => Heap.get?_push_of_some _ e), turn_str (T := "str_ascii_iterator") (t := t) (by decide) (fun A' hA => Walks.strAscii hA _ z t) (fun A i s Q E st hQ => wpAny_pyIter_striter_ascii st hQ),
      ⟨_, Heap.get?_push_size _ rfl, rfl, rfl⟩, hfp, q⟩
/-! ### comprehensions by an invariant over the turn -/
section
variable {S : V → St} {tt : TT} {te : TE} {H : Hp} {Fin : List V → Hp → Prop}
theorem comp_range {lo : Int} {n : Nat} (Pv : Nat → List V → Hp → Prop) (h0 : Pv 0 [] H) (hz : ∀ i ys H, i < n → Pv i ys H → ys.length < sizeLine)
    (hs : ∀ i ys H, i < n → Pv i ys H → tt (S (.int (lo + i))) H fun b H2 => if b = true then te (S (.int (lo + i))) H2 fun y H3 => Pv (i + 1) (ys ++ [y]) H3 else Pv (i + 1) ys H2)
    (hd : ∀ ys H, Pv n ys H → Fin ys H) : CompW (Itr lo n) S tt te H Fin := by
  refine ⟨fun i m ys H => m = n - i ∧ i ≤ n ∧ Pv i ys H, ⟨n, by simp, Nat.zero_le _, h0⟩, ?_⟩
  rintro i m ys H ⟨rfl, hi, p⟩
  by_cases hlt : i < n
  · refine .inr ⟨hlt, hz i ys H hlt p, Pv (i + 1), fun ys' H' p' => ⟨n - (i + 1), by (first | lia | omega), rfl, hlt, p'⟩, fun x H' y => ?_⟩
    obtain ⟨e, y⟩ := y
    subst e y
    exact hs i ys _ hlt p
  · have e : i = n := by (first | lia | omega)
    subst e
    exact .inl ⟨Nat.le_refl _, hd ys H p⟩
theorem comp_list {K : PySem.W.Frag} {a : Addr} {xs : List V} (Pv : Nat → List V → Hp → Prop) (h0 : Pv 0 [] H) (hl : ∀ i ys H, i ≤ xs.length → Pv i ys H → SqL K H a xs) (hz : ∀ i ys H, i < xs.length → Pv i ys H → ys.length < sizeLine)
    (hs : ∀ i x ys H, xs[i]? = some x → Pv i ys H → tt (S x) H fun b H2 => if b = true then te (S x) H2 fun y H3 => Pv (i + 1) (ys ++ [y]) H3 else Pv (i + 1) ys H2)
    (hd : ∀ ys H, Pv xs.length ys H → Fin ys H) : CompW (Itl K a) S tt te H Fin := by
  refine ⟨fun i m ys H => m = xs.length - i ∧ i ≤ xs.length ∧ Pv i ys H, ⟨xs.length, by simp, Nat.zero_le _, h0⟩, ?_⟩
  rintro i m ys H ⟨rfl, hi, p⟩
  have q := hl i ys H hi p
  by_cases hlt : i < xs.length
  · refine .inr ⟨⟨xs, xs[i], q, by simp [hlt]⟩, hz i ys H hlt p, Pv (i + 1), fun ys' H' p' => ⟨xs.length - (i + 1), by (first | lia | omega), rfl, hlt, p'⟩, fun x H' y => ?_⟩
    obtain ⟨e, y⟩ := y
    subst e
    exact hs i x ys _ (y xs q) p
  · have e : i = xs.length := by (first | lia | omega)
    subst e
    exact .inl ⟨⟨xs, q, Nat.le_refl _⟩, hd ys H p⟩
theorem comp_tup {K : PySem.W.Frag} {a : Addr} {xs : List V} (Pv : Nat → List V → Hp → Prop) (h0 : Pv 0 [] H) (hl : ∀ i ys H, i ≤ xs.length → Pv i ys H → SqT K H a xs) (hz : ∀ i ys H, i < xs.length → Pv i ys H → ys.length < sizeLine)
    (hs : ∀ i x ys H, xs[i]? = some x → Pv i ys H → tt (S x) H fun b H2 => if b = true then te (S x) H2 fun y H3 => Pv (i + 1) (ys ++ [y]) H3 else Pv (i + 1) ys H2)
    (hd : ∀ ys H, Pv xs.length ys H → Fin ys H) : CompW (Itt K a) S tt te H Fin := by
  refine ⟨fun i m ys H => m = xs.length - i ∧ i ≤ xs.length ∧ Pv i ys H, ⟨xs.length, by simp, Nat.zero_le _, h0⟩, ?_⟩
  rintro i m ys H ⟨rfl, hi, p⟩
  have q := hl i ys H hi p
  by_cases hlt : i < xs.length
  · refine .inr ⟨⟨xs, xs[i], q, by simp [hlt]⟩, hz i ys H hlt p, Pv (i + 1), fun ys' H' p' => ⟨xs.length - (i + 1), by (first | lia | omega), rfl, hlt, p'⟩, fun x H' y => ?_⟩
    obtain ⟨e, y⟩ := y
    subst e
    exact hs i x ys _ (y xs q) p
  · have e : i = xs.length := by (first | lia | omega)
    subst e
    exact .inl ⟨⟨xs, q, Nat.le_refl _⟩, hd ys H p⟩
theorem comp_str {z : Str} (Pv : Nat → List V → Hp → Prop) (h0 : Pv 0 [] H) (hz : ∀ i ys H, i < z.cps.size → Pv i ys H → ys.length < sizeLine)
    (hs : ∀ i c ys H, z.cps[i]? = some c → Pv i ys H → tt (S (.str ⟨#[c]⟩)) H fun b H2 => if b = true then te (S (.str ⟨#[c]⟩)) H2 fun y H3 => Pv (i + 1) (ys ++ [y]) H3 else Pv (i + 1) ys H2)
    (hd : ∀ ys H, Pv z.cps.size ys H → Fin ys H) : CompW (Its z) S tt te H Fin := by
  refine ⟨fun i m ys H => m = z.cps.size - i ∧ i ≤ z.cps.size ∧ Pv i ys H, ⟨z.cps.size, by simp, Nat.zero_le _, h0⟩, ?_⟩
  rintro i m ys H ⟨rfl, hi, p⟩
  by_cases hlt : i < z.cps.size
  · refine .inr ⟨hlt, hz i ys H hlt p, Pv (i + 1), fun ys' H' p' => ⟨z.cps.size - (i + 1), by (first | lia | omega), rfl, hlt, p'⟩, fun x H' y => ?_⟩
    obtain ⟨e, c, hc, rfl⟩ := y
    subst e
    exact hs i c ys _ hc p
  · have e : i = z.cps.size := by (first | lia | omega)
    subst e
    exact .inl ⟨rfl, hd ys H p⟩
end

/-! ### a slice of a text -/
/-! ### a dict of the top, its keys texts -/
section
end

/-! ### a display of constants, at once -/
def constV : Expr → Option V
  | .Constant (.str x) _ _ => some (.str x)
  | .Constant (.int i) _ _ => some (.int i)
  | .Constant (.bool b) _ _ => some (.bl b)
  | .Constant .none _ _ => some .non
  | _ => none
def constsV : List Expr → Option (List V)
  | [] => some []
  | e :: r => match constV e, constsV r with
    | some v, some vs => some (v :: vs)
    | _, _ => none
def tVals (vs : List V) : TA := fun _ H Q => Q vs H
theorem pa_consts {X : Cx} : ∀ {es : List Expr} {vs : List V}, constsV es = some vs → PA X es (tVals vs)
  | [], vs, h => by
    cases h
    exact pa_nil
  | e :: r, vs, h => by
    unfold constsV at h
    cases he : constV e with
    | none => rw [he] at h; cases h
    | some v =>
      cases hr : constsV r with
      | none => rw [he, hr] at h; cases h
      | some ws =>
        rw [he, hr] at h
        have h' : v :: ws = vs := Option.some.inj h
        subst h'
        have ih := pa_consts (X := X) hr
        unfold constV at he
        split at he
        · cases he
          exact pa_cons (te := tC (.str _)) pe_str ih
        · cases he
          exact pa_cons (te := tC (.int _)) pe_int ih
        · cases he
          exact pa_cons (te := tC (.bl _)) pe_bl ih
        · cases he
          exact pa_cons (te := tC .non) pe_non ih
        · cases he

/-! ### a long display of constants: kept folded, so that no look at a goal runs it -/
end L2

set_option Elab.async false
set_option linter.all false
set_option maxRecDepth 100000
/-! Equality of things built of lists and tuples, by what they read as. -/
namespace L2
open PySem PySem.Spec PyProof.Rows PySem.SeqAt

mutual
/-- a value reads as a thing -/
def RdD (K : PySem.W.Frag) (H : Hp) : PyData → V → Prop
  | .none, v => v = .non
  | .bool b, v => v = .bl b
  | .int i, v => v = .int i
  | .str x, v => v = .str x
  | .list ds, v => ∃ p xs, v = .ref p ∧ SqL K H p xs ∧ RdDs K H ds xs
  | .tuple ds, v => ∃ p xs, v = .ref p ∧ SqT K H p xs ∧ RdDs K H ds xs
  | .dict _, _ => False
def RdDs (K : PySem.W.Frag) (H : Hp) : List PyData → List V → Prop
  | [], xs => xs = []
  | d :: ds, xs => ∃ x r, xs = x :: r ∧ RdD K H d x ∧ RdDs K H ds r
end
theorem Same.seqT {K : PySem.W.Frag} {H H' : Hp} {a : Addr} {xs : List V} (e : Same H H') (h : SqT K H a xs) : SqT K H' a xs := by
  rcases h with h | h
  · refine .inl ?_
    rcases h with h | h
    · exact .inl (e _ _ h)
    · obtain ⟨o, h1⟩ := h
      exact .inr ⟨o, e _ _ h1⟩
  · exact .inr h
section
variable {K : PySem.W.Frag} {H H' : Hp}
theorem RdDs.cons {d : PyData} {ds : List PyData} {x : V} {xs : List V} (h : RdD K H d x) (r : RdDs K H ds xs) : RdDs K H (d :: ds) (x :: xs) := by
  unfold RdDs
  exact ⟨x, xs, rfl, h, r⟩
theorem RdDs.nil : RdDs K H [] [] := by unfold RdDs; rfl
theorem RdD.int (i : Int) : RdD K H (.int i) (.int i) := by unfold RdD; rfl
theorem RdD.str (i : Str) : RdD K H (.str i) (.str i) := by unfold RdD; rfl
theorem RdD.lst {ds : List PyData} {p : Addr} {xs : List V} (h : SqL K H p xs) (r : RdDs K H ds xs) : RdD K H (.list ds) (.ref p) := by
  unfold RdD
  exact ⟨p, xs, rfl, h, r⟩
theorem RdD.tup {ds : List PyData} {p : Addr} {xs : List V} (h : SqT K H p xs) (r : RdDs K H ds xs) : RdD K H (.tuple ds) (.ref p) := by
  unfold RdD
  exact ⟨p, xs, rfl, h, r⟩
theorem RdDs.length {ds : List PyData} {xs : List V} (a : RdDs K H ds xs) : ds.length = xs.length := by
  induction ds generalizing xs with
  | nil => unfold RdDs at a; subst a; rfl
  | cons d r ih =>
    unfold RdDs at a
    obtain ⟨x, q, rfl, h1, h2⟩ := a
    simp [ih h2]
end

/-- a thing that can be compared -/
def Cmp (n : Nat) (d : PyData) : Prop := d.canLay0 = true ∧ d.depth ≤ n
theorem Cmp.int {n : Nat} (i : Int) : Cmp n (.int i) := ⟨by simp [PyData.canLay0], by simp [PyData.depth]⟩
theorem cmpAll {n : Nat} : ∀ {ds : List PyData}, (∀ d ∈ ds, Cmp n d) → PyData.canLayAll0 ds = true ∧ PyData.depthAll ds ≤ n
  | [], _ => ⟨by simp [PyData.canLayAll0], by simp [PyData.depthAll]⟩
  | d :: ds, h => by
    obtain ⟨h1, h2⟩ := h d List.mem_cons_self
    obtain ⟨h3, h4⟩ := cmpAll (ds := ds) fun e he => h e (List.mem_cons_of_mem _ he)
    refine ⟨by simp [PyData.canLayAll0, h1, h3], ?_⟩
    simp only [PyData.depthAll]
    (first | lia | omega)
theorem Cmp.list {n : Nat} {ds : List PyData} (h : ∀ d ∈ ds, Cmp n d) : Cmp (n + 1) (.list ds) := by
  obtain ⟨h1, h2⟩ := cmpAll h
  exact ⟨by simp [PyData.canLay0, h1], by simp only [PyData.depth]; (first | lia | omega)⟩
theorem Cmp.tuple {n : Nat} {ds : List PyData} (h : ∀ d ∈ ds, Cmp n d) : Cmp (n + 1) (.tuple ds) := by
  obtain ⟨h1, h2⟩ := cmpAll h
  exact ⟨by simp [PyData.canLay0, h1], by simp only [PyData.depth]; (first | lia | omega)⟩
theorem Cmp.mono {n m : Nat} {d : PyData} (h : Cmp n d) (l : n ≤ m) : Cmp m d := ⟨h.1, Nat.le_trans h.2 l⟩
mutual
theorem eqv_self : ∀ {d : PyData}, d.canLay0 = true → PyData.eqv d d = true
  | .none, _ => by simp [PyData.eqv]
  | .bool _, _ => by simp [PyData.eqv]
  | .int _, _ => by simp [PyData.eqv]
  | .str _, _ => by simp [PyData.eqv]
  | .list ds, h => by
    rw [PyData.eqv]
    exact eqvAll_self (by simpa [PyData.canLay0] using h)
  | .tuple ds, h => by
    rw [PyData.eqv]
    exact eqvAll_self (by simpa [PyData.canLay0] using h)
  | .dict _, h => by simp [PyData.canLay0] at h
theorem eqvAll_self : ∀ {ds : List PyData}, PyData.canLayAll0 ds = true → PyData.eqvAll ds ds = true
  | [], _ => by simp [PyData.eqvAll]
  | d :: ds, h => by
    have h' : (PyData.canLay0 d && PyData.canLayAll0 ds) = true := by simpa [PyData.canLayAll0] using h
    obtain ⟨h1, h2⟩ := Bool.and_eq_true_iff.mp h'
    rw [PyData.eqvAll, eqv_self h1, eqvAll_self h2]
    rfl
end
section
variable {X : Cx} {pins : List (Addr × Obj)} {σ : St} {H : Hp} {s : Shared}
mutual
theorem Inv.reads (I : Inv X pins σ H s) : ∀ {d : PyData} {x : V} {v : Value}, RdD X.K H d x → RelV x v → ∃ as, Reads s.heap v d as
  | .none, _, _, h, r => by unfold RdD at h; subst h; cases r; exact ⟨_, .none⟩
  | .bool b, _, _, h, r => by unfold RdD at h; subst h; cases r; exact ⟨_, .bool b⟩
  | .int i, _, _, h, r => by unfold RdD at h; subst h; obtain ⟨t, rfl⟩ := r; exact ⟨_, .int i t⟩
  | .str i, _, _, h, r => by unfold RdD at h; subst h; obtain ⟨t, rfl⟩ := r; exact ⟨_, .str i t⟩
  | .list ds, _, _, h, r => by
    unfold RdD at h
    obtain ⟨p, xs, rfl, h2, h3⟩ := h
    cases r
    obtain ⟨its, rv, ⟨o, n, e1, e2, e3, e4⟩, _⟩ := I.list h2
    obtain ⟨as, ra⟩ := Inv.readsAll I h3 rv
    exact ⟨_, .list e1 e2 e4 (by simpa using ra)⟩
  | .tuple ds, _, _, h, r => by
    unfold RdD at h
    obtain ⟨p, xs, rfl, h2, h3⟩ := h
    cases r
    obtain ⟨its, rv, ⟨o, e1, e2, n, e4⟩, _⟩ := I.tuple h2
    obtain ⟨as, ra⟩ := Inv.readsAll I h3 rv
    exact ⟨_, .tuple e1 e2 e4 (by simpa using ra)⟩
  | .dict _, _, _, h, _ => by unfold RdD at h; exact h.elim
theorem Inv.readsAll (I : Inv X pins σ H s) : ∀ {ds : List PyData} {xs : List V} {vs : List Value}, RdDs X.K H ds xs → Vals xs vs → ∃ as, ReadsAll s.heap vs ds as
  | [], _, _, h, r => by unfold RdDs at h; subst h; cases r; exact ⟨_, .nil⟩
  | d :: ds, _, _, h, r => by
    unfold RdDs at h
    obtain ⟨x, q, rfl, h2, h3⟩ := h
    cases r with
    | cons r1 r2 =>
      obtain ⟨as, ra⟩ := Inv.reads I h2 r1
      obtain ⟨bs, rb⟩ := Inv.readsAll I h3 r2
      exact ⟨_, .cons ra rb⟩
end
def rEqD (K : PySem.W.Frag) (no : Bool) : R2 := fun x y H Q => ∃ dx dy, RdD K H dx x ∧ RdD K H dy y ∧ Cmp 64 dx ∧ Cmp 64 dy ∧ Q (.bl (no ^^ PyData.eqv dx dy)) H
theorem Cmp.shaped {d : PyData} (h : Cmp 64 d) : shaped d = true := by
  unfold SeqAt.shaped
  rw [h.1, decide_eq_true h.2]
  rfl
theorem op_neD (hu : X.A.units + 64 < cLine) : OpR X (compareOp .NotEq) (rEqD X.K true) := by
  intro pins s σ H x y v u Q I rx ry h
  obtain ⟨dx, dy, hx, hy, cx, cy, q⟩ := h
  obtain ⟨as, ra⟩ := I.reads hx rx
  obtain ⟨bs, rb⟩ := I.reads hy ry
  rw [Bool.true_xor] at q
  exact compareNe_shaped ra rb cx.shaped cy.shaped hu ⟨.bl _, H, I, rfl, q⟩
end
/-- the same data on both sides -/
theorem rEqD.eq {K : PySem.W.Frag} {x y : V} {H : Hp} {Q : VK} {no : Bool} (d : PyData) (hx : RdD K H d x) (hy : RdD K H d y) (c : Cmp 64 d) (q : Q (.bl (!no)) H) : rEqD K no x y H Q :=
  ⟨d, d, hx, hy, c, c, by rw [eqv_self c.1, Bool.xor_true]; exact q⟩
end L2

set_option Elab.async false
set_option linter.all false
set_option maxRecDepth 100000
/-! The rules that speak of the module's objects, for a context within another: these are the same there. -/
namespace L2
open PySem PySem.Spec PyProof.Rows
section
variable {X : Cx} {K : PySem.W.Frag} (h : X.K = K)
include h
theorem call_isinstK {T : String} : CallR X (.builtin "isinstance") (fun xs H Q => ∃ x t b, xs = [x, .ty T] ∧ TyOf K H x t ∧ PySem.W.kitOne K t (.type T) = some b ∧ Q (.bl b) H) := by subst h; exact call_isinst
end
end L2

set_option Elab.async false
set_option linter.all false
set_option maxRecDepth 100000
/-! Works as the laws build them, lists of tuples of two numbers, rows of drawn numbers. -/
namespace L2
open PySem PySem.Spec
theorem same_new {H : Hp} {p : Addr} (h : H p = none) (o : HO) : Same H (upd H p o) := fun b u q => by rw [upd_ne (ne_of_none q h)]; exact q
/-- what came since is changed -/
theorem sameUpd {H H' : Hp} {p : Addr} (s : Same H H') (n : H p = none) (o : HO) : Same H (upd H' p o) := fun b u q => by rw [upd_ne (ne_of_none q n)]; exact s b u q
theorem small {n : Nat} (h : n ≤ 100000) : n ≤ sizeLine := Nat.le_trans h (by decide)
theorem smallL {n : Nat} (h : n ≤ 100000) : n < sizeLine := Nat.lt_of_le_of_lt h (by decide)
/-- rows of drawn numbers -/
def Drawn (rs : List Int) : Prop := ∀ r ∈ rs, 0 ≤ r ∧ r < 1000000
/-- a list of tuples of two numbers -/
def PrsR (H : Hp) (b : Addr) (rs : List Addr) (ps : List (Int × Int)) : Prop := H b = some (.lst (rs.map V.ref)) ∧ Paired (fun r (p : Int × Int) => H r = some (.tup [.int p.1, .int p.2])) rs ps
theorem pairedMono {α β : Type} {R S : α → β → Prop} (h : ∀ a b, R a b → S a b) : ∀ {xs : List α} {ys : List β}, Paired R xs ys → Paired S xs ys
  | _, _, .nil => .nil
  | _, _, .cons a b => .cons (h _ _ a) (pairedMono h b)
theorem pairedSnoc {α β : Type} {R : α → β → Prop} {x : α} {y : β} (h : R x y) : ∀ {xs : List α} {ys : List β}, Paired R xs ys → Paired R (xs ++ [x]) (ys ++ [y])
  | _, _, .nil => .cons h .nil
  | _, _, .cons a b => .cons a (pairedSnoc h b)
theorem pairedApp {α β : Type} {R : α → β → Prop} {us : List α} {vs : List β} (h : Paired R us vs) : ∀ {xs : List α} {ys : List β}, Paired R xs ys → Paired R (xs ++ us) (ys ++ vs)
  | _, _, .nil => h
  | _, _, .cons a b => .cons a (pairedApp h b)
theorem PrsR.length {H : Hp} {b : Addr} {rs : List Addr} {ps : List (Int × Int)} (h : PrsR H b rs ps) : rs.length = ps.length := Paired.length h.2
theorem PrsR.get {H : Hp} {b : Addr} {rs : List Addr} {ps : List (Int × Int)} (h : PrsR H b rs ps) {i : Nat} (hi : i < ps.length) : ∃ r, (rs.map V.ref)[i]? = some (.ref r) ∧ H r = some (.tup [.int ps[i].1, .int ps[i].2]) := by
  obtain ⟨hb, h⟩ := h
  clear hb
  induction h generalizing i with
  | nil => exact absurd hi (Nat.not_lt_zero _)
  | cons a r ih =>
    cases i with
    | zero => exact ⟨_, rfl, a⟩
    | succ k =>
      obtain ⟨q, h1, h2⟩ := ih (i := k) (by simpa using hi)
      exact ⟨q, by simpa using h1, by simpa using h2⟩
theorem cut_from {xs : List V} {n : Nat} (h : n ≤ xs.length) : cutV xs (some (n : Int)) none = xs.drop n := by
  unfold cutV
  rw [HT.sIx_nat, HT.sIx_none, Nat.min_eq_left h, List.take_of_length_le (by rw [List.length_drop]; (first | lia | omega))]
theorem ite_f {c : Bool} {A B : Prop} (h : c = false) (q : B) : if c = true then A else B := by rw [h]; exact q
theorem ite_t {c : Bool} {A B : Prop} (h : c = true) (q : A) : if c = true then A else B := by rw [h]; exact q
theorem cut_last (xs : List V) (y : V) : cutV (xs ++ [y]) none (some (-1)) = xs := by
  unfold cutV
  rw [HT.sIx_none, List.length_append, List.length_singleton]
  have e : HT.sIx (xs.length + 1) (xs.length + 1) (some (-1)) = xs.length := by
    unfold HT.sIx
    dsimp only
    rw [if_pos (by decide)]
    (first | lia | omega)
  rw [e, List.drop_zero, Nat.sub_zero, List.take_left]
end L2

set_option Elab.async false
set_option linter.all false
set_option maxRecDepth 100000
/-! Comprehensions that tell a value for each thing, and the bits of a work's knots and ends. -/
namespace L2
open PySem PySem.Spec
section
end
/-! ### bits -/
def fl (h : Int) (xs : List Int) : List Int := xs.flatMap fun n => [n, Builtin.bitXor h n]
def estep (h : Int) (E : List Int) (g : Int × Int) : List Int := E ++ [Builtin.bitAnd (E.getD g.1.toNat 0) (E.getD g.2.toNat 0), Builtin.bitXor h (Builtin.bitAnd (E.getD g.1.toNat 0) (E.getD g.2.toNat 0))]
/-- what the ends have, by the numbers of ins and boxes -/
def eL (h : Int) (xs : List Int) (gs : List (Int × Int)) : List Int := gs.foldl (estep h) ([0, h] ++ fl h xs)
end L2
namespace L2
open PySem PySem.Spec
end L2

set_option Elab.async false
set_option linter.all false
set_option maxRecDepth 100000
/-! Nets: what ends become, and that they keep their bits. -/
namespace L2
open PySem PySem.Spec
/-! ### the start net -/
/-! ### the next net -/
section
end
/-! ### contracts -/
end L2

set_option Elab.async false
set_option linter.all false
set_option maxRecDepth 100000
/-! Any thing, by what it reads as. -/
namespace L2
open PySem PySem.Spec PyProof.Rows
section
end
mutual
/-- a value reads as a thing, all of it in the heap -/
def Dat (H : Hp) : PyData → V → Prop
  | .none, v => v = .non
  | .bool b, v => v = .bl b
  | .int i, v => v = .int i
  | .str x, v => v = .str x
  | .list ds, v => ∃ p xs, v = .ref p ∧ H p = some (.lst xs) ∧ Dats H ds xs
  | .tuple ds, v => ∃ p xs, v = .ref p ∧ H p = some (.tup xs) ∧ Dats H ds xs
  | .dict _, _ => False
def Dats (H : Hp) : List PyData → List V → Prop
  | [], xs => xs = []
  | d :: ds, xs => ∃ x r, xs = x :: r ∧ Dat H d x ∧ Dats H ds r
end
section
theorem Dat.int (i : Int) : Dat H (.int i) (.int i) := by unfold Dat; rfl
theorem Dats.length {ds : List PyData} {xs : List V} (a : Dats H ds xs) : ds.length = xs.length := by
  induction ds generalizing xs with
  | nil => unfold Dats at a; subst a; rfl
  | cons d r ih =>
    unfold Dats at a
    obtain ⟨x, q, rfl, h1, h2⟩ := a
    simp [ih h2]
theorem Dats.get {ds : List PyData} {xs : List V} (a : Dats H ds xs) {i : Nat} {x : V} (h : xs[i]? = some x) : ∃ d, ds[i]? = some d ∧ Dat H d x := by
  induction ds generalizing xs i with
  | nil => unfold Dats at a; subst a; simp at h
  | cons d r ih =>
    unfold Dats at a
    obtain ⟨y, q, rfl, h1, h2⟩ := a
    cases i with
    | zero => simp at h; subst h; exact ⟨d, rfl, h1⟩
    | succ k => exact ih h2 (by simpa using h)
end
/-! ### kinds -/
section
end
/-! ### works -/
end L2

set_option Elab.async false
set_option linter.all false
set_option maxRecDepth 100000
/-! A bag of digits, and sayings. -/
namespace L2
open PySem PySem.Spec
def Bag (H : Hp) (l : Addr) : Prop := ∃ b0 b1 : Int, H l = some (.lst [.int b0, .int b1]) ∧ 0 ≤ b0
/-- all but the bag stays, the bag is one again -/
def Bg (l : Addr) (H H' : Hp) : Prop := (∀ b o, b ≠ l → H b = some o → H' b = some o) ∧ Bag H' l
theorem Bg.trans {l : Addr} {H H1 H2 : Hp} (a : Bg l H H1) (b : Bg l H1 H2) : Bg l H H2 := ⟨fun c o n e => b.1 c o n (a.1 c o n e), b.2⟩
theorem Bg.refl {l : Addr} {H : Hp} (b : Bag H l) : Bg l H H := ⟨fun _ _ _ e => e, b⟩
theorem Bag.ne {H : Hp} {l p : Addr} (b : Bag H l) (n : H p = none) : p ≠ l := fun e => by
  obtain ⟨_, _, h, _⟩ := b
  rw [e, h] at n; cases n
theorem Bag.neT {H : Hp} {l p : Addr} {xs : List V} (b : Bag H l) (n : H p = some (.tup xs)) : p ≠ l := fun e => by
  obtain ⟨_, _, h, _⟩ := b
  rw [e, h] at n; cases n
theorem Bg.new {l p : Addr} {H : Hp} (b : Bag H l) (n : H p = none) (o : HO) : Bg l H (upd H p o) := by
  refine ⟨fun c u _ e => by rw [upd_ne (ne_of_none e n)]; exact e, ?_⟩
  obtain ⟨b0, b1, h, h0⟩ := b
  exact ⟨b0, b1, by rw [upd_ne (ne_of_none h n)]; exact h, h0⟩
theorem Bg.put {l : Addr} {H : Hp} (b0 b1 : Int) (h0 : 0 ≤ b0) : Bg l H (upd H l (.lst [.int b0, .int b1])) :=
  ⟨fun c u n e => by rw [upd_ne n]; exact e, b0, b1, upd_same, h0⟩
theorem Bag.set {l p : Addr} {H : Hp} (b : Bag H l) (hp : p ≠ l) (o : HO) : Bag (upd H p o) l := by
  obtain ⟨b0, b1, h, h0⟩ := b
  exact ⟨b0, b1, by rw [upd_ne (Ne.symm hp)]; exact h, h0⟩
theorem Bg.set {l p : Addr} {H H' : Hp} (b : Bg l H H') (n : H p = none) (hp : p ≠ l) (o : HO) : Bg l H (upd H' p o) :=
  ⟨fun c u nc e => by rw [upd_ne (ne_of_none e n)]; exact b.1 c u nc e, b.2.set hp o⟩
theorem Bg.same {l : Addr} {H H1 H2 : Hp} (n : H l = none) (a : Same H H1) (b : Bg l H1 H2) : Same H H2 := fun c o e => b.1 c o (ne_of_none e n) (a c o e)
theorem at_map {ns : List Int} {i : Nat} (h : i < ns.length) : ∃ v : Int, atI (ns.map V.int) (i : Int) = some (.int v) :=
  ⟨ns[i], atI_nat (by rw [List.getElem?_map, List.getElem?_eq_getElem h] <;> rfl)⟩
theorem at_mapI {ns : List Int} {i : Int} (h0 : 0 ≤ i) (h : i < ns.length) : ∃ v : Int, atI (ns.map V.int) i = some (.int v) := by
  obtain ⟨k, rfl⟩ := Int.eq_ofNat_of_zero_le h0
  exact at_map (by (first | lia | omega))
def sp_L_take : Sp := fun vs H Q _ => ∃ (l : Addr) (many : Int), vs = [.ref l, .int many] ∧ Bag H l ∧ 0 < many ∧ many < bigB ∧ ∀ d H', 0 ≤ d → d < many → Bg l H H' → Q (.int d) H'
def words : List Str := ["wire", "number", "not", "and", "or", "odd", "sum", "less", "under", "same", "choice", "up", "down", "join", "cut", "table"]
/-! ### sayings -/
/-! ### things of tuples alone stay where tuples do -/
end L2

set_option Elab.async false
set_option linter.all false
set_option maxRecDepth 100000
/-! Comprehensions whose own names stand in cells (another comprehension reads them). -/
namespace L2
open PySem PySem.Spec PyProof.Rows
section
end
end L2

set_option Elab.async false
set_option linter.all false
set_option maxRecDepth 100000
/-! Rows of rows, and runs. -/
namespace L2
open PySem PySem.Spec
theorem pairedGet {α β : Type} {R : α → β → Prop} : ∀ {xs : List α} {ys : List β} {i : Nat} {x : α}, Paired R xs ys → xs[i]? = some x → ∃ y, ys[i]? = some y ∧ R x y
  | _, _, i, x, .nil, h => by simp at h
  | _, _, 0, x, .cons a b, h => by
    simp at h
    subst h
    exact ⟨_, rfl, a⟩
  | _, _, i + 1, x, .cons a b, h => by
    rw [List.getElem?_cons_succ] at h ⊢
    exact pairedGet b h
/-- lists of wholes -/
abbrev Pw (H : Hp) (rs : List Addr) (rows : List (List Int)) : Prop := Paired (fun r (x : List Int) => H r = some (.lst (x.map V.int))) rs rows
def RwsR (H : Hp) (p : Addr) (rs : List Addr) (rows : List (List Int)) : Prop := H p = some (.lst (rs.map V.ref)) ∧ Pw H rs rows
theorem RwsR.length {H : Hp} {p : Addr} {rs : List Addr} {rows : List (List Int)} (h : RwsR H p rs rows) : rs.length = rows.length := Paired.length h.2
theorem take_get {α : Type} {xs : List α} {i : Nat} {x : α} (h : xs[i]? = some x) : xs.take (i + 1) = xs.take i ++ [x] := by
  obtain ⟨hi, he⟩ := List.getElem?_eq_some_iff.mp h
  rw [List.take_succ_eq_append_getElem hi, he]
end L2

set_option Elab.async false
set_option linter.all false
set_option maxRecDepth 100000
/-! Many runs at once: the lanes of wholes. -/
namespace L2
open PySem PySem.Spec
def ln (r : Nat) (x : Int) : Int := x / 2 ^ r % 2
section
end
end L2

set_option Elab.async false
set_option linter.all false
set_option maxRecDepth 100000
/-! range(n) as a thing, and list of it. -/
namespace L2
open PySem PySem.Spec PyProof.Rows
variable {X : Cx}
theorem mt_joinK {K : PySem.W.Frag} (h : X.K = K) : MtR X "str.join" (fun x xs H Q => ∃ (sep : Str) (p : Addr) (ts : List Str), x = .str sep ∧ xs = [.ref p] ∧ SqL K H p (ts.map V.str) ∧ (ts.map (·.length)).sum + ts.length * sep.length ≤ 16777216 ∧ Q (.str (Txt.join sep ts)) H) := by subst h; exact mt_join
end L2

set_option Elab.async false
set_option linter.all false
/-! Sums and bits of one word over another. -/
namespace L2
open PySem
end L2

set_option Elab.async false
set_option linter.all false
set_option maxRecDepth 100000
/-! zip of two lists, walked by a loop. -/
namespace L2
open PySem PySem.Spec PyProof.Rows
section
variable {X : Cx} {pins : List (Addr × Obj)} {σ : St} {H : Hp} {s : Shared} {h' : Heap}
theorem Inv.turnedL {t' : Nat} {ch : List Addr} (I : Inv X pins σ H s) (k : ∀ b o, b ∉ ch → s.heap.get? b = some o → h'.get? b = some o) (hc : ∀ b ∈ ch, FpOk X pins H b) : Inv X pins σ H { s with heap := h', toks := t' } := by
  have nit : ∀ b u, H b = some u → b ∉ ch := fun b u e z => by have := (hc b z).1; rw [this] at e; cases e
  refine I.step (g' := s.gens) (d' := s.drawn) (ch := ch) (fun b hb => ?_) (fun b o _ _ hn e _ => k b o hn e) (fun b o _ _ hn e _ => ⟨o.slots, k b o hn e⟩) (fun _ _ _ _ n => n)
    (fun b o hn e => ⟨o, k b o hn e⟩) (fun _ _ e => e) (fun _ _ _ e => e) (fun _ _ _ e => e) (fun m hm => ?_) (fun b u e => ?_) I.bare
  · obtain ⟨_, f1, _, f3, f4, f5⟩ := hc b hb
    exact ⟨f3, f1, f4, f5⟩
  · obtain ⟨o, es, ep, ho, r⟩ := hm
    exact ⟨o, es, ep, k _ o (fun z => (hc _ z).2.1 rfl) ho, r⟩
  · refine (I.hok b u e).stay (fun c v hn q => k c v ?_ q) (fun _ q => q) (fun _ _ q => q) fun _ _ _ q => q
    rcases hn with z | z
    · rw [z]; exact nit b u e
    · exact nit c _ z
end
end L2

set_option Elab.async false
set_option linter.all false
set_option maxRecDepth 100000
/-! dict(d), and two dicts compared. -/
namespace L2
open PySem PySem.Spec PyProof.Rows
end L2
namespace L2
open PySem PySem.Spec PyProof.Rows
end L2

set_option Elab.async false
set_option linter.all false
set_option maxRecDepth 100000
/-! Widths of sayings. -/
namespace L2
open PySem
end L2

set_option Elab.async false
set_option linter.all false
set_option maxRecDepth 100000
/-! Sayings of any thing. -/
namespace L2
open PySem
end L2

set_option Elab.async false
set_option linter.all false
set_option maxRecDepth 100000
namespace L2
open PySem PySem.Spec PyProof.Rows
end L2
namespace HT
open PySem PyProof.Rows
section
end
end HT
namespace L2
open PySem PySem.Spec PyProof.Rows
end L2

namespace L2
open PySem PySem.Spec PyProof.Rows
/-! ### a display of things that are written out, at once -/
end L2

set_option Elab.async false
set_option linter.all false
/-! Rows of bits, the lowest one first. -/
namespace L2
/-- sums by carrying -/
def cy (X Y c i : Nat) : Nat := (X % 2 ^ i + Y % 2 ^ i + c) / 2 ^ i
/-! the rows -/
end L2
namespace L2
end L2

set_option Elab.async false
set_option linter.all false
set_option maxRecDepth 100000
/-! A dict that stays as it is, walked; lists of dicts compared; sums of lists, lists turned round, lists in order. -/
namespace L2
open PySem PySem.Spec PyProof.Rows
section
end
section
end
end L2
namespace L2
open PySem PySem.Spec PyProof.Rows PySem.SeqAt MeetsSeq MeetsSeq2 MeetsSeq3
open AutoSeq1 (wpAny_loadPart')
end L2
namespace L2
open PySem PySem.Spec PyProof.Rows PySem.SeqAt MeetsSeq MeetsSeq2 MeetsSeq3
open AutoSeq1 (wpAny_loadPart')
end L2

set_option Elab.async false
set_option linter.all false
set_option maxRecDepth 100000
/-! enumerate of a list, walked by a loop or a comprehension. -/
namespace L2
open PySem PySem.Spec PyProof.Rows
end L2

set_option Elab.async false
set_option linter.all false
/-! The bench: ends, gates and what they are worth at many stands at once. -/
namespace L2
/-! bits -/
end L2

set_option Elab.async false
set_option linter.all false
set_option maxRecDepth 100000
/-! The bench as it stands: its fields, its lists, its dict of known gates. -/
namespace L2
open PySem
def ci (g : Nat × Nat) : Int × Int := ((g.1 : Int), (g.2 : Int))
def nV (L : List Nat) : List V := L.map fun k : Nat => V.int (k : Int)
theorem nV_len {L : List Nat} : (nV L).length = L.length := by unfold nV; simp
theorem comp_tup_map {K : PySem.W.Frag} {a : Addr} {S : V → St} {te : TE} {H : Hp} {Fin : List V → Hp → Prop} {xs : List V} (f : V → V) (hS : SqT K H a xs) (hz : xs.length ≤ 100000) (hs : ∀ x ∈ xs, ∀ N : V → Hp → Prop, N (f x) H → te (S x) H N) (hd : Fin (xs.map f) H) : CompW (Itt K a) S tYes te H Fin := by
  refine comp_tup (xs := xs) (fun i ys H' => ys = (xs.take i).map f ∧ H = H') ⟨rfl, rfl⟩ ?_ ?_ ?_ ?_
  · rintro i ys H' _ ⟨_, rfl⟩
    exact hS
  · rintro i ys H' hi ⟨rfl, _⟩
    rw [List.length_map, List.length_take]
    exact smallL (by (first | lia | omega))
  · rintro i x ys H' hx ⟨rfl, rfl⟩
    obtain ⟨hi, he⟩ := List.getElem?_eq_some_iff.mp hx
    unfold tYes
    dsimp only
    rw [if_pos rfl]
    refine hs x (he ▸ List.getElem_mem hi) _ ⟨?_, rfl⟩
    rw [List.take_succ_eq_append_getElem hi, List.map_append, he]
    rfl
  · rintro ys H' ⟨rfl, rfl⟩
    rw [List.take_length]
    exact hd
theorem all_true (n : Nat) : (List.replicate n true).all id = true := by
  rw [List.all_eq_true]
  intro b hb
  rw [(List.mem_replicate.mp hb).2]
  rfl
theorem map_true (xs : List V) : xs.map (fun _ => V.bl true) = (List.replicate xs.length true).map V.bl := by
  rw [List.map_const', List.map_replicate]
/-- a list or a tuple, walked -/
theorem pi_or {X : Cx} {tg it : Expr} {w1 w2 : TI} (h1 : PI X tg it w1) (h2 : PI X tg it w2) : PI X tg it (fun σ H R => w1 σ H R ∨ w2 σ H R) := by
  intro pins s σ H R I h
  rcases h with h | h
  · exact h1 pins s σ H R I h
  · exact h2 pins s σ H R I h
end L2

set_option Elab.async false
set_option linter.all false
set_option maxRecDepth 100000
/-! The rules over lists and tuples that the call made itself: no word of the module's objects, so that a reading is a closed term, told once for every depth. -/
namespace L2
open PySem PySem.Spec PyProof.Rows
abbrev KN : PySem.W.Frag := []
theorem SqL.up {K : PySem.W.Frag} {H : Hp} {a : Addr} {xs : List V} (h : SqL KN H a xs) : SqL K H a xs := by
  rcases h with h | ⟨o, _, _, e, _⟩
  · exact .inl h
  · exact nomatch (show (none : Option Obj) = some o from e)
theorem SqT.up {K : PySem.W.Frag} {H : Hp} {a : Addr} {xs : List V} (h : SqT KN H a xs) : SqT K H a xs := by
  rcases h with h | ⟨o, _, _, e, _⟩
  · exact .inl h
  · exact nomatch (show (none : Option Obj) = some o from e)
section
variable {X : Cx}
theorem ix_list0 : IxR X (rIxL KN) := fun va sl pins s σ H x y v u Q I rx ry ⟨p, xs, i, z, e1, e2, hq, r⟩ hs => ix_list va sl pins s σ H x y v u Q I rx ry ⟨p, xs, i, z, e1, e2, hq.up, r⟩ hs
theorem ix_tup0 : IxR X (rIxT KN) := fun va sl pins s σ H x y v u Q I rx ry ⟨p, xs, i, z, e1, e2, hq, r⟩ hs => ix_tup va sl pins s σ H x y v u Q I rx ry ⟨p, xs, i, z, e1, e2, hq.up, r⟩ hs
theorem sl_list0 : SlR X (rSlL KN) := fun pins s σ H x v vl vu lo hi sl Q I rx hs pl pu ⟨a, xs, e, hq, r⟩ => sl_list pins s σ H x v vl vu lo hi sl Q I rx hs pl pu ⟨a, xs, e, hq.up, r⟩
theorem sl_tup0 : SlR X (rSlT KN) := fun pins s σ H x v vl vu lo hi sl Q I rx hs pl pu ⟨a, xs, e, hq, r⟩ => sl_tup pins s σ H x v vl vu lo hi sl Q I rx hs pl pu ⟨a, xs, e, hq.up, r⟩
theorem LenV.up {K : PySem.W.Frag} {x : V} {H : Hp} {n : Nat} (h : LenV KN x H n) : LenV K x H n := by
  cases x with
  | ref p =>
    rcases (show (∃ xs, SqL KN H p xs ∧ n = xs.length) ∨ ∃ xs, SqT KN H p xs ∧ n = xs.length from h) with ⟨xs, a, b⟩ | ⟨xs, a, b⟩
    · exact .inl ⟨xs, a.up, b⟩
    · exact .inr ⟨xs, a.up, b⟩
  | _ => exact h
theorem TruV.up {K : PySem.W.Frag} {x : V} {H : Hp} {k : Bool} (h : TruV KN x H k) : TruV K x H k := by
  cases x with
  | ref p =>
    rcases (show (∃ xs, SqL KN H p xs ∧ k = !xs.isEmpty) ∨ (∃ xs, SqT KN H p xs ∧ k = !xs.isEmpty) ∨ ∃ kvs, H p = some (.dK kvs) ∧ k = !kvs.isEmpty from h) with ⟨xs, a, b⟩ | ⟨xs, a, b⟩ | c
    · exact .inl ⟨xs, a.up, b⟩
    · exact .inr (.inl ⟨xs, a.up, b⟩)
    · exact .inr (.inr c)
  | _ => exact h
theorem call_len0 : CallR X (.builtin "len") (fun xs H Q => ∃ x n, xs = [x] ∧ LenV KN x H n ∧ Q (.int n) H) := fun pins s σ H xs us Q I r ⟨x, n, e, l, q⟩ => call_len pins s σ H xs us Q I r ⟨x, n, e, l.up, q⟩
theorem call_tuple_of0 : CallR X (.type "tuple") (fun xs H Q => ∃ p ys, xs = [.ref p] ∧ ((SqL KN H p ys ∧ ∀ l, H l = none → Q (.ref l) (upd H l (.tup ys))) ∨ (SqT KN H p ys ∧ Q (.ref p) H))) := fun pins s σ H xs us Q I r ⟨p, ys, e, l⟩ =>
  call_tuple_of pins s σ H xs us Q I r ⟨p, ys, e, l.imp (fun z => ⟨z.1.up, z.2⟩) fun z => ⟨z.1.up, z.2⟩⟩
theorem call_all0 : CallR X (.builtin "all") (fun xs H Q => X.calm = true ∧ ∃ (p : Addr) (bs : List Bool), xs = [.ref p] ∧ SqL KN H p (bs.map V.bl) ∧ Q (.bl (bs.all id)) H) := fun pins s σ H xs us Q I r ⟨c, p, bs, e, l, q⟩ =>
  call_all pins s σ H xs us Q I r ⟨c, p, bs, e, l.up, q⟩
theorem op_in_seq0 : OpR X (compareOp .In) (rIn KN false) := fun pins s σ H x y v u Q I rx ry ⟨p, xs, e, l, q⟩ => op_in_seq pins s σ H x y v u Q I rx ry ⟨p, xs, e, l.imp (·.up) (·.up), q⟩
theorem op_notIn_seq0 : OpR X (compareOp .NotIn) (rIn KN true) := fun pins s σ H x y v u Q I rx ry ⟨p, xs, e, l, q⟩ => op_notIn_seq pins s σ H x y v u Q I rx ry ⟨p, xs, e, l.imp (·.up) (·.up), q⟩
theorem Turn.up {P : Program} {w : World} {K : PySem.W.Frag} {tg : Expr} {J J' : It} {fp : List Addr} {it : Addr} {tn : Nat → Heap → Prop} (t : Turn P w K tg J fp it tn) (g : ∀ i H, J'.go i H → J.go i H) (d : ∀ i H, J'.stop i H → J.stop i H)
    (y : ∀ i H x H', J.yld i H x H' → J'.yld i H x H') : Turn P w K tg J' fp it tn where
  mem := t.mem
  obj := t.obj
  keep := t.keep
  item := fun X a b c e i pins s σ H E I f n q => thn (t.item X a b c e i pins s σ H E I f n (g _ _ q)) fun r s1 ⟨u, h1, h2⟩ => ⟨u, h1, thn h2 fun _ s2 ⟨x, H', I', r', y', z⟩ => ⟨x, H', I', r', y _ _ _ _ y', z⟩⟩
  done := fun X a b c e i pins s σ H E I f n q => t.done X a b c e i pins s σ H E I f n (d _ _ q)
  self := t.self
/-- a reading whose end may be weakened -/
def cl (t : TE) : TE := fun σ H Q => ∃ R, t σ H R ∧ ∀ x H', R x H' → Q x H'
def cla (t : TA) : TA := fun σ H Q => ∃ R, t σ H R ∧ ∀ x H', R x H' → Q x H'
theorem PE.cl {e : Expr} {t : TE} (h : PE X e t) : PE X e (cl t) := fun pins s σ H Q I ⟨R, q, m⟩ => thn (h pins s σ H R I q) fun v s' ⟨x, H', I', r, z⟩ => ⟨x, H', I', r, m _ _ z⟩
theorem PA.cl {es : List Expr} {t : TA} (h : PA X es t) : PA X es (cla t) := fun pos pins s σ H Q I ⟨R, q, m⟩ => thn (h pos pins s σ H R I q) fun v s' ⟨x, H', I', r, z⟩ => ⟨x, H', I', r, m _ _ z⟩
theorem PE.wk0 {e : Expr} {t t' : TE} (h : PE X e t) (m : ∀ σ H Q, t' σ H Q → t σ H Q) : PE X e t' := fun pins s σ H Q I q => h pins s σ H Q I (m _ _ _ q)
theorem PI.weak {tg l : Expr} {wi wi' : TI} (h : PI X tg l wi)
    (m : ∀ σ H R, wi' σ H R → wi σ H fun J0 H1 => ∃ J1, ((∀ i H, J1.go i H → J0.go i H) ∧ (∀ i H, J1.stop i H → J0.stop i H) ∧ ∀ i H x H', J0.yld i H x H' → J1.yld i H x H') ∧ R J1 H1) : PI X tg l wi' := fun pins s σ H R I q =>
  thn (h pins s σ H _ I (m _ _ _ q)) fun v s1 z => thn z fun itv s2 ⟨it, fp, tn, J, H', e, I', t, n, f, J1, ⟨g, d, y⟩, r⟩ => ⟨it, fp, tn, J1, H', e, I', t.up g d y, n, f, r⟩
theorem pi_list0 {tg l : Expr} {tl : TE} (hl : PE X l tl) : PI X tg l (iList KN tl) := (pi_list hl.cl).weak fun σ H R q => ⟨_, q, fun x H1 ⟨a, e, ⟨xs, z⟩, r⟩ => ⟨a, e, ⟨xs, z.up⟩, Itl KN a,
  ⟨fun i H ⟨xs, x, u, v⟩ => ⟨xs, x, u.up, v⟩, fun i H ⟨xs, u, v⟩ => ⟨xs, u.up, v⟩, fun i H x H' ⟨u, v⟩ => ⟨u, fun xs z => v xs z.up⟩⟩, r⟩⟩
theorem pi_tup0 {tg l : Expr} {tl : TE} (hl : PE X l tl) : PI X tg l (iTup KN tl) := (pi_tup hl.cl).weak fun σ H R q => ⟨_, q, fun x H1 ⟨a, e, ⟨xs, z⟩, r⟩ => ⟨a, e, ⟨xs, z.up⟩, Itt KN a,
  ⟨fun i H ⟨xs, x, u, v⟩ => ⟨xs, x, u.up, v⟩, fun i H ⟨xs, u, v⟩ => ⟨xs, u.up, v⟩, fun i H x H' ⟨u, v⟩ => ⟨u, fun xs z => v xs z.up⟩⟩, r⟩⟩
theorem pt_truth0 {a : Expr} {ta : TE} (ha : PE X a ta) (he : ∀ whole, isTrue a X.env whole = (do let v ← whole; standAt a.pos; holding [v] (truthy v))) :
    PT X a (fun σ H Q => ta σ H fun x H' => ∃ k, TruV KN x H' k ∧ Q k H') := fun pins s σ H Q I q => pt_truth ha.cl he pins s σ H Q I ⟨_, q, fun x H' ⟨k, t, z⟩ => ⟨k, t.up, z⟩⟩
theorem tyV.up {K : PySem.W.Frag} {T : String} {x : V} {H : Hp} (h : tyV KN T x H) : tyV K T x H := by
  cases x with
  | ref p =>
    rcases (show (T = "list" ∧ ∃ xs, SqL KN H p xs) ∨ (T = "tuple" ∧ ∃ o, KN.lookup p = some o ∧ o.cls = .type "tuple" ∧ o.dict = none) ∨ (T = "dict" ∧ ((∃ kvs, H p = some (.dK kvs)) ∨ ∃ kvs, H p = some (.dT kvs))) ∨ (T = "set" ∧ ∃ S n, H p = some (.set S n)) from h) with ⟨a, xs, b⟩ | ⟨_, o, e, _⟩ | c
    · exact .inl ⟨a, xs, b.up⟩
    · exact nomatch (show (none : Option Obj) = some o from e)
    · exact .inr (.inr c)
  | _ => exact h
variable {o e : Expr} {es : List Expr} {to : TE} {t : TA} {name : Str} {apos cpos : Pos} {T id : String} {r : V → List V → Hp → VK → Prop}
theorem pe_bm00 (pa : PlainAttrs T) (slot : Slot T name id) (hty : typeOf (.builtin id) = pure (.type "method_descriptor")) (hm : MtR X id r) (ho : PE X o to)
    (hbase : attributeBase o name X.env (eval o X.env) = eval o X.env := by rfl) (hline : (apos.endLine == cpos.line) = true := by rfl) : PE X (.Call (.Attribute o name apos) [] [] cpos) (tBM0 KN T r to) :=
  (pe_bm0 pa slot hty hm ho.cl hbase hline).wk0 fun σ H Q q => ⟨_, q, fun x H1 z => ⟨z.1.up, z.2⟩⟩
theorem pe_bmN (pa : PlainAttrs T) (slot : Slot T name id) (hty : typeOf (.builtin id) = pure (.type "method_descriptor")) (hm : MtR X id r) (ho : PE X o to) (ha : PA X (e :: es) t)
    (hbase : attributeBase o name X.env (eval o X.env) = eval o X.env := by rfl)
    (hfew : ((backTo cpos (starEach (e :: es) X.env)).all (fun x => !x.1) && (backToKw cpos (keywordEach [] X.env)).all (fun x => x.1.isSome)
      && decide ((e :: es).length + ([] : List Keyword).length + (if ([] : List Keyword).isEmpty then 0 else 1) < 30)) = true := by rfl)
    (hline : (apos.endLine == cpos.line) = true := by rfl) (hs : starEach (e :: es) X.env = (false, eval e X.env) :: starEach es X.env := by rfl) (hplain : (backTo cpos (starEach es X.env)).any (·.1) = false := by rfl) :
    PE X (.Call (.Attribute o name apos) (e :: es) [] cpos) (tBM KN T r to t) := (pe_bm pa slot hty hm ho.cl ha hbase hfew hline hs hplain).wk0 fun σ H Q q => ⟨_, q, fun x H1 z => ⟨z.1.up, z.2⟩⟩
theorem pg_tup0 {pos : Pos} {es : List Expr} {k : Nat} {t : TGs} {n : Nat} (hc : X.calm = true) (h : PGs X es t)
    (hn : (assignEach es X.env).length = n := by rfl) (hst : (assignEach es X.env).findIdx? (·.1) = none := by rfl) : PG X (.Tuple es k pos) (gTup KN n t) := fun pins s σ H v u Q I r ⟨a, xs, e, hq, z⟩ => pg_tup hc h hn hst pins s σ H v u Q I r ⟨a, xs, e, hq.up, z⟩
end
theorem l_cons {P : List Value → Prop} {n : Nat} (h : ∀ a us, us.length = n → P (a :: us)) : ∀ us : List Value, us.length = n + 1 → P us
  | [], e => nomatch e
  | a :: us, e => h a us (Nat.succ.inj e)
theorem l_nil {P : List Value → Prop} (h : P []) : ∀ us : List Value, us.length = 0 → P us
  | [], _ => h
  | _ :: _, e => nomatch e
end L2

set_option Elab.async false
set_option linter.all false
set_option maxRecDepth 100000
/-! Texts parted and read: split, int of a text, repr. -/
namespace L2
open PySem PySem.Spec PyProof.Rows
section
variable {X : Cx}
theorem vals_strs (k : Nat) : ∀ (n : Nat) (ts : List Str), Vals (ts.map V.str) (strValues (numbered n ts))
  | _, [] => .nil
  | n, t :: ts => .cons ⟨_, rfl⟩ (vals_strs k (n + 1) ts)
theorem lst_laid {pins : List (Addr × Obj)} {σ : St} {H : Hp} {s : Shared} {t' : Nat} {xs : List V} {us : List Value} (I : Inv X pins σ H s) (r : Vals xs us) (hz : xs.length ≤ sizeLine) :
    Inv X pins σ (upd H s.heap.objs.size (.lst xs)) { s with heap := s.heap.push { cls := .type "list", data := .seq us.toArray }, toks := t' } :=
  I.laid (t' := t') (o := .lst xs) (fun b ob q => Heap.get?_push_of_some _ q) (Nat.le_refl _) ⟨hz, us, 0, r, Heap.get?_push_size _ rfl⟩
theorem mt_split : MtR X "str.split" (fun x xs H Q => ∃ z y : Str, x = .str z ∧ xs = [.str y] ∧ (y.length == 0) = false ∧ z.length + 2 ≤ sizeLine ∧ ∀ p, H p = none → Q (.ref p) (upd H p (.lst ((Txt.split z y).map V.str)))) := by
  intro pins s σ H x xs v us Q I rx r h
  obtain ⟨z, y, rfl, rfl, hy, hz, q⟩ := h
  obtain ⟨t, rfl⟩ := rx
  obtain ⟨u, rfl, ru⟩ := vals1 r
  obtain ⟨t', rfl⟩ := ru
  have hl := StrLaws.occ_length_le z y 0 z.length (z.length + 1)
  have hn : (Builtin.Str.partsBetween z (Builtin.Str.occurrences z y 0 z.length (z.length + 1)) y.length).length ≤ sizeLine := by
    unfold Builtin.Str.partsBetween
    rw [List.length_map, List.length_zip, List.length_cons, List.length_map, List.length_append]
    simp only [List.length_cons, List.length_nil]
    (first | lia | omega)
  have q' := q s.heap.objs.size (I.hok.fresh (Nat.le_refl _))
  unfold Txt.split at q'
  cases h1 : (decide (z.length < y.length) || decide (Builtin.Str.strKind z < Builtin.Str.strKind y)) with
  | true =>
    rw [h1, if_pos rfl] at q'
    exact call_meets F.slot_str_split (typeIs_str _ _ _) F.entry_str_split (F.args_str_split_2 _ _) (meets_str_split_cannot_occur z y t t' h1) ⟨.ref s.heap.objs.size, _, lst_laid (t' := s.toks) I (xs := [.str z]) (us := [.str z t]) (.cons ⟨_, rfl⟩ .nil) (by show 1 ≤ sizeLine; decide), rfl, q'⟩
  | false =>
    rw [h1, if_neg Bool.false_ne_true] at q'
    cases hf : (Builtin.Str.occurrences z y 0 z.length (z.length + 1)).isEmpty with
    | true =>
      rw [hf, if_pos rfl] at q'
      exact call_meets F.slot_str_split (typeIs_str _ _ _) F.entry_str_split (F.args_str_split_2 _ _) (meets_str_split_not_found z y t t' h1 hy hf) ⟨.ref s.heap.objs.size, _, lst_laid (t' := s.toks) I (xs := [.str z]) (us := [.str z t]) (.cons ⟨_, rfl⟩ .nil) (by show 1 ≤ sizeLine; decide), rfl, q'⟩
    | false =>
      rw [hf, if_neg Bool.false_ne_true] at q'
      refine call_meets F.slot_str_split (typeIs_str _ _ _) F.entry_str_split (F.args_str_split_2 _ _) (meets_str_split_sep z y t t' h1 hy hf (by (first | lia | omega)) hn) ?_
      have e := strsFrom_eq s.toks (Builtin.Str.partsBetween z (Builtin.Str.occurrences z y 0 z.length (z.length + 1)) y.length)
      show wants _ _ _ _
      rw [e]
      exact ⟨.ref s.heap.objs.size, _, lst_laid I (vals_strs 0 s.toks _) (by rw [List.length_map]; exact hn), rfl, q'⟩
theorem call_intT : CallR X (.type "int") (fun xs H Q => ∃ (x : Str) (n : Int), xs = [.str x] ∧ PySem.intText? x = some n ∧ x.length ≤ 640 ∧ Q (.int n) H) := by
  intro pins s σ H xs us Q I r h
  obtain ⟨x, n, rfl, hn, hl, q⟩ := h
  obtain ⟨u, rfl, t, rfl⟩ := vals1 r
  exact PySem.W.KIN.call_text hn hl ⟨.int n, H, I.tok _, ⟨_, rfl⟩, q⟩
/-- repr of a thing that lies in the heap -/
theorem call_repr (hu : X.A.units + 64 < cLine) : CallR X (.builtin "repr") (fun xs H Q => ∃ (a : Addr) (d : PyData), xs = [.ref a] ∧ RdD X.K H d (.ref a) ∧ d.showable = true ∧ d.hasDict = false ∧ d.depth ≤ 20 ∧ d.shown.length ≤ sizeLine ∧ Q (.str d.shown) H) := by
  intro pins s σ H xs us Q I r h
  obtain ⟨a, d, rfl, hd, hs, hn, hp, hz, q⟩ := h
  obtain ⟨u, rfl, rx⟩ := vals1 r
  obtain ⟨as, rr⟩ := Inv.reads I hd rx
  cases (show u = Value.ref a from rx)
  refine repr_of_reads' rr hs (PyData.noDict_hsm hn) I.ok.gd (by (first | lia | omega)) (fun _ _ e => e) (fun h' u tk k => ⟨.str d.shown, H, I.kept k, ⟨_, rfl⟩, q⟩) hz
end
end L2
namespace L2
open PySem PySem.Spec PyProof.Rows
/-! joined and parted again -/
def jnT (c : Nat) : List (List Nat) → List Nat
  | [] => []
  | [x] => x
  | x :: y :: r => x ++ c :: jnT c (y :: r)
theorem cut_same {c : Nat} : ∀ {p q r t : List Nat}, c ∉ p → c ∉ q → p ++ c :: r = q ++ c :: t → p = q ∧ r = t
  | [], [], _, _, _, _, h => by simpa using h
  | [], b :: q, _, _, _, hq, h => by
    simp only [List.nil_append, List.cons_append, List.cons.injEq] at h
    exact absurd (by rw [h.1]; exact List.mem_cons_self) hq
  | a :: p, [], _, _, hp, _, h => by
    simp only [List.nil_append, List.cons_append, List.cons.injEq] at h
    exact absurd (by rw [← h.1]; exact List.mem_cons_self) hp
  | a :: p, b :: q, r, t, hp, hq, h => by
    simp only [List.cons_append, List.cons.injEq] at h
    obtain ⟨e1, e2⟩ := cut_same (fun z => hp (List.mem_cons_of_mem _ z)) (fun z => hq (List.mem_cons_of_mem _ z)) h.2
    exact ⟨by rw [h.1, e1], e2⟩
theorem jnT_inj {c : Nat} : ∀ {ps qs : List (List Nat)}, ps ≠ [] → qs ≠ [] → (∀ p ∈ ps, c ∉ p) → (∀ q ∈ qs, c ∉ q) → jnT c ps = jnT c qs → ps = qs
  | [], _, h, _, _, _, _ => absurd rfl h
  | _, [], _, h, _, _, _ => absurd rfl h
  | [x], [y], _, _, _, _, h => by rw [show x = y from h]
  | [x], y :: z :: r, _, _, hp, _, h => absurd (by rw [show x = y ++ c :: jnT c (z :: r) from h]; simp) (hp x List.mem_cons_self)
  | y :: z :: r, [x], _, _, _, hq, h => absurd (by rw [← show y ++ c :: jnT c (z :: r) = x from h]; simp) (hq x List.mem_cons_self)
  | x :: y :: r, u :: v :: t, _, _, hp, hq, h => by
    obtain ⟨e1, e2⟩ := cut_same (hp x List.mem_cons_self) (hq u List.mem_cons_self) (show x ++ c :: jnT c (y :: r) = u ++ c :: jnT c (v :: t) from h)
    rw [e1, jnT_inj (by simp) (by simp) (fun p h => hp p (List.mem_cons_of_mem _ h)) (fun q h => hq q (List.mem_cons_of_mem _ h)) e2]
theorem join_jn (c : Nat) : ∀ ws : List Str, (Str.join ⟨#[c]⟩ ws).cps.toList = jnT c (ws.map fun w => w.cps.toList)
  | [] => rfl
  | [x] => rfl
  | x :: y :: r => by
    show ((x.cps ++ #[c]) ++ (Str.join ⟨#[c]⟩ (y :: r)).cps).toList = x.cps.toList ++ c :: jnT c ((y :: r).map fun w => w.cps.toList)
    rw [← join_jn c (y :: r)]
    simp
theorem split_ne (x y : Str) : Txt.split x y ≠ [] := by
  unfold Txt.split
  split
  · simp
  · split
    · simp
    · unfold Builtin.Str.partsBetween
      intro h
      have := congrArg List.length h
      simp at this
theorem split_join {c : Nat} {ws : List Str} (hn : ws ≠ []) (hw : ∀ w ∈ ws, c ∉ w.cps.toList) : Txt.split (Str.join ⟨#[c]⟩ ws) ⟨#[c]⟩ = ws := by
  have h1 := StrLaws.join_split (Str.join ⟨#[c]⟩ ws) ⟨#[c]⟩
  have h2 := StrLaws.split_free (Str.join ⟨#[c]⟩ ws) c
  have h3 := congrArg (fun s : Str => s.cps.toList) h1
  simp only [join_jn] at h3
  have e := jnT_inj (c := c) (ps := (Txt.split (Str.join ⟨#[c]⟩ ws) ⟨#[c]⟩).map fun w => w.cps.toList) (qs := ws.map fun w => w.cps.toList) (by simpa using split_ne _ _) (by simpa using hn) (fun p hp => ?_) (fun p hp => ?_) h3
  · refine List.map_inj_right (f := fun w : Str => w.cps.toList) (fun a b h => ?_) |>.mp e
    cases a; cases b
    congr 1
    exact Array.toList_inj.mp h
  · obtain ⟨w, hw', rfl⟩ := List.mem_map.mp hp
    exact h2 w hw'
  · obtain ⟨w, hw', rfl⟩ := List.mem_map.mp hp
    exact hw w hw'
/-! numbers as words -/
def nw (n : Nat) : Str := Str.ofString (toString (n : Int))
theorem nw_signs (n : Nat) : (nw n).cps.toList = (Nat.toDigits 10 n).map Char.toNat := PySem.W.KIN.signs_num n
theorem nw_dig {n c : Nat} (h : c ∈ (nw n).cps.toList) : 48 ≤ c ∧ c ≤ 57 := by
  rw [nw_signs] at h
  obtain ⟨ch, hch, rfl⟩ := List.mem_map.mp h
  exact digit_range (Nat.isDigit_of_mem_toDigits (by decide) (by decide) hch)
theorem nw_pos (n : Nat) : 1 ≤ (nw n).length := by
  have h : (nw n).length = (Nat.toDigits 10 n).length := by
    show (nw n).cps.size = _
    rw [← Array.length_toList, nw_signs, List.length_map]
  rw [h]
  exact toDigits_len_ge 10 n
theorem digs_len : ∀ (k n : Nat), n < 10 ^ (k + 1) → (Nat.toDigits 10 n).length ≤ k + 1
  | 0, n, h => by rw [Nat.toDigits_of_lt_base (by simpa using h)]; simp
  | k + 1, n, h => by
    by_cases h9 : n < 10
    · rw [Nat.toDigits_of_lt_base h9]; simp
    · have t : Nat.toDigits 10 (n / 10) ++ Nat.toDigits 10 (n % 10) = Nat.toDigits 10 (10 * (n / 10) + n % 10) := Nat.toDigits_append_toDigits (by decide) (by (first | lia | omega)) (Nat.mod_lt n (by decide))
      rw [Nat.div_add_mod] at t
      rw [← t, List.length_append, Nat.toDigits_of_lt_base (Nat.mod_lt n (by decide))]
      have := digs_len k (n / 10) (by rw [Nat.pow_succ] at h; (first | lia | omega))
      simp only [List.length_cons, List.length_nil]
      (first | lia | omega)
theorem nw_len {n : Nat} (h : n < 10 ^ 9) : (nw n).length ≤ 9 := by
  show (nw n).cps.size ≤ _
  rw [← Array.length_toList, nw_signs, List.length_map]
  exact digs_len 8 n h
theorem digs_head : ∀ (n : Nat), 0 < n → ∃ c r, Nat.toDigits 10 n = c :: r ∧ c.toNat ≠ 48 := by
  intro n
  induction n using Nat.strongRecOn with
  | _ n ih =>
    intro h
    by_cases h9 : n < 10
    · rw [Nat.toDigits_of_lt_base h9]
      refine ⟨_, _, rfl, ?_⟩
      have : ∀ d : Nat, d < 10 → 0 < d → (Nat.digitChar d).toNat ≠ 48 := by decide
      exact this n h9 h
    · have t : Nat.toDigits 10 (n / 10) ++ Nat.toDigits 10 (n % 10) = Nat.toDigits 10 (10 * (n / 10) + n % 10) := Nat.toDigits_append_toDigits (by decide) (by (first | lia | omega)) (Nat.mod_lt n (by decide))
      rw [Nat.div_add_mod] at t
      obtain ⟨c, r, e, hc⟩ := ih (n / 10) (by (first | lia | omega)) (by (first | lia | omega))
      rw [← t, e]
      exact ⟨c, _, rfl, hc⟩
theorem nw_head {n : Nat} (h : 0 < n) : ∃ c r, (nw n).cps.toList = c :: r ∧ c ≠ 48 := by
  obtain ⟨c, r, e, hc⟩ := digs_head n h
  rw [nw_signs, e]
  exact ⟨_, _, rfl, hc⟩
theorem nw_zero : nw 0 = "0" := by decide
theorem nw_reads {n : Nat} (h : n < 10 ^ 9) : PySem.intText? (nw n) = some (n : Int) := PySem.W.KIN.num_reads (by (first | lia | omega)) (by (first | lia | omega))
/-! rows of words -/
def GW (t : Str) : Prop := t.length ≠ 0 ∧ 32 ∉ t.cps.toList ∧ 10 ∉ t.cps.toList ∧ t.length ≤ 20
theorem GW.nw {n : Nat} (h : n < 10 ^ 9) : GW (nw n) := ⟨by have := nw_pos n; (first | lia | omega), fun z => by have := nw_dig z; (first | lia | omega), fun z => by have := nw_dig z; (first | lia | omega), by have := nw_len h; (first | lia | omega)⟩
def rowT (ws : List Str) : Str := Str.join ⟨#[32]⟩ ws
def txt (rows : List (List Str)) : Str := Str.join ⟨#[10]⟩ (rows.map rowT)
theorem jnT_mem {c d : Nat} (hd : d ≠ c) : ∀ {ps : List (List Nat)}, (∀ p ∈ ps, d ∉ p) → d ∉ jnT c ps
  | [], _ => by simp [jnT]
  | [x], h => h x List.mem_cons_self
  | x :: y :: r, h => by
    show d ∉ x ++ c :: jnT c (y :: r)
    rw [List.mem_append, List.mem_cons]
    rintro (z | z | z)
    · exact h x List.mem_cons_self z
    · exact hd z
    · exact jnT_mem hd (fun p hp => h p (List.mem_cons_of_mem _ hp)) z
theorem row_split {ws : List Str} (hn : ws ≠ []) (hw : ∀ w ∈ ws, GW w) : Txt.split (rowT ws) ⟨#[32]⟩ = ws := split_join hn fun w h => (hw w h).2.1
theorem txt_split {rows : List (List Str)} (hn : rows ≠ []) (hw : ∀ ws ∈ rows, ∀ w ∈ ws, GW w) : Txt.split (txt rows) ⟨#[10]⟩ = rows.map rowT := by
  refine split_join (by simpa using hn) fun w h => ?_
  obtain ⟨ws, h1, rfl⟩ := List.mem_map.mp h
  unfold rowT
  rw [join_jn]
  refine jnT_mem (by decide) fun p hp => ?_
  obtain ⟨w, h2, rfl⟩ := List.mem_map.mp hp
  exact (hw ws h1 w h2).2.2.1
theorem join_len (sep : Str) (ts : List Str) {m : Nat} (h : ∀ t ∈ ts, t.length ≤ m) (hs : sep.length = 1) : (Str.join sep ts).length ≤ ts.length * (m + 1) := by
  have h1 := StrLaws.join_length_le sep ts
  have h2 := StrLaws.sumLen_le ts h
  rw [hs] at h1
  rw [Nat.mul_add]
  (first | lia | omega)
theorem row_len {ws : List Str} (hw : ∀ w ∈ ws, GW w) (hl : ws.length ≤ 20) : (rowT ws).length ≤ 420 := by
  have h := join_len ⟨#[32]⟩ ws (m := 20) (fun t ht => (hw t ht).2.2.2) rfl
  unfold rowT
  have : ws.length * 21 ≤ 20 * 21 := Nat.mul_le_mul_right _ hl
  (first | lia | omega)
theorem txt_len {rows : List (List Str)} (hw : ∀ ws ∈ rows, ∀ w ∈ ws, GW w) (hl : ∀ ws ∈ rows, ws.length ≤ 20) (hr : rows.length ≤ 200) : (txt rows).length ≤ 90000 := by
  have h := join_len ⟨#[10]⟩ (rows.map rowT) (m := 420) (fun t ht => by obtain ⟨ws, h1, rfl⟩ := List.mem_map.mp ht; exact row_len (hw ws h1) (hl ws h1)) rfl
  rw [List.length_map] at h
  unfold txt
  have : rows.length * 421 ≤ 200 * 421 := Nat.mul_le_mul_right _ hr
  (first | lia | omega)
/-! on the heap -/
def sV (ws : List Str) : List V := ws.map V.str
theorem sV_len (ws : List Str) : (sV ws).length = ws.length := List.length_map _
def TRw (H : Hp) (p : Addr) (rs : List Addr) (rows : List (List Str)) : Prop := H p = some (.lst (rs.map V.ref)) ∧ Paired (fun r ws => H r = some (.lst (sV ws))) rs rows
theorem TRw.same {H H' : Hp} {p : Addr} {rs : List Addr} {rows : List (List Str)} (s : Same H H') (h : TRw H p rs rows) : TRw H' p rs rows := ⟨s _ _ h.1, pairedMono (fun _ _ q => s _ _ q) h.2⟩
/-- rows that can be written -/
structure TOk (rows : List (List Str)) : Prop where
  gw : ∀ ws ∈ rows, ∀ w ∈ ws, GW w
  len : ∀ ws ∈ rows, ws.length ≤ 20
  many : rows.length ≤ 200
  full : ∀ ws ∈ rows, ws ≠ []
def sp_is_figures : Sp := fun vs H Q _ => ∃ n : Nat, vs = [.str (nw n)] ∧ n < 10 ^ 9 ∧ ∀ H', Same H H' → Q (.bl true) H'
def sp_number_of : Sp := fun vs H Q _ => ∃ n : Nat, vs = [.str (nw n)] ∧ n < 10 ^ 9 ∧ ∀ H', Same H H' → Q (.int n) H'
def sp_numbers_of : Sp := fun vs H Q _ => ∃ (l : Addr) (ns : List Nat), vs = [.ref l] ∧ H l = some (.lst (sV (ns.map nw))) ∧ (∀ n ∈ ns, n < 10 ^ 9) ∧ ns.length ≤ 20 ∧ ∀ p H', H p = none → Same H H' → H' p = some (.tup (nV ns)) → Q (.ref p) H'
def sp_words_of : Sp := fun vs H Q _ => ∃ (l : Addr) (ns : List Nat), vs = [.ref l] ∧ H l = some (.tup (nV ns)) ∧ (∀ n ∈ ns, n < 10 ^ 9) ∧ ns.length ≤ 20 ∧ ∀ p, H p = none → Q (.ref p) (upd H p (.lst (sV (ns.map nw))))
def sp_words_behind : Sp := fun vs H Q _ => ∃ (r : Addr) (w : Str) (ws : List Str), vs = [.ref r, .int (ws.length : Nat)] ∧ H r = some (.lst (sV (w :: ws))) ∧ ∀ p, H p = none → Q (.ref p) (upd H p (.lst (sV ws)))
def sp_numbers_behind : Sp := fun vs H Q _ => ∃ (r : Addr) (w : Str) (ns : List Nat), vs = [.ref r, .int (ns.length : Nat)] ∧ H r = some (.lst (sV (w :: ns.map nw))) ∧ (∀ n ∈ ns, n < 10 ^ 9) ∧ ns.length ≤ 20 ∧ ∀ p H', H p = none → Same H H' → H' p = some (.tup (nV ns)) → Q (.ref p) H'
def sp_rows_of : Sp := fun vs H Q _ => ∃ rows : List (List Str), vs = [.str (txt rows)] ∧ rows ≠ [] ∧ TOk rows ∧ ∀ p rs H', H p = none → Same H H' → TRw H' p rs rows → Q (.ref p) H'
def sp_text_of : Sp := fun vs H Q _ => ∃ (p : Addr) (rs : List Addr) (rows : List (List Str)), vs = [.ref p] ∧ TRw H p rs rows ∧ TOk rows ∧ ∀ H', Same H H' → Q (.str (txt rows)) H'
/-- rows that begin with these words, word by word -/
structure Secs (H : Hp) (rs : List Addr) (ws : List Str) (secs : List (List Addr)) : Prop where
  len : secs.length = ws.length
  flat : secs.flatten = rs
  nd : ws.Nodup
  head : ∀ (i : Nat) (sec : List Addr) (w : Str), secs[i]? = some sec → ws[i]? = some w → ∀ r ∈ sec, ∃ tl, H r = some (.lst (.str w :: tl))
def sp_sections_of : Sp := fun vs H Q _ => ∃ (p t : Addr) (rs : List Addr) (ws : List Str) (secs : List (List Addr)), vs = [.ref p, .ref t] ∧ H p = some (.lst (rs.map V.ref)) ∧ H t = some (.tup (sV ws)) ∧ Secs H rs ws secs ∧ rs.length ≤ 200 ∧ ws.length ≤ 10 ∧
  ∀ q ps e H', H q = none → Same H H' → H' q = some (.lst ((ps ++ [e]).map V.ref)) → Paired (fun a (sec : List Addr) => H' a = some (.lst (sec.map V.ref))) ps secs → H' e = some (.lst []) → Q (.ref q) H'
def sp_whole_sections : Sp := fun vs H Q _ => ∃ (p t : Addr) (rs : List Addr) (ws : List Str) (secs : List (List Addr)), vs = [.ref p, .ref t] ∧ H p = some (.lst (rs.map V.ref)) ∧ H t = some (.tup (sV ws)) ∧ Secs H rs ws secs ∧ rs.length ≤ 200 ∧ ws.length ≤ 10 ∧
  ∀ q ps H', H q = none → Same H H' → H' q = some (.lst (ps.map V.ref)) → Paired (fun a (sec : List Addr) => H' a = some (.lst (sec.map V.ref))) ps secs → Q (.ref q) H'
theorem Secs.same {H H' : Hp} {rs : List Addr} {ws : List Str} {secs : List (List Addr)} (s : Same H H') (h : Secs H rs ws secs) : Secs H' rs ws secs := ⟨h.len, h.flat, h.nd, fun i sec w h1 h2 r hr => let ⟨tl, e⟩ := h.head i sec w h1 h2 r hr; ⟨tl, s _ _ e⟩⟩
theorem flatS (ws : List Str) : (sV ws).all flatV = true := by
  unfold sV
  rw [List.all_map]
  exact List.all_eq_true.mpr fun _ _ => rfl
theorem noEmpty {ws : List Str} (h : ∀ w ∈ ws, GW w) : inV (.str "") (sV ws) = false := by
  unfold inV sV
  rw [List.any_map, List.any_eq_false]
  intro w hw
  have hg := (h w hw).1
  intro z
  have e : w = "" := by
    simpa [eqV] using z
  rw [e] at hg
  exact hg rfl
/-- the row at a place of the i-th section -/
theorem flat_at {α : Type} {secs : List (List α)} {i : Nat} {sec : List α} (h : secs[i]? = some sec) : secs.flatten = (secs.take i).flatten ++ sec ++ (secs.drop (i + 1)).flatten := by
  obtain ⟨hi, e⟩ := List.getElem?_eq_some_iff.mp h
  conv => lhs; rw [← List.take_append_drop i secs]
  rw [List.flatten_append, List.drop_eq_getElem_cons hi, e, List.flatten_cons, List.append_assoc]
theorem flat_take {α : Type} {secs : List (List α)} {i : Nat} {sec : List α} (h : secs[i]? = some sec) : (secs.take (i + 1)).flatten = (secs.take i).flatten ++ sec := by
  rw [List.take_add_one, h, List.flatten_append]
  simp
/-- a row behind a section begins with another word -/
theorem Secs.behind {H : Hp} {rs : List Addr} {ws : List Str} {secs : List (List Addr)} (S : Secs H rs ws secs) {i : Nat} {w : Str} (hw : ws[i]? = some w) {r : Addr} (hr : r ∈ (secs.drop (i + 1)).flatten) : ∃ u tl, u ≠ w ∧ H r = some (.lst (.str u :: tl)) := by
  obtain ⟨sec, h1, h2⟩ := List.mem_flatten.mp hr
  obtain ⟨j, hj⟩ := List.getElem?_of_mem h1
  rw [List.getElem?_drop] at hj
  have hlt : i + 1 + j < ws.length := by
    have := (List.getElem?_eq_some_iff.mp hj).1
    have := S.len
    (first | lia | omega)
  obtain ⟨tl, e⟩ := S.head (i + 1 + j) sec ws[i + 1 + j] hj (List.getElem?_eq_getElem hlt) r h2
  refine ⟨_, tl, fun z => ?_, e⟩
  obtain ⟨hi, e2⟩ := List.getElem?_eq_some_iff.mp hw
  exact absurd (z.trans e2.symm) (fun y => (List.pairwise_iff_getElem.mp S.nd i (i + 1 + j) hi hlt (by (first | lia | omega))) y.symm)
theorem dig_lo {c : Nat} (h : 48 ≤ c) : decide ([c] < [48]) = false := decide_eq_false fun z => by
  rcases List.cons_lt_cons_iff.mp z with y | y
  · (first | lia | omega)
  · exact absurd y.2 (by simp)
theorem dig_hi {c : Nat} (h : c ≤ 57) : decide ([57] < [c]) = false := decide_eq_false fun z => by
  rcases List.cons_lt_cons_iff.mp z with y | y
  · (first | lia | omega)
  · exact absurd y.2 (by simp)
theorem e48 : (Str.ofString "0").cps.toList = [48] := by decide
theorem e57 : (Str.ofString "9").cps.toList = [57] := by decide
theorem e32 : Str.ofString " " = ⟨#[32]⟩ := by decide
theorem e10 : Str.ofString "\n" = ⟨#[10]⟩ := by decide
theorem cut_mid {xs : List V} {a b : Nat} (h : a ≤ b) (hb : b ≤ xs.length) : cutV xs (some (a : Int)) (some (b : Int)) = (xs.drop a).take (b - a) := by
  unfold cutV
  rw [HT.sIx_nat, HT.sIx_nat, Nat.min_eq_left hb, Nat.min_eq_left (by (first | lia | omega))]
theorem cut_end {xs : List V} : cutV xs (some (xs.length : Nat)) none = [] := by
  rw [cut_from (Nat.le_refl _), List.drop_length]
theorem atI_hd {α : Type} {v : α} {r : List α} : atI (v :: r) 0 = some v := atI_nat (j := 0) rfl
theorem lgN {n : Nat} (h : n < 10 ^ 9) : ((n : Nat) : Int).natAbs.log2 < 1920 := log2_lt_of (k := 1920) (Nat.lt_of_lt_of_le h (by decide)) (by decide)
theorem pairedIn {α β : Type} {R : α → β → Prop} : ∀ {xs : List α} {ys : List β}, Paired R xs ys → Paired (fun x y => x ∈ xs ∧ y ∈ ys ∧ R x y) xs ys
  | _, _, .nil => .nil
  | _, _, .cons a b => .cons ⟨List.mem_cons_self, List.mem_cons_self, a⟩ (pairedMono (fun _ _ q => ⟨List.mem_cons_of_mem _ q.1, List.mem_cons_of_mem _ q.2.1, q.2.2⟩) (pairedIn b))
theorem pairedSplit {α β : Type} {R : α → β → Prop} : ∀ {ys zs : List β} {xs : List α}, Paired R xs (ys ++ zs) → ∃ u v, xs = u ++ v ∧ Paired R u ys ∧ Paired R v zs
  | [], _, xs, h => ⟨[], xs, rfl, .nil, h⟩
  | y :: ys, zs, _, .cons a b => let ⟨u, v, e, h1, h2⟩ := pairedSplit b; ⟨_ :: u, v, by rw [e]; rfl, .cons a h1, h2⟩
theorem pairedMapR {α β γ : Type} {R : α → β → Prop} {f : γ → β} : ∀ {zs : List γ} {xs : List α}, Paired R xs (zs.map f) → Paired (fun x z => R x (f z)) xs zs
  | [], _, .nil => .nil
  | _ :: _, _, .cons a b => .cons a (pairedMapR b)
theorem pairedMapL {α β γ : Type} {R : α → β → Prop} {f : γ → β} : ∀ {zs : List γ} {xs : List α}, Paired (fun x z => R x (f z)) xs zs → Paired R xs (zs.map f)
  | [], _, .nil => .nil
  | _ :: _, _, .cons a b => .cons a (pairedMapL b)
/-- a comprehension that lays a new thing for each -/
theorem comp_new {K : PySem.W.Frag} {a : Addr} {S : V → St} {te : TE} {H : Hp} {Fin : List V → Hp → Prop} {xs : List V} {α : Type} (ps : List α) (f : α → HO) (hS : SqL K H a xs) (hl : xs.length = ps.length) (hz : ps.length ≤ 100000)
    (hs : ∀ (i : Nat) (x : V) (p : α) (H' : Hp), xs[i]? = some x → ps[i]? = some p → Same H H' → ∀ N : V → Hp → Prop, (∀ r H2, H' r = none → Same H' H2 → H2 r = some (f p) → N (.ref r) H2) → te (S x) H' N)
    (hd : ∀ rs H', Same H H' → (∀ r ∈ rs, H r = none) → Paired (fun r p => H' r = some (f p)) rs ps → Fin (rs.map V.ref) H') : CompW (Itl K a) S tYes te H Fin := by
  refine comp_list (xs := xs) (fun i ys H' => ∃ rs : List Addr, ys = rs.map V.ref ∧ Same H H' ∧ (∀ r ∈ rs, H r = none) ∧ Paired (fun r p => H' r = some (f p)) rs (ps.take i)) ⟨[], rfl, Same.refl _, (fun _ h => absurd h (by simp)), .nil⟩ ?_ ?_ ?_ ?_
  · rintro i ys H' _ ⟨_, _, s, _⟩
    exact s.seq hS
  · rintro i ys H' _ ⟨rs, rfl, _, _, pr⟩
    have h1 := Paired.length pr
    rw [List.length_take] at h1
    rw [List.length_map]
    exact smallL (by (first | lia | omega))
  · rintro i x ys H' hx ⟨rs, rfl, s, hn, pr⟩
    have hi : i < ps.length := by rw [← hl]; exact (List.getElem?_eq_some_iff.mp hx).1
    unfold tYes
    refine iteT (hs i x ps[i] H' hx (List.getElem?_eq_getElem hi) s _ fun r H2 h0 s2 e => ⟨rs ++ [r], by rw [List.map_append]; rfl, s.trans s2, fun q hq => ?_, ?_⟩)
    · rcases List.mem_append.mp hq with h | h
      · exact hn q h
      · rw [List.mem_singleton.mp h]; exact s.free h0
    · rw [List.take_add_one, List.getElem?_eq_getElem hi]
      exact pairedSnoc (R := fun r p => H2 r = some (f p)) e (pairedMono (fun _ _ z => s2 _ _ z) pr)
  · rintro ys H' ⟨rs, rfl, s, hn, pr⟩
    rw [hl, List.take_length] at pr
    exact hd rs H' s hn pr
theorem TRw.ext {H : Hp} {l : Addr} {rs us : List Addr} {rows more : List (List Str)} (h : TRw H l rs rows) (n : l ∉ rs) (p : Paired (fun r ws => H r = some (.lst (sV ws))) us more) (n2 : l ∉ us) :
    TRw (upd H l (.lst (rs.map V.ref ++ us.map V.ref))) l (rs ++ us) (rows ++ more) ∧ l ∉ rs ++ us := by
  refine ⟨⟨by rw [upd_same, List.map_append], pairedApp (pairedMono (fun r ws q => ?_) (pairedIn p)) (pairedMono (fun r ws q => ?_) (pairedIn h.2))⟩, by rw [List.mem_append]; exact fun z => z.elim n n2⟩
  · rw [upd_ne (fun e => n2 (by rw [← e]; exact q.1))]; exact q.2.2
  · rw [upd_ne (fun e => n (by rw [← e]; exact q.1))]; exact q.2.2
theorem at0 {xs : List V} {i : Nat} {v : V} (h : xs[i]? = some v) : atI xs (0 + (i : Int)) = some v := by rw [Int.zero_add]; exact atI_nat h
theorem sV_snoc (ws : List Str) (x : Str) : sV (ws ++ [x]) = sV ws ++ [V.str x] := by unfold sV; rw [List.map_append]; rfl
end L2

set_option Elab.async false
set_option linter.all false
set_option maxRecDepth 100000
/-! Rows compared: the carry, and what it says of the numbers; an end's worth behind each deed. -/
namespace L2
open PySem
end L2

set_option Elab.async false
set_option linter.all false
set_option maxRecDepth 100000
/-! Rows summed: what the row of sums says of the numbers. -/
namespace L2
end L2

set_option Elab.async false
set_option linter.all false
set_option maxRecDepth 100000
/-! Some lists changed in place, all else as it was; a row of ends and what it is worth. -/
namespace L2
open PySem
end L2

set_option Elab.async false
set_option linter.all false
set_option maxRecDepth 100000
/-! A list cut by steps of two; zip in a comprehension; ends chosen, and looked up in a table. -/
namespace L2
open PySem PySem.Spec PyProof.Rows
section
end
end L2

set_option Elab.async false
set_option linter.all false
set_option maxRecDepth 100000
/-! The bench with boxes anywhere among its gates: what is made, in order, none for a box. -/
namespace L2
open PySem
end L2

set_option Elab.async false
set_option linter.all false
set_option maxRecDepth 100000
/-! Where a bench's knots stand in the work: boxes ahead of the gates. -/
namespace L2
open PySem
section
end
end L2

set_option Elab.async false
set_option linter.all false
set_option maxRecDepth 100000
/-! The bench with boxes anywhere, as it stands on the heap. -/
namespace L2
open PySem
section
end
end L2

set_option Elab.async false
set_option linter.all false
set_option maxRecDepth 100000
/-! Targets of three names; a list unpacked. -/
namespace L2
open PySem PySem.Spec PyProof.Rows
section
end
section
end
theorem Paired.at {α β : Type} {R : α → β → Prop} : ∀ {xs : List α} {ps : List β} {i : Nat} {x : α}, Paired R xs ps → xs[i]? = some x → ∃ p, ps[i]? = some p ∧ R x p
  | _, _, _, _, .nil, h => by cases h
  | _, _, 0, _, .cons r _, h => by cases h; exact ⟨_, rfl, r⟩
  | _, _, i + 1, _, .cons _ t, h => Paired.at (i := i) t h
theorem comp_paired {K : PySem.W.Frag} {a : Addr} {S : V → St} {te : TE} {H : Hp} {Fin : List V → Hp → Prop} {α : Type} {R : Addr → α → Prop} {rs : List Addr} {ps : List α} (f : α → V) (hS : SqL K H a (rs.map V.ref)) (hp : Paired R rs ps) (hz : rs.length ≤ 100000) (hs : ∀ r p, R r p → p ∈ ps → ∀ N : V → Hp → Prop, N (f p) H → te (S (.ref r)) H N) (hd : Fin (ps.map f) H) : CompW (Itl K a) S tYes te H Fin := by
  have hl := Paired.length hp
  refine comp_list (xs := rs.map V.ref) (fun i ys H' => ys = (ps.take i).map f ∧ H = H') ⟨rfl, rfl⟩ ?_ ?_ ?_ ?_
  · rintro i ys H' _ ⟨_, rfl⟩
    exact hS
  · rintro i ys H' hi ⟨rfl, _⟩
    rw [List.length_map, List.length_take]
    rw [List.length_map] at hi
    exact smallL (by (first | lia | omega))
  · rintro i x ys H' hx ⟨rfl, rfl⟩
    rw [List.getElem?_map] at hx
    obtain ⟨r, hr, rfl⟩ := Option.map_eq_some_iff.mp hx
    obtain ⟨p, hpi, hR⟩ := Paired.at hp hr
    unfold tYes
    dsimp only
    rw [if_pos rfl]
    refine hs r p hR (List.mem_of_getElem? hpi) _ ⟨?_, rfl⟩
    rw [take_get hpi, List.map_append]
    rfl
  · rintro ys H' ⟨rfl, rfl⟩
    rw [List.length_map, hl, List.take_length]
    exact hd
theorem comp_listG {K : PySem.W.Frag} {n : Nat} {c : St} {g : TG} {tt : TT} {te : TE} {H : Hp} {Fin : List V → Hp → Prop} {a : Addr} {xs : List V} (Pv : Nat → List V → Hp → Prop) (h0 : Pv 0 [] H) (hl : ∀ i ys H, i ≤ xs.length → Pv i ys H → SqL K H a xs) (hz : ∀ i ys H, i < xs.length → Pv i ys H → ys.length < sizeLine)
    (hs : ∀ i x ys H (os : St), os.length = n → xs[i]? = some x → Pv i ys H → g x (os ++ c) H fun σ2 H2 => tt σ2 H2 fun b H3 => if b = true then te σ2 H3 fun y H4 => Pv (i + 1) (ys ++ [y]) H4 else Pv (i + 1) ys H3)
    (hd : ∀ ys H, Pv xs.length ys H → Fin ys H) : CompG (Itl K a) n c g tt te H Fin := by
  refine ⟨fun i m ys H => m = xs.length - i ∧ i ≤ xs.length ∧ Pv i ys H, ⟨xs.length, by simp, Nat.zero_le _, h0⟩, ?_⟩
  rintro i m ys H ⟨rfl, hi, p⟩
  have q1 := hl i ys H hi p
  by_cases hlt : i < xs.length
  · refine .inr ⟨⟨xs, xs[i], q1, by simp [hlt]⟩, hz i ys H hlt p, Pv (i + 1), fun ys' H' p' => ⟨xs.length - (i + 1), by (first | lia | omega), rfl, hlt, p'⟩, fun v H' y os hos => ?_⟩
    obtain ⟨e, y⟩ := y
    subst e
    exact hs i v ys _ os hos (y xs q1) p
  · have e : i = xs.length := by (first | lia | omega)
    subst e
    exact .inl ⟨⟨xs, q1, Nat.le_refl _⟩, hd ys H p⟩
end L2

set_option Elab.async false
set_option linter.all false
set_option maxRecDepth 100000
/-! Works as texts. -/
namespace L2
open PySem PySem.Spec PyProof.Rows
def cell_sp (K : PySem.W.Frag) : Sp := fun vs H Q _ => ∃ (a : Addr) (ns : List Int) (k : Int), vs = [.ref a, .int k] ∧ SqL K H a (ns.map V.int) ∧ 0 ≤ k ∧ ∀ v : Int, Q (.int v) H
def bag_sp (K : PySem.W.Frag) : Sp := fun vs H Q _ => ∃ (a : Addr) (ns : List Int) (k : Int), vs = [.ref a, .int k] ∧ SqL K H a (ns.map V.int) ∧ 0 ≤ k ∧ k < 1000 ∧ ∀ l (b0 b1 : Int), H l = none → 0 ≤ b0 → Q (.ref l) (upd H l (.lst [.int b0, .int b1]))
/-- a list of tuples of numbers -/
def TNs (H : Hp) (p : Addr) (rs : List Addr) (rows : List (List Nat)) : Prop := H p = some (.lst (rs.map V.ref)) ∧ Paired (fun r ns => H r = some (.tup (nV ns))) rs rows
theorem TNs.same {H H' : Hp} {p : Addr} {rs : List Addr} {rows : List (List Nat)} (s : Same H H') (h : TNs H p rs rows) : TNs H' p rs rows := ⟨s _ _ h.1, pairedMono (fun _ _ q => s _ _ q) h.2⟩
theorem TNs.len {H : Hp} {p : Addr} {rs : List Addr} {rows : List (List Nat)} (h : TNs H p rs rows) : rs.length = rows.length := Paired.length h.2
theorem row_gw {w : Str} (h : GW w) {ns : List Nat} (hn : ∀ n ∈ ns, n < 10 ^ 9) : ∀ t ∈ w :: ns.map nw, GW t := fun t ht => by
  rcases List.mem_cons.mp ht with rfl | ht
  · exact h
  · obtain ⟨n, h1, rfl⟩ := List.mem_map.mp ht
    exact GW.nw (hn n h1)
def whole_sp : Sp := fun vs H Q _ => ∃ i : Int, vs = [.int i] ∧ Q (.bl true) H
/-! what a thing of numbers reads as and is shown as -/
def dNs (ns : List Nat) : List PyData := ns.map fun n : Nat => PyData.int (n : Int)
theorem rd_ns {K : PySem.W.Frag} {H : Hp} : ∀ ns : List Nat, RdDs K H (dNs ns) (nV ns)
  | [] => RdDs.nil
  | n :: r => RdDs.cons (.int _) (rd_ns r)
theorem rd_rows {K : PySem.W.Frag} {H : Hp} {rs : List Addr} {rows : List (List Nat)} (h : Paired (fun r ns => H r = some (.tup (nV ns))) rs rows) : RdDs K H (rows.map fun ns => PyData.tuple (dNs ns)) (rs.map V.ref) := by
  induction h with
  | nil => exact RdDs.nil
  | cons a r ih => exact RdDs.cons (RdD.tup (SqT.of a) (rd_ns _)) ih
theorem cmp_ns {n : Nat} (ns : List Nat) : ∀ d ∈ dNs ns, Cmp n d := fun d hd => by
  obtain ⟨i, _, rfl⟩ := List.mem_map.mp hd
  exact .int _
theorem sh_ns : ∀ {ns : List Nat}, (∀ n ∈ ns, n < 10 ^ 9) → PyData.showableAll (dNs ns) = true ∧ ∀ t ∈ PyData.shownAll (dNs ns), t.length ≤ 9
  | [], _ => ⟨by simp [dNs, PyData.showableAll], fun t h => by simp [dNs, PyData.shownAll] at h⟩
  | n :: r, h => by
    obtain ⟨h1, h2⟩ := sh_ns (ns := r) fun m hm => h m (List.mem_cons_of_mem _ hm)
    have hn := h n List.mem_cons_self
    refine ⟨?_, fun t ht => ?_⟩
    · show PyData.showableAll (PyData.int (n : Int) :: dNs r) = true
      rw [PyData.showableAll, h1, PyData.showable, decide_eq_true (lgN hn)]
      rfl
    · rw [show PyData.shownAll (dNs (n :: r)) = nw n :: PyData.shownAll (dNs r) from by show PyData.shownAll (PyData.int (n : Int) :: dNs r) = _; rw [PyData.shownAll, PyData.shown]; rfl] at ht
      rcases List.mem_cons.mp ht with rfl | ht
      · exact nw_len hn
      · exact h2 t ht
theorem shownAll_len : ∀ ds : List PyData, (PyData.shownAll ds).length = ds.length
  | [] => by simp [PyData.shownAll]
  | _ :: r => by rw [PyData.shownAll, List.length_cons, List.length_cons, shownAll_len r]
theorem sh_tup {ns : List Nat} (h : ∀ n ∈ ns, n < 10 ^ 9) (hl : ns.length ≤ 20) : PyData.showable (.tuple (dNs ns)) = true ∧ (PyData.shown (.tuple (dNs ns))).length ≤ 223 := by
  obtain ⟨h1, h2⟩ := sh_ns h
  refine ⟨by rw [PyData.showable]; exact h1, ?_⟩
  rw [PyData.shown]
  have a := tupleText_len_le (PyData.shownAll (dNs ns))
  have b := StrLaws.sumLen_le _ h2
  rw [shownAll_len] at a b
  have c : (dNs ns).length = ns.length := List.length_map _
  (first | lia | omega)
theorem sh_all : ∀ {rows : List (List Nat)}, (∀ r ∈ rows, (∀ n ∈ r, n < 10 ^ 9) ∧ r.length ≤ 20) → PyData.showableAll (rows.map fun ns => PyData.tuple (dNs ns)) = true ∧ ∀ t ∈ PyData.shownAll (rows.map fun ns => PyData.tuple (dNs ns)), t.length ≤ 223
  | [], _ => ⟨by simp [PyData.showableAll], fun t h => by simp [PyData.shownAll] at h⟩
  | n :: r, h => by
    obtain ⟨h1, h2⟩ := sh_all (rows := r) fun m hm => h m (List.mem_cons_of_mem _ hm)
    obtain ⟨a, b⟩ := sh_tup (h n List.mem_cons_self).1 (h n List.mem_cons_self).2
    refine ⟨?_, fun t ht => ?_⟩
    · rw [List.map_cons, PyData.showableAll, h1, a]
      rfl
    · rw [List.map_cons, PyData.shownAll] at ht
      rcases List.mem_cons.mp ht with rfl | ht
      · exact b
      · exact h2 t ht
end L2

set_option Elab.async false
set_option linter.all false
set_option maxRecDepth 100000
/-! zip of two tuples, walked by a loop: what the zip asks of its two walkers, whatever they are. -/
namespace L2
open PySem PySem.Spec PyProof.Rows
section
variable {prog : Program} {w : World}
/-- a walker `it` over the thing at `l`: the state St i, the i-th item P i, n items -/
structure Wkr (prog : Program) (w : World) (it l : Addr) (n : Nat) (P : Nat → Value → Prop) (St : Nat → Heap → Prop) : Prop where
  obj : ∀ i h, St i h → ∃ o, h.get? it = some o ∧ ∀ v, o.data ≠ .cell v
  keep : ∀ i h h', St i h → (∀ o, h.get? it = some o → h'.get? it = some o) → (∀ o, h.get? l = some o → h'.get? l = some o) → St i h'
  item : ∀ (A : Around) (E : Value → Shared → Prop) (s : Shared) (Q : Value → Shared → Prop) (i : Nat), i < n → St i s.heap → (∀ x h', P i x → St (i + 1) h' → Heap.SameBut it s.heap h' → Q x { s with heap := h' }) → wpAny (model prog w) A (Builtin.SmallTypes.nextOf (.ref it)) Q E s
  stop : ∀ (A : Around) (E : Value → Shared → Prop) (s : Shared) (Q : Value → Shared → Prop), A.handled = none → St n s.heap → (∀ h' e, Heap.ExtBut it s.heap h' → (∃ o, h'.get? e = some o ∧ o.cls = .type "StopIteration") → E (.ref e) { s with heap := h' }) → wpAny (model prog w) A (Builtin.SmallTypes.nextOf (.ref it)) Q E s
theorem wkr_tup (it t : Addr) (hne : t ≠ it) (vs : Array Value) : Wkr prog w it t vs.size (fun i v => vs[i]? = some v) (fun i h => h.IsTupleIter it t i ∧ h.IsTuple t vs) where
  obj := fun i h ⟨⟨o, ho, _, hd⟩, _⟩ => ⟨o, ho, fun v q => by rw [hd] at q; cases q⟩
  keep := fun i h h' ⟨⟨o, ho, r⟩, ⟨o2, ho2, r2⟩⟩ k1 k2 => ⟨⟨o, k1 o ho, r⟩, ⟨o2, k2 o2 ho2, r2⟩⟩
  item := fun A E s Q i hi ⟨ci, ct⟩ q => by
    have ct' := ct
    obtain ⟨o, ho, hc, hd⟩ := id ci
    obtain ⟨ot, hot, _, nt, hdt⟩ := ct
    have hx : vs[i]? = some vs[i] := by simp [hi]
    unfold Builtin.SmallTypes.nextOf
    refine wpAny_bind (wpAny_callSpecial?_slot (name := Str.ofString "__next__") ci.typeIs F.slot_tuple_iterator_next (wpAny_call_entry F.slot_tuple_iterator_next ci.typeIs F.entry_tuple_iterator_next ?_ (F.args_tuple_iterator_next_1 _)))
    change wpAny _ _ (field (.ref it) 0 >>= _) _ _ s
    refine wpAny_bind (wpAny_field ho hd (x := Value.ref t) rfl ?_)
    change wpAny _ _ (if (Value.ref t == Value.none) = true then _ else _) _ _ s
    rw [if_neg (show ¬ ((Value.ref t == Value.none) = true) from fun y => Bool.false_ne_true y)]
    change wpAny _ _ (field (.ref it) 1 >>= _) _ _ s
    refine wpAny_bind (wpAny_field ho hd (x := Value.int i 0) rfl ?_)
    change wpAny _ _ (seqItems? (.ref t) >>= _) _ _ s
    refine wpAny_bind (wpAny_seqItems hot hdt ?_)
    simp only [hx, Int.toNat_natCast]
    refine wpAny_bind (wpAny_setField ho hd (by simp) (wpAny_pure ⟨vs[i], rfl, wpAny_pure (q _ _ hx ⟨?_, ct'.extBut (Heap.SameBut.update ..).extBut hne⟩ (Heap.SameBut.update ..))⟩))
    exact ⟨_, Heap.get?_update_self _ ho (Obj.isFreed_of_fields (Obj.data_mapFields hd _)), (Obj.cls_mapFields ..).trans hc, by rw [Obj.data_mapFields hd]; simp [rawInt]⟩
  stop := fun A E s Q hh ⟨ci, ct⟩ q => by
    obtain ⟨o, ho, hc, hd⟩ := id ci
    obtain ⟨ot, hot, _, nt, hdt⟩ := ct
    have hx : vs[vs.size]? = none := by simp
    unfold Builtin.SmallTypes.nextOf
    refine wpAny_bind (wpAny_callSpecial?_slot (name := Str.ofString "__next__") ci.typeIs F.slot_tuple_iterator_next (wpAny_call_entry F.slot_tuple_iterator_next ci.typeIs F.entry_tuple_iterator_next ?_ (F.args_tuple_iterator_next_1 _)))
    change wpAny _ _ (field (.ref it) 0 >>= _) _ _ s
    refine wpAny_bind (wpAny_field ho hd (x := Value.ref t) rfl ?_)
    change wpAny _ _ (if (Value.ref t == Value.none) = true then _ else _) _ _ s
    rw [if_neg (show ¬ ((Value.ref t == Value.none) = true) from fun y => Bool.false_ne_true y)]
    change wpAny _ _ (field (.ref it) 1 >>= _) _ _ s
    refine wpAny_bind (wpAny_field ho hd (x := Value.int vs.size 0) rfl ?_)
    change wpAny _ _ (seqItems? (.ref t) >>= _) _ _ s
    refine wpAny_bind (wpAny_seqItems hot hdt ?_)
    simp only [hx, Int.toNat_natCast]
    refine wpAny_bind (wpAny_rule (wpAny_bind (wpAny_setField ho hd (by simp) ?_)))
    change wpAny _ _ (newExc (.type "StopIteration") [] >>= _) _ _ _
    refine wpAny_bind ?_
    simp only [newTuple, newExc]
    refine wpAny_bind (wpAny_newObj_type ?_ (by size_fits))
    refine wpAny_bind (m := firstArgMember _ _) (wpAny_of_eq (a := Value.none) (by first | rfl | (simp only [firstArgMember]; rfl)) (wpAny_newObj_type ?_ (by size_fits)))
    simp only [raiseNew]
    refine wpAny_bind (wpAny_handled ?_)
    first | rw [show A.in1.handled = none from hh] | rw [hh]
    exact wpAny_bind (wpAny_pure (wpAny_throw (q _ _ (((Heap.SameBut.update ..).extBut.push _).push _) ⟨_, Heap.get?_push_size _ rfl, rfl⟩)))
/-- the zip's next pair -/
theorem zipw_item {A : Around} {E : Value → Shared → Prop} {s : Shared} {z TI TO i1 i2 l1 l2 : Addr} {n1 n2 k : Nat} {P1 P2 : Nat → Value → Prop} {S1 S2 : Nat → Heap → Prop} {a b : Value} {Q : Value → Shared → Prop} (D : ZipApart z TI TO i1 i2 l1 l2)
    (W1 : Wkr prog w i1 l1 n1 P1 S1) (W2 : Wkr prog w i2 l2 n2 P2 S2) (zz : IsZip s.heap z TI TO .none) (zi : IsPair s.heap TI (.ref i1) (.ref i2)) (zo : IsPair s.heap TO a b)
    (c1 : S1 k s.heap) (c2 : S2 k s.heap) (lt1 : k < n1) (lt2 : k < n2)
    (q : ∀ x y h', P1 k x → P2 k y → IsZip h' z TI TO (rawInt s.heap.objs.size) → IsPair h' TO x y → S1 (k + 1) h' → S2 (k + 1) h' → IsPair h' s.heap.objs.size x y → (∀ c o, c ∉ [z, TO, i1, i2] → s.heap.get? c = some o → h'.get? c = some o) → Q (.ref s.heap.objs.size) { s with heap := h' }) :
    wpAny (model prog w) A (Builtin.«zip.__next__» ⟨[.ref z], []⟩) (fun fin s' => ∃ v, fin = .done (.ret v) ∧ Q v s') E s := by
  change wpAny _ _ (field (.ref z) 2 >>= _) _ _ _
  refine wpAny_bind (wpAny_field zz rfl (x := .bool false) rfl ?_)
  change wpAny _ _ (field (.ref z) 3 >>= _) _ _ _
  refine wpAny_bind (wpAny_field zz rfl (x := .ref TI) rfl ?_)
  refine wpAny_bind (wpAny_seqItems zi rfl ?_)
  change wpAny _ _ (Builtin.SmallTypes.ownedTupleIsFree (.ref z) >>= _) _ _ _
  refine wpAny_bind ?_
  unfold Builtin.SmallTypes.ownedTupleIsFree; refine wpAny_bind (wpAny_field zz rfl (x := .none) rfl (wpAny_pure ?_))
  simp only [if_true]
  refine wpAny_bind (wpAny_rule ?_)
  refine wpAny_bind (wpAny_field zz rfl (x := .ref TO) rfl ?_)
  refine wpAny_bind (wpAny_setField_rec zz (by simp) fun g1 zz1 t1 => ?_)
  replace zz1 : IsZip g1 z TI TO .ellipsis := zz1
  refine wpAny_bind ?_
  simp only [List.forIn_cons, List.forIn_nil, List.zipIdx_cons, List.zipIdx_nil]
  refine wpAny_bind (wpAny_bind (wpAny_onRaise ?_))
  change wpAny _ _ (Builtin.SmallTypes.nextOf (.ref i1) >>= _) _ _ _
  have up1 : ∀ c o, c ≠ z → s.heap.get? c = some o → g1.get? c = some o := fun c o hc e => t1.extBut _ _ hc e
  refine wpAny_bind (W1.item _ _ _ _ k lt1 (W1.keep _ _ _ c1 (fun o e => up1 _ o D.i1z e) fun o e => up1 _ o D.l1z e) fun x g2 px d1 t2 => wpAny_pure ?_)
  have up2 : ∀ c o, c ≠ z → c ≠ i1 → s.heap.get? c = some o → g2.get? c = some o := fun c o h1 h2 e => t2.extBut _ _ h2 (up1 c o h1 e)
  have zo2 : IsPair g2 TO a b := up2 _ _ D.TOz D.TOi1 zo
  refine wpAny_bind (wpAny_seqItems zo2 rfl ?_)
  refine wpAny_bind (wpAny_updateSeq_pair zo2 fun g3 zo3 t3 => ?_)
  replace zo3 : IsPair g3 TO x b := zo3
  refine wpAny_bind (wpAny_letGo (wpAny_pure ?_)); refine wpAny_bind (wpAny_bind (wpAny_onRaise ?_))
  change wpAny _ _ (Builtin.SmallTypes.nextOf (.ref i2) >>= _) _ _ _
  have up3 : ∀ c o, c ≠ z → c ≠ i1 → c ≠ TO → s.heap.get? c = some o → g3.get? c = some o := fun c o h1 h2 h3 e => t3.extBut _ _ h3 (up2 c o h1 h2 e)
  refine wpAny_bind (W2.item _ _ _ _ k lt2 (W2.keep _ _ _ c2 (fun o e => up3 _ o D.i2z D.i12.symm D.TOi2.symm e) fun o e => up3 _ o D.l2z D.l2i1 D.l2TO e) fun y g4 py d2 t4 => wpAny_pure ?_)
  have zo4 : IsPair g4 TO x b := t4.extBut _ _ D.TOi2 zo3
  refine wpAny_bind (wpAny_seqItems zo4 rfl ?_)
  refine wpAny_bind (wpAny_updateSeq_pair zo4 fun g5 zo5 t5 => ?_)
  replace zo5 : IsPair g5 TO x y := zo5
  refine wpAny_bind (wpAny_letGo (wpAny_pure (wpAny_pure ?_))); refine wpAny_bind (wpAny_seqItems zo5 rfl ?_)
  refine wpAny_bind (wpAny_newTuple ?_)
  have sz : g5.objs.size = s.heap.objs.size := by rw [t5.1, t4.1, t3.1, t2.1, t1.1]
  have zz5 : IsZip g5 z TI TO .ellipsis := t5.extBut _ _ D.TOz.symm (t4.extBut _ _ D.i2z.symm (t3.extBut _ _ D.TOz.symm (t2.extBut _ _ D.i1z.symm zz1)))
  have up5 : ∀ c o, c ∉ [z, TO, i1, i2] → s.heap.get? c = some o → g5.get? c = some o := fun c o hc e => by
    simp only [List.mem_cons, List.not_mem_nil, or_false, not_or] at hc
    exact t5.extBut _ _ hc.2.1 (t4.extBut _ _ hc.2.2.2 (up3 c o hc.1 hc.2.2.1 hc.2.1 e))
  have d15 : S1 (k + 1) g5 := W1.keep _ _ _ d1 (fun o e => t5.extBut _ _ D.TOi1.symm (t4.extBut _ _ D.i12 (t3.extBut _ _ D.TOi1.symm e))) fun o e => t5.extBut _ _ D.l1TO (t4.extBut _ _ D.l1i2 (t3.extBut _ _ D.l1TO e))
  have d25 : S2 (k + 1) g5 := W2.keep _ _ _ d2 (fun o e => t5.extBut _ _ D.TOi2.symm e) fun o e => t5.extBut _ _ D.l2TO e
  have zlt : z < g5.objs.size := Heap.lt_size zz5
  change wpAny _ _ (Builtin.SmallTypes.ownedTupleHandOut (.ref z) (.ref g5.objs.size) >>= _) _ _ _
  refine wpAny_bind ?_
  unfold Builtin.SmallTypes.ownedTupleHandOut; have zz6 : IsZip (g5.push { cls := .type "tuple", data := .seq #[x, y] }) z TI TO .ellipsis := Heap.get?_push_of_some _ zz5
  refine wpAny_bind (wpAny_setField_rec zz6 (by simp) fun g7 zz7 t7 => ?_)
  replace zz7 : IsZip g7 z TI TO (rawInt g5.objs.size) := zz7
  refine wpAny_setField_rec zz7 (by simp) fun g8 zz8 t8 => ?_
  replace zz8 : IsZip g8 z TI TO (rawInt g5.objs.size) := zz8
  have up : ∀ c o, c ≠ z → g5.get? c = some o → g8.get? c = some o := fun c o hc e => t8.extBut _ _ hc (t7.extBut _ _ hc (Heap.get?_push_of_some _ e))
  have pr8 : IsPair g8 g5.objs.size x y := t8.extBut _ _ (Nat.ne_of_gt zlt) (t7.extBut _ _ (Nat.ne_of_gt zlt) (Heap.get?_push_size _ rfl))
  rw [sz] at zz8 pr8
  refine wpAny_pure ⟨_, rfl, ?_⟩
  change Q (.ref g5.objs.size) _
  rw [sz]
  exact q x y g8 px py zz8 (up _ _ D.TOz zo5) (W1.keep _ _ _ d15 (fun o e => up _ o D.i1z e) fun o e => up _ o D.l1z e) (W2.keep _ _ _ d25 (fun o e => up _ o D.i2z e) fun o e => up _ o D.l2z e) pr8 fun c o hc e => up c o (fun h => hc (by simp [h])) (up5 c o hc e)
/-- the zip's end: the first walker ends -/
theorem zipw_end {A : Around} {E : Value → Shared → Prop} {s : Shared} {z TI TO i1 i2 l1 l2 : Addr} {n1 : Nat} {P1 : Nat → Value → Prop} {S1 : Nat → Heap → Prop} {Q : Fin → Shared → Prop} (hh : A.handled = none) (D : ZipApart z TI TO i1 i2 l1 l2)
    (W1 : Wkr prog w i1 l1 n1 P1 S1) (zz : IsZip s.heap z TI TO .none) (zi : IsPair s.heap TI (.ref i1) (.ref i2)) (c1 : S1 n1 s.heap)
    (q : ∀ h' e, (∀ c o, c ∉ [z, TO, i1, i2] → s.heap.get? c = some o → h'.get? c = some o) → (∃ o, h'.get? e = some o ∧ o.cls = .type "StopIteration") → E (.ref e) { s with heap := h' }) :
    wpAny (model prog w) A (Builtin.«zip.__next__» ⟨[.ref z], []⟩) Q E s := by
  change wpAny _ _ (field (.ref z) 2 >>= _) _ _ _
  refine wpAny_bind (wpAny_field zz rfl (x := .bool false) rfl ?_)
  change wpAny _ _ (field (.ref z) 3 >>= _) _ _ _
  refine wpAny_bind (wpAny_field zz rfl (x := .ref TI) rfl ?_)
  refine wpAny_bind (wpAny_seqItems zi rfl ?_)
  change wpAny _ _ (Builtin.SmallTypes.ownedTupleIsFree (.ref z) >>= _) _ _ _
  refine wpAny_bind ?_
  unfold Builtin.SmallTypes.ownedTupleIsFree; refine wpAny_bind (wpAny_field zz rfl (x := .none) rfl (wpAny_pure ?_))
  simp only [if_true]
  refine wpAny_bind (wpAny_rule ?_)
  refine wpAny_bind (wpAny_field zz rfl (x := .ref TO) rfl ?_)
  refine wpAny_bind (wpAny_setField_rec zz (by simp) fun g1 zz1 t1 => ?_)
  replace zz1 : IsZip g1 z TI TO .ellipsis := zz1
  refine wpAny_bind ?_
  simp only [List.forIn_cons, List.forIn_nil, List.zipIdx_cons, List.zipIdx_nil]
  refine wpAny_bind (wpAny_bind (wpAny_onRaise ?_))
  change wpAny _ _ (Builtin.SmallTypes.nextOf (.ref i1) >>= _) _ _ _
  have up1 : ∀ c o, c ≠ z → s.heap.get? c = some o → g1.get? c = some o := fun c o hc e => t1.extBut _ _ hc e
  refine wpAny_bind (W1.stop _ _ _ _ hh (W1.keep _ _ _ c1 (fun o e => up1 _ o D.i1z e) fun o e => up1 _ o D.l1z e) fun g2 e t2 ⟨oe, e1, e2⟩ => ?_)
  have zz2 : IsZip g2 z TI TO .ellipsis := t2 _ _ D.i1z.symm zz1
  have ez : e ≠ z := fun x => by subst x; rw [zz2] at e1; cases e1; simp at e2
  refine wpAny_setField_rec zz2 (by simp) fun g3 _ t3 => q g3 e (fun c o hc x => ?_) ⟨oe, t3.extBut _ _ ez e1, e2⟩
  simp only [List.mem_cons, List.not_mem_nil, or_false, not_or] at hc
  exact t3.extBut _ _ hc.1 (t2 _ _ hc.2.2.1 (up1 c o hc.1 x))
/-- the five things that a zip of two tuples lays -/
def zt1 (h : Heap) (l1 : Addr) : Heap := h.push { cls := .type "tuple_iterator", data := .fields #[.ref l1, .int 0 0] }
def zt2 (h : Heap) (l1 l2 : Addr) : Heap := (zt1 h l1).push { cls := .type "tuple_iterator", data := .fields #[.ref l2, .int 0 0] }
def zt3 (h : Heap) (l1 l2 : Addr) : Heap := (zt2 h l1 l2).push { cls := .type "tuple", data := .seq #[.ref h.objs.size, .ref (zt1 h l1).objs.size] }
def zt4 (h : Heap) (l1 l2 : Addr) : Heap := (zt3 h l1 l2).push { cls := .type "tuple", data := .seq #[.none, .none] }
def zt5 (h : Heap) (l1 l2 : Addr) : Heap := (zt4 h l1 l2).push { cls := .type "zip", data := .fields #[.none, .bool false, .bool false, .ref (zt2 h l1 l2).objs.size, .ref (zt3 h l1 l2).objs.size] }
theorem zipt_new (l1 l2 : Addr) (xs ys : Array Value) : Meets (Builtin.«zip.__new__» ⟨[.type "zip", .ref l1, .ref l2], []⟩) (fun _ R s => s.heap.IsTuple l1 xs ∧ s.heap.IsTuple l2 ys ∧ R (.ok (.ret (.ref (zt4 s.heap l1 l2).objs.size))) { s with heap := zt5 s.heap l1 l2 }) :=
  .of_wp fun prog w A R s ⟨c1, c2, q⟩ => by
    obtain ⟨hp, g, d, tk, os⟩ := s
    have hsub := sub_zip
    have d1 : Heap.IsTuple (Shared.heap ⟨hp, g, d, tk, os⟩) l1 xs := c1
    have d2 : Heap.IsTuple (Shared.heap ⟨zt1 hp l1, g, d, tk, os⟩) l2 ys := Heap.IsTuple.push c2 _
    unfold zt5 zt4 zt3 zt2 zt1 at q
    unfold zt1 at d2
    wp_walk using wpAny_pyIter_tuple d1, wpAny_pyIter_tuple d2
    exact ⟨_, rfl, q⟩
theorem zipt_call {A : Around} {E : Value → Shared → Prop} {s : Shared} {l1 l2 : Addr} {xs ys : Array Value} {Q : Value → Shared → Prop} (c1 : s.heap.IsTuple l1 xs) (c2 : s.heap.IsTuple l2 ys)
    (q : ∀ h', IsZip h' (s.heap.objs.size + 4) (s.heap.objs.size + 2) (s.heap.objs.size + 3) .none → IsPair h' (s.heap.objs.size + 2) (.ref s.heap.objs.size) (.ref (s.heap.objs.size + 1)) → IsPair h' (s.heap.objs.size + 3) .none .none →
      h'.IsTupleIter s.heap.objs.size l1 0 → h'.IsTupleIter (s.heap.objs.size + 1) l2 0 → (∀ c o, s.heap.get? c = some o → h'.get? c = some o) → Q (.ref (s.heap.objs.size + 4)) { s with heap := h' }) : wpAny (model prog w) A (call (.type "zip") [.ref l1, .ref l2]) Q E s := by
  refine callType_new F.called_zip (by decide) (F.typeCall_zip_2 _ _) (F.newCall_zip_2 _ _) (fun obj => F.args_object_init_3 obj _ _) F.entry_zip_new (zipt_new l1 l2 xs ys) ⟨c1, c2, ?_⟩
  have e1 : (zt1 s.heap l1).objs.size = s.heap.objs.size + 1 := Heap.size_push ..
  have e2 : (zt2 s.heap l1 l2).objs.size = s.heap.objs.size + 2 := by unfold zt2; rw [Heap.size_push, e1]
  have e3 : (zt3 s.heap l1 l2).objs.size = s.heap.objs.size + 3 := by unfold zt3; rw [Heap.size_push, e2]
  have e4 : (zt4 s.heap l1 l2).objs.size = s.heap.objs.size + 4 := by unfold zt4; rw [Heap.size_push, e3]
  have g5 : (zt5 s.heap l1 l2).get? (zt4 s.heap l1 l2).objs.size = some { cls := .type "zip", data := .fields #[.none, .bool false, .bool false, .ref (zt2 s.heap l1 l2).objs.size, .ref (zt3 s.heap l1 l2).objs.size] } := Heap.get?_push_size _ rfl
  have g4 : (zt5 s.heap l1 l2).get? (zt3 s.heap l1 l2).objs.size = some { cls := .type "tuple", data := .seq #[.none, .none] } := Heap.get?_push_of_some _ (Heap.get?_push_size _ rfl)
  have g3 : (zt5 s.heap l1 l2).get? (zt2 s.heap l1 l2).objs.size = some { cls := .type "tuple", data := .seq #[.ref s.heap.objs.size, .ref (zt1 s.heap l1).objs.size] } := Heap.get?_push_of_some _ (Heap.get?_push_of_some _ (Heap.get?_push_size _ rfl))
  have g2 : (zt5 s.heap l1 l2).get? (zt1 s.heap l1).objs.size = some { cls := .type "tuple_iterator", data := .fields #[.ref l2, .int 0 0] } := Heap.get?_push_of_some _ (Heap.get?_push_of_some _ (Heap.get?_push_of_some _ (Heap.get?_push_size _ rfl)))
  have g1 : (zt5 s.heap l1 l2).get? s.heap.objs.size = some { cls := .type "tuple_iterator", data := .fields #[.ref l1, .int 0 0] } := Heap.get?_push_of_some _ (Heap.get?_push_of_some _ (Heap.get?_push_of_some _ (Heap.get?_push_of_some _ (Heap.get?_push_size _ rfl))))
  rw [e4, e3, e2] at g5
  rw [e3] at g4
  rw [e2, e1] at g3
  rw [e1] at g2
  have q' := q (zt5 s.heap l1 l2) g5 g3 g4 ⟨_, g1, rfl, rfl⟩ ⟨_, g2, rfl, rfl⟩ fun c o e => Heap.get?_push_of_some _ (Heap.get?_push_of_some _ (Heap.get?_push_of_some _ (Heap.get?_push_of_some _ (Heap.get?_push_of_some _ e))))
  rw [e4]
  exact ⟨⟨_, g5, rfl⟩, q'⟩
end
/-- the items of a zip of two tuples -/
def Itzt (K : PySem.W.Frag) (a b : Addr) : It :=
  ⟨fun i H => ∃ xs ys x y, SqT K H a xs ∧ SqT K H b ys ∧ xs.length = ys.length ∧ xs[i]? = some x ∧ ys[i]? = some y,
   fun i H v H' => ∃ p x y, v = .ref p ∧ H p = none ∧ H' = upd H p (.tup [x, y]) ∧ (∀ xs, SqT K H a xs → xs[i]? = some x) ∧ ∀ ys, SqT K H b ys → ys[i]? = some y,
   fun i H => ∃ xs ys, SqT K H a xs ∧ SqT K H b ys ∧ xs.length = i⟩
end L2

set_option Elab.async false
set_option linter.all false
set_option maxRecDepth 100000
/-! zip of two tuples: its loop. -/
namespace L2
open PySem PySem.Spec PyProof.Rows
theorem turn_zipt {P : Program} {w : World} {K : PySem.W.Frag} {elts : List Expr} {kk : Nat} {pos : Pos} (a b z TI TO i1 i2 : Addr) (D : ZipApart z TI TO i1 i2 a b) :
    Turn P w K (.Tuple elts kk pos) (Itzt K a b) [z, TI, TO, i1, i2] z (fun i h => IsZip h z TI TO .none ∧ IsPair h TI (.ref i1) (.ref i2) ∧ (∃ c d, IsPair h TO c d) ∧ h.IsTupleIter i1 a i ∧ h.IsTupleIter i2 b i) where
  mem := by simp
  obj := fun i h st c hc => by
    obtain ⟨h1, h2, ⟨x, y, h3⟩, ⟨o4, e4, c4, d4⟩, ⟨o5, e5, c5, d5⟩⟩ := st
    have hc' : c = z ∨ c = TI ∨ c = TO ∨ c = i1 ∨ c = i2 := by simpa using hc
    rcases hc' with rfl | rfl | rfl | rfl | rfl
    · exact ⟨_, h1, fun v q => by cases q⟩
    · exact ⟨_, h2, fun v q => by cases q⟩
    · exact ⟨_, h3, fun v q => by cases q⟩
    · exact ⟨o4, e4, fun v q => by rw [d4] at q; cases q⟩
    · exact ⟨o5, e5, fun v q => by rw [d5] at q; cases q⟩
  keep := fun i h h' st k => by
    obtain ⟨h1, h2, ⟨x, y, h3⟩, ⟨o4, e4, r4⟩, ⟨o5, e5, r5⟩⟩ := st
    exact ⟨k z (by simp) _ h1, k TI (by simp) _ h2, ⟨x, y, k TO (by simp) _ h3⟩, ⟨o4, k i1 (by simp) _ e4, r4⟩, ⟨o5, k i2 (by simp) _ e5, r5⟩⟩
  item := by
    intro X hP hw hK hc i pins s σ H E I hf st hg
    subst hP hw hK
    obtain ⟨xs, ys, x, y, hq1, hq2, hll, hx, hy⟩ := hg
    obtain ⟨its1, rv1, p1, hz1⟩ := I.tuple hq1
    obtain ⟨its2, rv2, p2, hz2⟩ := I.tuple hq2
    obtain ⟨u1, hu1, ru1⟩ := rv1.get hx
    obtain ⟨u2, hu2, ru2⟩ := rv2.get hy
    obtain ⟨sz, sTI, ⟨c, d, sTO⟩, s1, s2⟩ := st
    have hT : s.TypeIs (.ref z) "zip" := ⟨_, sz, rfl⟩
    have W1 := wkr_tup (prog := X.prog) (w := X.w) i1 a D.l1i1 its1.toArray
    have W2 := wkr_tup (prog := X.prog) (w := X.w) i2 b D.l2i2 its2.toArray
    unfold pyNext; refine wpAny_bind (wpAny_attempt (wpAny_callSpecial?_slot (name := Str.ofString "__next__") hT F.slot_zip_next (wpAny_call_entry F.slot_zip_next hT F.entry_zip_next (zipw_item D W1 W2 sz sTI sTO ⟨s1, p1⟩ ⟨s2, p2⟩ (by have := (List.getElem?_eq_some_iff.mp hu1).1; simpa using this) (by have := (List.getElem?_eq_some_iff.mp hu2).1; simpa using this) fun v1 v2 h' px py b1 b2 b3 b4 b5 hk => wpAny_pure ?_) (F.args_zip_next_1 _))))
    obtain rfl : v1 = u1 := by have px' : its1[i]? = some v1 := (by simpa using px); rw [hu1] at px'; exact (Option.some.inj px').symm
    obtain rfl : v2 = u2 := by have py' : its2[i]? = some v2 := (by simpa using py); rw [hu2] at py'; exact (Option.some.inj py').symm
    have lt : ∀ {c o}, s.heap.get? c = some o → c ≠ s.heap.objs.size := fun e => Nat.ne_of_lt (Heap.lt_size e)
    have I0 : Inv X pins σ (upd H s.heap.objs.size (.tup [x, y])) { s with heap := s.heap.push { cls := .type "tuple", data := .seq #[v1, v2] }, toks := s.toks } :=
      I.laid (a := s.heap.objs.size) (o := .tup [x, y]) (t' := s.toks) (fun b u e => Heap.get?_push_of_some _ e) (Nat.le_refl _) ⟨(by show 2 ≤ sizeLine; decide), [v1, v2], .cons ru1 (.cons ru2 .nil), _, Heap.get?_push_size _ rfl, rfl, _, rfl⟩
    have hnone : ∀ c ∈ [z, TI, TO, i1, i2], (upd H s.heap.objs.size (.tup [x, y])) c = none := fun c hc' => by
      have hne : c ≠ s.heap.objs.size := by
        have hc'' : c = z ∨ c = TI ∨ c = TO ∨ c = i1 ∨ c = i2 := by simpa using hc'
        rcases hc'' with rfl | rfl | rfl | rfl | rfl
        · exact lt sz
        · exact lt sTI
        · exact lt sTO
        · obtain ⟨_, e, _⟩ := s1; exact lt e
        · obtain ⟨_, e, _⟩ := s2; exact lt e
      rw [upd_ne hne]
      exact (hf c hc').1
    have hf' : ∀ c ∈ [z, TI, TO, i1, i2], FpOk X pins (upd H s.heap.objs.size (.tup [x, y])) c := fun c hc' => ⟨hnone c hc', (hf c hc').2⟩
    have kk1 : ∀ c o, c ∉ [z, TO, i1, i2] → (s.heap.push { cls := .type "tuple", data := .seq #[v1, v2] }).get? c = some o → h'.get? c = some o := fun c o hn e => by
      rcases Heap.get?_push_cases e with ⟨rfl, rfl⟩ | e'
      · exact b5
      · exact hk c o hn e'
    have kk2 : ∀ c ∈ [z, TO, i1, i2], FpOk X pins (upd H s.heap.objs.size (.tup [x, y])) c := fun c hc' => hf' c (by
      have hc'' : c = z ∨ c = TO ∨ c = i1 ∨ c = i2 := by simpa using hc'
      rcases hc'' with rfl | rfl | rfl | rfl <;> simp)
    have I1 := I0.turnedL (h' := h') (t' := s.toks) (ch := [z, TO, i1, i2]) kk1 kk2
    refine ⟨_, rfl, wpAny_letOwnedTupleGo_zip b1 fun h2 c1 c2 => ?_⟩
    have I2 := I1.turnedL (h' := h2) (t' := s.toks) (ch := [z]) (fun c o hn e => (c2.2 c (fun q => hn (by simp [q]))).trans e) (fun c hc' => hf' c (by rw [List.mem_singleton.mp hc']; simp))
    refine ⟨.ref s.heap.objs.size, _, I2, rfl, ⟨_, x, y, rfl, I.hok.fresh (Nat.le_refl _), rfl, fun xs' q => by rw [I.tuple_inj q hq1]; exact hx, fun ys' q => by rw [I.tuple_inj q hq2]; exact hy⟩, ?_, hnone⟩
    have mv : ∀ c o, c ≠ z → h'.get? c = some o → h2.get? c = some o := fun c o hn e => (c2.2 c hn).trans e
    obtain ⟨⟨o3, e3, r3⟩, _⟩ := b3
    obtain ⟨⟨o4, e4, r4⟩, _⟩ := b4
    exact ⟨c1, mv _ _ D.TIz (hk _ _ (by simp [D.TIz, D.TITO, D.TIi1, D.TIi2]) sTI), ⟨_, _, mv _ _ D.TOz b2⟩, ⟨o3, mv _ _ D.i1z e3, r3⟩, ⟨o4, mv _ _ D.i2z e4, r4⟩⟩
  done := by
    intro X hP hw hK hc i pins s σ H E I hf st hg
    subst hP hw hK
    obtain ⟨xs, ys, hq1, hq2, hx⟩ := hg
    obtain ⟨its1, rv1, p1, hz1⟩ := I.tuple hq1
    have l1 := rv1.length
    obtain ⟨sz, sTI, ⟨c, d, sTO⟩, s1, s2⟩ := st
    have hT : s.TypeIs (.ref z) "zip" := ⟨_, sz, rfl⟩
    have W1 := wkr_tup (prog := X.prog) (w := X.w) i1 a D.l1i1 its1.toArray
    have ei : its1.toArray.size = i := by simp; (first | lia | omega)
    unfold pyNext; refine wpAny_bind (wpAny_attempt (wpAny_callSpecial?_slot (name := Str.ofString "__next__") hT F.slot_zip_next (wpAny_call_entry F.slot_zip_next hT F.entry_zip_next (zipw_end (I.ok.hd hc) D W1 sz sTI (by rw [ei]; exact ⟨s1, p1⟩) fun h' e hk ⟨oe, e1, e2⟩ => ?_) (F.args_zip_next_1 _))))
    refine wpAny_bind (wpAny_isInstance (T := "StopIteration") (b := true) ⟨oe, e1, e2⟩ isSubtype_stop (wpAny_pure ⟨rfl, I.turnedL (t' := s.toks) (ch := [z, TO, i1, i2]) hk fun c hc' => hf c ?_⟩))
    have hc'' : c = z ∨ c = TO ∨ c = i1 ∨ c = i2 := by simpa using hc'
    rcases hc'' with rfl | rfl | rfl | rfl <;> simp
  self := fun _ _ _ _ _ st h => wpAny_pyIter_zip st.1 h
def iZipt (K : PySem.W.Frag) (ta : TA) : TI := fun σ H R => ta σ H fun vs H1 => ∃ a b, vs = [.ref a, .ref b] ∧ (∃ xs, SqT K H1 a xs) ∧ (∃ ys, SqT K H1 b ys) ∧ R (Itzt K a b) H1
theorem pi_zipt {X : Cx} {elts : List Expr} {kk : Nat} {tpos : Pos} {a b : Expr} {ta : TA} {p pos : Pos} (hg : Gl X "zip") (hm : X.mg "zip" = none) (ha : PA X [a, b] ta) (hs : starEach [a, b] X.env = [(false, eval a X.env), (false, eval b X.env)] := by rfl) (hs2 : starEach [b] X.env = [(false, eval b X.env)] := by rfl) :
    PI X (.Tuple elts kk tpos) (.Call (.Name "zip" p) [a, b] [] pos) (iZipt X.K ta) := by
  intro pins s σ H R I h
  refine Call_ (ld_blt I hg hm PyProof.Rows.boot_zip (PyProof.Rows.callWith_type1 (thn (ha pos pins s σ H _ I h) fun us s1 ⟨vs, H1, I1, r1, q1⟩ => ?_) (by rw [hs, hs2]) (by rw [hs2]; rfl)))
  obtain ⟨l1, l2, e, ⟨xs, hq1⟩, ⟨ys, hq2⟩, q⟩ := q1
  subst e
  cases r1 with
  | cons r rr =>
    cases rr with
    | cons r' rr =>
      cases rr
      cases r
      cases r'
      obtain ⟨its1, rv1, p1, hz1⟩ := I1.tuple hq1
      obtain ⟨its2, rv2, p2, hz2⟩ := I1.tuple hq2
      have hlt1 : @LT.lt Nat _ l1 s1.heap.objs.size := by obtain ⟨o, e, _⟩ := p1; exact Heap.lt_size e
      have hlt2 : @LT.lt Nat _ l2 s1.heap.objs.size := by obtain ⟨o, e, _⟩ := p2; exact Heap.lt_size e
      refine zipt_call p1 p2 fun h' hz hTI hTO hi1 hi2 hk => wpAny_pyIter_zip hz ?_
      have D : ZipApart (s1.heap.objs.size + 4) (s1.heap.objs.size + 2) (s1.heap.objs.size + 3) s1.heap.objs.size (s1.heap.objs.size + 1) l1 l2 := PySem.W.ktu_apart _ _ _ hlt1 hlt2
      refine ⟨_, [s1.heap.objs.size + 4, s1.heap.objs.size + 2, s1.heap.objs.size + 3, s1.heap.objs.size, s1.heap.objs.size + 1], _, _, H1, rfl, I1.kept (t' := s1.toks) hk, turn_zipt l1 l2 _ _ _ _ _ D, ⟨hz, hTI, ⟨_, _, hTO⟩, hi1, hi2⟩, fun c hc => ?_, q⟩
      have hc' : c = s1.heap.objs.size + 4 ∨ c = s1.heap.objs.size + 2 ∨ c = s1.heap.objs.size + 3 ∨ c = s1.heap.objs.size ∨ c = s1.heap.objs.size + 1 := by simpa using hc
      have hle : @LE.le Nat _ s1.heap.objs.size c := by
        rcases hc' with rfl | rfl | rfl | rfl | rfl
        · exact Nat.le_add_right _ _
        · exact Nat.le_add_right _ _
        · exact Nat.le_add_right _ _
        · exact Nat.le_refl _
        · exact Nat.le_add_right _ _
      exact I1.fpOk hle (I1.hok.fresh hle)
theorem for_zipt {K : PySem.W.Frag} {a b : Addr} {xs ys : List V} {g : TG} {tb : TS} {D : Ends} {σ : St} {H : Hp} (Pv : Nat → St → Hp → Prop) (h0 : Pv 0 σ H) (hl : ∀ i σ H, Pv i σ H → SqT K H a xs ∧ SqT K H b ys) (he : xs.length = ys.length)
    (hs : ∀ i x y p σ H, xs[i]? = some x → ys[i]? = some y → Pv i σ H → H p = none → g (.ref p) σ (upd H p (.tup [x, y])) fun σ2 H2 => tb { D with nx := Pv (i + 1), ct := Pv (i + 1), bk := D.nx } σ2 H2) (hd : ∀ σ H, Pv xs.length σ H → D.nx σ H) :
    ∃ W : Nat → Nat → St → Hp → Prop, (∃ m, W 0 m σ H) ∧ ∀ i m σ H, W i m σ H →
      ((Itzt K a b).stop i H ∧ D.nx σ H) ∨ ((Itzt K a b).go i H ∧ ∃ N : St → Hp → Prop, (∀ σ' H', N σ' H' → ∃ m', m' < m ∧ W (i + 1) m' σ' H') ∧ ∀ x H', (Itzt K a b).yld i H x H' → g x σ H' fun σ2 H2 => tb { D with nx := N, ct := N, bk := D.nx } σ2 H2) := by
  refine ⟨fun i m σ H => m = xs.length - i ∧ i ≤ xs.length ∧ Pv i σ H, ⟨xs.length, by simp, Nat.zero_le _, h0⟩, ?_⟩
  rintro i m σ H ⟨rfl, hi, p⟩
  obtain ⟨q1, q2⟩ := hl i σ H p
  by_cases hlt : i < xs.length
  · have hlt2 : i < ys.length := by (first | lia | omega)
    refine .inr ⟨⟨xs, ys, xs[i], ys[i], q1, q2, he, by simp [hlt], by simp [hlt2]⟩, Pv (i + 1), fun σ' H' p' => ⟨xs.length - (i + 1), by (first | lia | omega), rfl, hlt, p'⟩, fun v H' y => ?_⟩
    obtain ⟨r, x, y, rfl, hn, rfl, e1, e2⟩ := y
    exact hs i x y r σ H (e1 xs q1) (e2 ys q2) p hn
  · have e : i = xs.length := by (first | lia | omega)
    subst e
    exact .inl ⟨⟨xs, ys, q1, q2, rfl⟩, hd σ H p⟩
theorem pi_zipt0 {X : Cx} {elts : List Expr} {kk : Nat} {tpos : Pos} {a b : Expr} {ta : TA} {p pos : Pos} (hg : Gl X "zip") (hm : X.mg "zip" = none) (ha : PA X [a, b] ta) (hs : starEach [a, b] X.env = [(false, eval a X.env), (false, eval b X.env)] := by rfl) (hs2 : starEach [b] X.env = [(false, eval b X.env)] := by rfl) :
    PI X (.Tuple elts kk tpos) (.Call (.Name "zip" p) [a, b] [] pos) (iZipt KN ta) := (pi_zipt hg hm ha.cl hs hs2).weak fun σ H R q => ⟨_, q, fun x H1 ⟨a, b, e, ⟨xs, z⟩, ⟨ys, z'⟩, r⟩ => ⟨a, b, e, ⟨xs, z.up⟩, ⟨ys, z'.up⟩, Itzt KN a b,
  ⟨fun i H ⟨xs, ys, x, y, u, u', v⟩ => ⟨xs, ys, x, y, u.up, u'.up, v⟩, fun i H ⟨xs, ys, u, u', v⟩ => ⟨xs, ys, u.up, u'.up, v⟩, fun i H x H' ⟨p, x', y', u, v, w, f, g⟩ => ⟨p, x', y', u, v, w, fun xs z => f xs z.up, fun ys z => g ys z.up⟩⟩, r⟩⟩
end L2

set_option Elab.async false
set_option linter.all false
set_option maxRecDepth 100000
/-! Papers as texts. -/
namespace L2
open PySem PySem.Spec PyProof.Rows
structure Stp where
  wd : Str
  a : Nat
  b : Nat
  ls : List Nat
structure Stp.Ok (S : Stp) : Prop where
  wd : S.wd = "stands" ∨ S.wd = "row"
  a : S.a < 10 ^ 9
  b : S.b < 10 ^ 9
  ls : ∀ n ∈ S.ls, n < 10 ^ 9
  len : S.ls.length ≤ 7
def srow (w : Str) (S : Stp) : List Str := w :: S.wd :: nw S.a :: nw S.b :: Str.ofString ":" :: S.ls.map nw
def StR (H : Hp) (r : Addr) (S : Stp) : Prop := ∃ lf, H r = some (.tup [.str S.wd, .int (S.a : Int), .int (S.b : Int), .ref lf]) ∧ H lf = some (.tup (nV S.ls))
theorem StR.same {H H' : Hp} {r : Addr} {S : Stp} (s : Same H H') (h : StR H r S) : StR H' r S := let ⟨lf, h1, h2⟩ := h; ⟨lf, s _ _ h1, s _ _ h2⟩
structure Pp where
  kept : List (List Nat)
  s1 : List Stp
  s2 : List Stp
  s3 : List Stp
structure Pp.Ok (P : Pp) : Prop where
  nk : P.kept.length ≤ 6
  n1 : P.s1.length ≤ 6
  n2 : P.s2.length ≤ 6
  n3 : P.s3.length ≤ 6
  kp : ∀ r ∈ P.kept, ∃ x y, r = [x, y] ∧ x < 10 ^ 9 ∧ y < 10 ^ 9
  k1 : ∀ S ∈ P.s1, S.Ok
  k2 : ∀ S ∈ P.s2, S.Ok
  k3 : ∀ S ∈ P.s3, S.Ok
def sqo (t : Bool) (xs : List V) : HO := if t then .tup xs else .lst xs
def KLs (t : Bool) (H : Hp) (p : Addr) (rs : List Addr) (rows : List (List Nat)) : Prop := H p = some (sqo t (rs.map V.ref)) ∧ Paired (fun r ns => H r = some (.tup (nV ns))) rs rows
def SLs (t : Bool) (H : Hp) (p : Addr) (rs : List Addr) (Ss : List Stp) : Prop := H p = some (sqo t (rs.map V.ref)) ∧ Paired (StR H) rs Ss
theorem KLs.same {t : Bool} {H H' : Hp} {p : Addr} {rs : List Addr} {rows : List (List Nat)} (s : Same H H') (h : KLs t H p rs rows) : KLs t H' p rs rows := ⟨s _ _ h.1, pairedMono (fun _ _ q => s _ _ q) h.2⟩
theorem SLs.same {t : Bool} {H H' : Hp} {p : Addr} {rs : List Addr} {Ss : List Stp} (s : Same H H') (h : SLs t H p rs Ss) : SLs t H' p rs Ss := ⟨s _ _ h.1, pairedMono (fun _ _ q => q.same s) h.2⟩
structure PpA (t : Bool) (H : Hp) (w k p1 p2 p3 : Addr) (ks r1 r2 r3 : List Addr) (P : Pp) : Prop where
  w : H w = some (.tup [.ref k, .ref p1, .ref p2, .ref p3])
  k : KLs t H k ks P.kept
  q1 : SLs t H p1 r1 P.s1
  q2 : SLs t H p2 r2 P.s2
  q3 : SLs t H p3 r3 P.s3
theorem PpA.same {t : Bool} {H H' : Hp} {w k p1 p2 p3 : Addr} {ks r1 r2 r3 : List Addr} {P : Pp} (s : Same H H') (h : PpA t H w k p1 p2 p3 ks r1 r2 r3 P) : PpA t H' w k p1 p2 p3 ks r1 r2 r3 P := ⟨s _ _ h.w, h.k.same s, h.q1.same s, h.q2.same s, h.q3.same s⟩
def pRows (P : Pp) : List (List Str) := (P.kept.map fun ns => Str.ofString "kept" :: ns.map nw) ++ P.s1.map (srow "start") ++ P.s2.map (srow "next") ++ P.s3.map (srow "now")
theorem gwP : GW "kept" ∧ GW "start" ∧ GW "next" ∧ GW "now" ∧ GW "stands" ∧ GW "row" ∧ GW ":" := by refine ⟨⟨?_, ?_, ?_, ?_⟩, ⟨?_, ?_, ?_, ?_⟩, ⟨?_, ?_, ?_, ?_⟩, ⟨?_, ?_, ?_, ?_⟩, ⟨?_, ?_, ?_, ?_⟩, ⟨?_, ?_, ?_, ?_⟩, ⟨?_, ?_, ?_, ?_⟩⟩ <;> decide
theorem srow_gw {w : Str} {S : Stp} (h : GW w) (ok : S.Ok) : (∀ t ∈ srow w S, GW t) ∧ (srow w S).length ≤ 20 := by
  obtain ⟨_, _, _, _, g5, g6, g7⟩ := gwP
  refine ⟨fun t ht => ?_, ?_⟩
  · unfold srow at ht
    rcases List.mem_cons.mp ht with rfl | ht
    · exact h
    rcases List.mem_cons.mp ht with rfl | ht
    · rcases ok.wd with e | e <;> rw [e] <;> assumption
    rcases List.mem_cons.mp ht with rfl | ht
    · exact GW.nw ok.a
    rcases List.mem_cons.mp ht with rfl | ht
    · exact GW.nw ok.b
    rcases List.mem_cons.mp ht with rfl | ht
    · exact g7
    obtain ⟨n, h1, rfl⟩ := List.mem_map.mp ht
    exact GW.nw (ok.ls n h1)
  · have := ok.len
    unfold srow
    simp only [List.length_cons, List.length_map]
    (first | lia | omega)
theorem Pp.Ok.kN {P : Pp} (ok : P.Ok) : ∀ r ∈ P.kept, r.length = 2 ∧ ∀ n ∈ r, n < 10 ^ 9 := fun r hr => by
  obtain ⟨x, y, rfl, h1, h2⟩ := ok.kp r hr
  exact ⟨rfl, fun n hn => by simp only [List.mem_cons, List.not_mem_nil, or_false] at hn; rcases hn with rfl | rfl <;> assumption⟩
theorem pRows_mem {P : Pp} {r : List Str} (h : r ∈ pRows P) : (∃ b ∈ P.kept, r = Str.ofString "kept" :: b.map nw) ∨ (∃ S ∈ P.s1, r = srow "start" S) ∨ (∃ S ∈ P.s2, r = srow "next" S) ∨ ∃ S ∈ P.s3, r = srow "now" S := by
  unfold pRows at h
  rcases List.mem_append.mp h with h | h
  · rcases List.mem_append.mp h with h | h
    · rcases List.mem_append.mp h with h | h
      · obtain ⟨b, h1, h2⟩ := List.mem_map.mp h
        exact .inl ⟨b, h1, h2.symm⟩
      · obtain ⟨b, h1, h2⟩ := List.mem_map.mp h
        exact .inr (.inl ⟨b, h1, h2.symm⟩)
    · obtain ⟨b, h1, h2⟩ := List.mem_map.mp h
      exact .inr (.inr (.inl ⟨b, h1, h2.symm⟩))
  · obtain ⟨b, h1, h2⟩ := List.mem_map.mp h
    exact .inr (.inr (.inr ⟨b, h1, h2.symm⟩))
theorem pRows_ok {P : Pp} (ok : P.Ok) : TOk (pRows P) := by
  obtain ⟨g1, g2, g3, g4, _, _, _⟩ := gwP
  refine ⟨fun r hr => ?_, fun r hr => ?_, ?_, fun r hr => ?_⟩
  · rcases pRows_mem hr with ⟨b, hb, rfl⟩ | ⟨S, hS, rfl⟩ | ⟨S, hS, rfl⟩ | ⟨S, hS, rfl⟩
    · exact row_gw g1 (ok.kN b hb).2
    · exact (srow_gw g2 (ok.k1 S hS)).1
    · exact (srow_gw g3 (ok.k2 S hS)).1
    · exact (srow_gw g4 (ok.k3 S hS)).1
  · rcases pRows_mem hr with ⟨b, hb, rfl⟩ | ⟨S, hS, rfl⟩ | ⟨S, hS, rfl⟩ | ⟨S, hS, rfl⟩
    · rw [List.length_cons, List.length_map, (ok.kN b hb).1]; decide
    · exact (srow_gw g2 (ok.k1 S hS)).2
    · exact (srow_gw g3 (ok.k2 S hS)).2
    · exact (srow_gw g4 (ok.k3 S hS)).2
  · have := ok.nk; have := ok.n1; have := ok.n2; have := ok.n3
    unfold pRows
    simp only [List.length_append, List.length_map]
    (first | lia | omega)
  · rcases pRows_mem hr with ⟨b, hb, rfl⟩ | ⟨S, hS, rfl⟩ | ⟨S, hS, rfl⟩ | ⟨S, hS, rfl⟩ <;> exact List.cons_ne_nil _ _
theorem txt_ne {rows : List (List Str)} (hn : rows ≠ []) (ok : TOk rows) : txt rows ≠ Str.ofString "" := by
  intro e
  have h := txt_split hn ok.gw
  rw [e, show Txt.split (Str.ofString "") ⟨#[10]⟩ = [Str.ofString ""] by decide] at h
  match rows, hn, ok, h with
  | ws :: rest, _, ok, h =>
    rw [List.map_cons] at h
    injection h with h1 h2
    have hm : ws ∈ ws :: rest := List.mem_cons_self
    have h3 := row_split (ok.full ws hm) (ok.gw ws hm)
    rw [← h1, show Txt.split (Str.ofString "") ⟨#[32]⟩ = [Str.ofString ""] by decide] at h3
    have := (ok.gw ws hm (Str.ofString "") (by rw [← h3]; exact List.mem_cons_self)).1
    exact this (by decide)
theorem txt_nil : txt [] = Str.ofString "" := by decide
theorem row_snoc {ws : List Str} (h : ws ≠ []) (x : Str) : rowT (ws ++ [x]) = rowT ws ++ ⟨#[32]⟩ ++ x := by
  induction ws with
  | nil => exact absurd rfl h
  | cons a r ih =>
    cases r with
    | nil => rfl
    | cons b r =>
      have e := ih (List.cons_ne_nil _ _)
      show a ++ ⟨#[32]⟩ ++ rowT (b :: r ++ [x]) = a ++ ⟨#[32]⟩ ++ rowT (b :: r) ++ ⟨#[32]⟩ ++ x
      rw [e]
      simp only [Str.append_assoc]
/-! what is read and shown -/
def sqd (t : Bool) (ds : List PyData) : PyData := if t then .tuple ds else .list ds
def dSt (S : Stp) : PyData := .tuple [.str S.wd, .int (S.a : Int), .int (S.b : Int), .tuple (dNs S.ls)]
def dPp (t : Bool) (P : Pp) : PyData := .tuple [sqd t (P.kept.map fun ns => PyData.tuple (dNs ns)), sqd t (P.s1.map dSt), sqd t (P.s2.map dSt), sqd t (P.s3.map dSt)]
theorem rd_sq {K : PySem.W.Frag} {H : Hp} {t : Bool} {p : Addr} {xs : List V} {ds : List PyData} (h : H p = some (sqo t xs)) (r : RdDs K H ds xs) : RdD K H (sqd t ds) (.ref p) := by
  cases t with
  | true => exact RdD.tup (SqT.of h) r
  | false => exact RdD.lst (SqL.of h) r
theorem rd_sts {K : PySem.W.Frag} {H : Hp} {rs : List Addr} {Ss : List Stp} (h : Paired (StR H) rs Ss) : RdDs K H (Ss.map dSt) (rs.map V.ref) := by
  induction h with
  | nil => exact RdDs.nil
  | cons a r ih =>
    obtain ⟨lf, h1, h2⟩ := a
    exact RdDs.cons (RdD.tup (SqT.of h1) (RdDs.cons (.str _) (RdDs.cons (.int _) (RdDs.cons (.int _) (RdDs.cons (RdD.tup (SqT.of h2) (rd_ns _)) .nil))))) ih
theorem PpA.rd {K : PySem.W.Frag} {t : Bool} {H : Hp} {w k p1 p2 p3 : Addr} {ks r1 r2 r3 : List Addr} {P : Pp} (h : PpA t H w k p1 p2 p3 ks r1 r2 r3 P) : RdD K H (dPp t P) (.ref w) :=
  RdD.tup (SqT.of h.w) (RdDs.cons (rd_sq h.k.1 (rd_rows h.k.2)) (RdDs.cons (rd_sq h.q1.1 (rd_sts h.q1.2)) (RdDs.cons (rd_sq h.q2.1 (rd_sts h.q2.2)) (RdDs.cons (rd_sq h.q3.1 (rd_sts h.q3.2)) .nil))))
theorem cmp_str {n : Nat} {x : Str} (h : PyData.strOk x = true) : Cmp n (.str x) := ⟨by simp [PyData.canLay0, h], by simp [PyData.depth]⟩
theorem cmp_st {S : Stp} (ok : S.Ok) : Cmp 2 (dSt S) := Cmp.tuple fun d hd => by
  simp only [List.mem_cons, List.not_mem_nil, or_false] at hd
  rcases hd with rfl | rfl | rfl | rfl
  · exact cmp_str (by rcases ok.wd with e | e <;> rw [e] <;> decide +kernel)
  · exact .int _
  · exact .int _
  · exact Cmp.tuple (n := 0) (cmp_ns S.ls)
theorem cmp_sq {n : Nat} {t : Bool} {ds : List PyData} (h : ∀ d ∈ ds, Cmp n d) : Cmp (n + 1) (sqd t ds) := by
  cases t with
  | true => exact Cmp.tuple h
  | false => exact Cmp.list h
theorem cmp_pp (t : Bool) {P : Pp} (ok : P.Ok) : Cmp 4 (dPp t P) := Cmp.tuple fun d hd => by
  have hs : ∀ Ss : List Stp, (∀ S ∈ Ss, S.Ok) → ∀ d ∈ Ss.map dSt, Cmp 2 d := fun Ss hS d hd => by obtain ⟨S, h, rfl⟩ := List.mem_map.mp hd; exact cmp_st (hS S h)
  simp only [List.mem_cons, List.not_mem_nil, or_false] at hd
  rcases hd with rfl | rfl | rfl | rfl
  · exact cmp_sq fun d hd => by obtain ⟨S, _, rfl⟩ := List.mem_map.mp hd; exact (Cmp.tuple (n := 0) (cmp_ns S)).mono (by decide)
  · exact cmp_sq (hs _ ok.k1)
  · exact cmp_sq (hs _ ok.k2)
  · exact cmp_sq (hs _ ok.k3)
theorem sh_sq {t : Bool} {ds : List PyData} {m : Nat} (h : PyData.showableAll ds = true) (hl : ∀ x ∈ PyData.shownAll ds, x.length ≤ m) (hn : ds.length ≤ 20) : PyData.showable (sqd t ds) = true ∧ (PyData.shown (sqd t ds)).length ≤ 20 * m + 43 := by
  have b := StrLaws.sumLen_le _ hl
  rw [shownAll_len] at b
  have c : ds.length * m ≤ 20 * m := Nat.mul_le_mul_right _ hn
  cases t with
  | true =>
    have a := tupleText_len_le (PyData.shownAll ds)
    rw [shownAll_len] at a
    exact ⟨by show PyData.showable (.tuple ds) = true; rw [PyData.showable]; exact h, by show (PyData.shown (.tuple ds)).length ≤ _; rw [PyData.shown]; (first | lia | omega)⟩
  | false =>
    have a := listText_len_le (PyData.shownAll ds)
    rw [shownAll_len] at a
    exact ⟨by show PyData.showable (.list ds) = true; rw [PyData.showable]; exact h, by show (PyData.shown (.list ds)).length ≤ _; rw [PyData.shown]; (first | lia | omega)⟩
theorem sh_st {S : Stp} (ok : S.Ok) : PyData.showable (dSt S) = true ∧ (PyData.shown (dSt S)).length ≤ 400 := by
  obtain ⟨h1, h2⟩ := sh_tup ok.ls (by have := ok.len; (first | lia | omega))
  have hw : (PyData.shown (.str S.wd)).length ≤ 62 := by
    rw [PyData.shown]
    rcases ok.wd with e | e
    · rw [e]
      exact Nat.le_trans (StrLaws.reprText_len _ (by decide)) (by decide)
    · rw [e]
      exact Nat.le_trans (StrLaws.reprText_len _ (by decide)) (by decide)
  unfold dSt
  refine ⟨?_, ?_⟩
  · rw [PyData.showable, PyData.showableAll, PyData.showableAll, PyData.showableAll, PyData.showableAll, PyData.showableAll, h1, PyData.showable, PyData.showable, PyData.showable, decide_eq_true (lgN ok.a), decide_eq_true (lgN ok.b)]
    rfl
  · rw [PyData.shown]
    have e : PyData.shownAll [PyData.str S.wd, .int (S.a : Int), .int (S.b : Int), .tuple (dNs S.ls)] = [PyData.shown (.str S.wd), nw S.a, nw S.b, PyData.shown (.tuple (dNs S.ls))] := by
      rw [PyData.shownAll, PyData.shownAll, PyData.shownAll, PyData.shownAll, PyData.shownAll, PyData.shown.eq_def (.int (S.a : Int)), PyData.shown.eq_def (.int (S.b : Int))]
      rfl
    rw [e]
    refine Nat.le_trans (tupleText_len_le _) ?_
    have := nw_len ok.a
    have := nw_len ok.b
    simp only [List.map_cons, List.map_nil, List.sum_cons, List.sum_nil, List.length_cons, List.length_nil]
    (first | lia | omega)
theorem sh_sts : ∀ {Ss : List Stp}, (∀ S ∈ Ss, S.Ok) → PyData.showableAll (Ss.map dSt) = true ∧ ∀ x ∈ PyData.shownAll (Ss.map dSt), x.length ≤ 400
  | [], _ => ⟨by simp [PyData.showableAll], fun t h => by simp [PyData.shownAll] at h⟩
  | S :: r, h => by
    obtain ⟨h1, h2⟩ := sh_sts (Ss := r) fun m hm => h m (List.mem_cons_of_mem _ hm)
    obtain ⟨a, b⟩ := sh_st (h S List.mem_cons_self)
    refine ⟨by rw [List.map_cons, PyData.showableAll, h1, a]; rfl, fun x hx => ?_⟩
    rw [List.map_cons, PyData.shownAll] at hx
    rcases List.mem_cons.mp hx with rfl | hx
    · exact b
    · exact h2 x hx
theorem sh_pp {t : Bool} {P : Pp} (ok : P.Ok) : (dPp t P).showable = true ∧ (dPp t P).hasDict = false ∧ (dPp t P).depth ≤ 20 ∧ (dPp t P).shown.length ≤ sizeLine := by
  have hc := cmp_pp t ok
  obtain ⟨k1, k2⟩ := sh_all (rows := P.kept) (fun r hr => ⟨(ok.kN r hr).2, by rw [(ok.kN r hr).1]; decide⟩)
  obtain ⟨a1, a2⟩ := sh_sq (t := t) k1 k2 (by rw [List.length_map]; have := ok.nk; (first | lia | omega))
  obtain ⟨u1, u2⟩ := sh_sts ok.k1
  obtain ⟨b1, b2⟩ := sh_sq (t := t) u1 u2 (by rw [List.length_map]; have := ok.n1; (first | lia | omega))
  obtain ⟨v1, v2⟩ := sh_sts ok.k2
  obtain ⟨c1, c2⟩ := sh_sq (t := t) v1 v2 (by rw [List.length_map]; have := ok.n2; (first | lia | omega))
  obtain ⟨w1, w2⟩ := sh_sts ok.k3
  obtain ⟨d1, d2⟩ := sh_sq (t := t) w1 w2 (by rw [List.length_map]; have := ok.n3; (first | lia | omega))
  refine ⟨?_, PyData.hasDict_of_canLay _ hc.1, Nat.le_trans hc.2 (by decide), ?_⟩
  · unfold dPp
    rw [PyData.showable, PyData.showableAll, PyData.showableAll, PyData.showableAll, PyData.showableAll, PyData.showableAll, a1, b1, c1, d1]
    rfl
  · unfold dPp
    rw [PyData.shown, PyData.shownAll, PyData.shownAll, PyData.shownAll, PyData.shownAll, PyData.shownAll]
    refine Nat.le_trans (tupleText_len_le _) ?_
    simp only [List.map_cons, List.map_nil, List.sum_cons, List.sum_nil, List.length_cons, List.length_nil]
    exact Nat.le_trans (show _ ≤ 100000 by (first | lia | omega)) (by decide)
def sp_read_step : Sp := fun vs H Q _ => ∃ (r : Addr) (w : Str) (S : Stp), vs = [.ref r] ∧ H r = some (.lst (sV (srow w S))) ∧ S.Ok ∧ ∀ t H', H t = none → Same H H' → StR H' t S → Q (.ref t) H'
def sp_read_paper : Sp := fun vs H Q _ => ∃ P : Pp, vs = [.str (txt (pRows P))] ∧ P.Ok ∧ ∀ w k p1 p2 p3 ks r1 r2 r3 H', H k = none → H p2 = none → H p3 = none → k ≠ p2 → k ≠ p3 → p2 ≠ p3 → Same H H' → PpA false H' w k p1 p2 p3 ks r1 r2 r3 P → Q (.ref w) H'
def sp_paper_text : Sp := fun vs H Q _ => ∃ (t : Bool) (w k p1 p2 p3 : Addr) (ks r1 r2 r3 : List Addr) (P : Pp), vs = [.ref w] ∧ PpA t H w k p1 p2 p3 ks r1 r2 r3 P ∧ P.Ok ∧ ∀ H', Same H H' → Q (.str (txt (pRows P))) H'
def sp_L_number : Sp := fun vs H Q _ => ∃ l : Addr, vs = [.ref l] ∧ Bag H l ∧ ∀ (d : Nat) H', d < 10 ^ 9 → Bg l H H' → Q (.int (d : Int)) H'
def sp_L_steps : Sp := fun vs H Q _ => ∃ (l : Addr) (n : Nat), vs = [.ref l, .int (n : Int)] ∧ Bag H l ∧ n ≤ 6 ∧ ∀ p rs Ss H', Bg l H H' → H p = none → SLs false H' p rs Ss → Ss.length = n → (∀ S ∈ Ss, S.Ok) → Q (.ref p) H'
def sp_L_step_text : Sp := fun vs H Q _ => ∃ (w : Str) (r : Addr) (S : Stp), vs = [.str w, .ref r] ∧ StR H r S ∧ S.Ok ∧ w.length ≤ 10 ∧ Q (.str (rowT (srow w S))) H
def sp_L_ptext : Sp := fun vs H Q _ => ∃ (w k p1 p2 p3 : Addr) (ks r1 r2 r3 : List Addr) (P : Pp), vs = [.ref w] ∧ PpA false H w k p1 p2 p3 ks r1 r2 r3 P ∧ P.Ok ∧ ∀ H', Same H H' → Q (.str (txt (pRows P))) H'
def sp_L_numbers : Sp := fun vs H Q _ => ∃ (p : Addr) (ns : List Nat), vs = [.ref p] ∧ H p = some (.tup (nV ns)) ∧ ns.length ≤ 20 ∧ ∀ H', Same H H' → Q (.bl true) H'
def sp_L_pread : Sp := fun vs H Q _ => ∃ (w k p1 p2 p3 : Addr) (ks r1 r2 r3 : List Addr) (P : Pp), vs = [.ref w, .str (txt (pRows P))] ∧ PpA false H w k p1 p2 p3 ks r1 r2 r3 P ∧ P.Ok ∧ ∀ H', Same H H' → Q (.bl true) H'
/-- a comprehension that lays a new thing for each, whatever it holds -/
theorem comp_newR {K : PySem.W.Frag} {a : Addr} {S : V → St} {te : TE} {H : Hp} {Fin : List V → Hp → Prop} {xs : List V} {α : Type} (ps : List α) (R : Hp → Addr → α → Prop) (mono : ∀ (H H' : Hp) (r : Addr) (p : α), Same H H' → R H r p → R H' r p) (hS : SqL K H a xs) (hl : xs.length = ps.length) (hz : ps.length ≤ 100000)
    (hs : ∀ (i : Nat) (x : V) (p : α) (H' : Hp), xs[i]? = some x → ps[i]? = some p → Same H H' → ∀ N : V → Hp → Prop, (∀ r H2, H' r = none → Same H' H2 → R H2 r p → N (.ref r) H2) → te (S x) H' N)
    (hd : ∀ rs H', Same H H' → (∀ r ∈ rs, H r = none) → Paired (R H') rs ps → Fin (rs.map V.ref) H') : CompW (Itl K a) S tYes te H Fin := by
  refine comp_list (xs := xs) (fun i ys H' => ∃ rs : List Addr, ys = rs.map V.ref ∧ Same H H' ∧ (∀ r ∈ rs, H r = none) ∧ Paired (R H') rs (ps.take i)) ⟨[], rfl, Same.refl _, (fun _ h => absurd h (by simp)), .nil⟩ ?_ ?_ ?_ ?_
  · rintro i ys H' _ ⟨_, _, s, _⟩
    exact s.seq hS
  · rintro i ys H' _ ⟨rs, rfl, _, _, pr⟩
    have h1 := Paired.length pr
    rw [List.length_take] at h1
    rw [List.length_map]
    exact smallL (by (first | lia | omega))
  · rintro i x ys H' hx ⟨rs, rfl, s, hn, pr⟩
    have hi : i < ps.length := by rw [← hl]; exact (List.getElem?_eq_some_iff.mp hx).1
    unfold tYes
    refine iteT (hs i x ps[i] H' hx (List.getElem?_eq_getElem hi) s _ fun r H2 h0 s2 e => ⟨rs ++ [r], by rw [List.map_append]; rfl, s.trans s2, fun q hq => ?_, ?_⟩)
    · rcases List.mem_append.mp hq with h | h
      · exact hn q h
      · rw [List.mem_singleton.mp h]; exact s.free h0
    · rw [List.take_add_one, List.getElem?_eq_getElem hi]
      exact pairedSnoc (R := R H2) e (pairedMono (fun _ _ z => mono _ _ _ _ s2 z) pr)
  · rintro ys H' ⟨rs, rfl, s, hn, pr⟩
    rw [hl, List.take_length] at pr
    exact hd rs H' s hn pr
theorem comp_newRT {K : PySem.W.Frag} {a : Addr} {S : V → St} {te : TE} {H : Hp} {Fin : List V → Hp → Prop} {xs : List V} {α : Type} (ps : List α) (R : Hp → Addr → α → Prop) (mono : ∀ (H H' : Hp) (r : Addr) (p : α), Same H H' → R H r p → R H' r p) (hS : SqT K H a xs) (hl : xs.length = ps.length) (hz : ps.length ≤ 100000)
    (hs : ∀ (i : Nat) (x : V) (p : α) (H' : Hp), xs[i]? = some x → ps[i]? = some p → Same H H' → ∀ N : V → Hp → Prop, (∀ r H2, H' r = none → Same H' H2 → R H2 r p → N (.ref r) H2) → te (S x) H' N)
    (hd : ∀ rs H', Same H H' → (∀ r ∈ rs, H r = none) → Paired (R H') rs ps → Fin (rs.map V.ref) H') : CompW (Itt K a) S tYes te H Fin := by
  refine comp_tup (xs := xs) (fun i ys H' => ∃ rs : List Addr, ys = rs.map V.ref ∧ Same H H' ∧ (∀ r ∈ rs, H r = none) ∧ Paired (R H') rs (ps.take i)) ⟨[], rfl, Same.refl _, (fun _ h => absurd h (by simp)), .nil⟩ ?_ ?_ ?_ ?_
  · rintro i ys H' _ ⟨_, _, s, _⟩
    exact s.seqT hS
  · rintro i ys H' _ ⟨rs, rfl, _, _, pr⟩
    have h1 := Paired.length pr
    rw [List.length_take] at h1
    rw [List.length_map]
    exact smallL (by (first | lia | omega))
  · rintro i x ys H' hx ⟨rs, rfl, s, hn, pr⟩
    have hi : i < ps.length := by rw [← hl]; exact (List.getElem?_eq_some_iff.mp hx).1
    unfold tYes
    refine iteT (hs i x ps[i] H' hx (List.getElem?_eq_getElem hi) s _ fun r H2 h0 s2 e => ⟨rs ++ [r], by rw [List.map_append]; rfl, s.trans s2, fun q hq => ?_, ?_⟩)
    · rcases List.mem_append.mp hq with h | h
      · exact hn q h
      · rw [List.mem_singleton.mp h]; exact s.free h0
    · rw [List.take_add_one, List.getElem?_eq_getElem hi]
      exact pairedSnoc (R := R H2) e (pairedMono (fun _ _ z => mono _ _ _ _ s2 z) pr)
  · rintro ys H' ⟨rs, rfl, s, hn, pr⟩
    rw [hl, List.take_length] at pr
    exact hd rs H' s hn pr
/-- the rows of the steps, section by section -/
def sRows (P : Pp) : List (List (List Str)) := [P.s1.map (srow "start"), P.s2.map (srow "next"), P.s3.map (srow "now")]
theorem pRows_s (P : Pp) : pRows P = (P.kept.map fun ns => Str.ofString "kept" :: ns.map nw) ++ (sRows P).flatten := by
  unfold pRows sRows
  simp [List.append_assoc]
/-- the i-th section on the heap -/
theorem PpA.sec {t : Bool} {H : Hp} {w k p1 p2 p3 : Addr} {ks r1 r2 r3 : List Addr} {P : Pp} (h : PpA t H w k p1 p2 p3 ks r1 r2 r3 P) (ok : P.Ok) {i : Nat} {x y : V} (hx : (sV [Str.ofString "start", Str.ofString "next", Str.ofString "now"])[i]? = some x) (hy : [V.ref p1, .ref p2, .ref p3][i]? = some y) :
    ∃ wd p rs Ss, x = .str wd ∧ y = .ref p ∧ SLs t H p rs Ss ∧ (∀ S ∈ Ss, S.Ok) ∧ Ss.length ≤ 6 ∧ wd.length ≤ 10 ∧ (sRows P)[i]? = some (Ss.map (srow wd)) := by
  match i, hx, hy with
  | 0, hx, hy => cases hx; cases hy; exact ⟨_, _, _, _, rfl, rfl, h.q1, ok.k1, ok.n1, by decide, rfl⟩
  | 1, hx, hy => cases hx; cases hy; exact ⟨_, _, _, _, rfl, rfl, h.q2, ok.k2, ok.n2, by decide, rfl⟩
  | 2, hx, hy => cases hx; cases hy; exact ⟨_, _, _, _, rfl, rfl, h.q3, ok.k3, ok.n3, by decide, rfl⟩
  | i + 3, hx, hy => simp at hy
theorem flat_snoc {α : Type} {L : List (List α)} {i : Nat} {x : List α} (h : L[i]? = some x) : (L.take (i + 1)).flatten = (L.take i).flatten ++ x := by
  rw [List.take_add_one, h, List.flatten_append]
  simp
theorem keptT (a b : Nat) : Str.ofString "kept " ++ nw a ++ Str.ofString " " ++ nw b = rowT [Str.ofString "kept", nw a, nw b] := by
  show _ = Str.ofString "kept" ++ ⟨#[32]⟩ ++ (nw a ++ ⟨#[32]⟩ ++ nw b)
  rw [show Str.ofString "kept" ++ ⟨#[32]⟩ = Str.ofString "kept " by decide, e32]
  simp only [Str.append_assoc]
/-- a comprehension of tests that all come out true -/
theorem comp_true {K : PySem.W.Frag} {a : Addr} {S : V → St} {te : TE} {H : Hp} {Fin : List V → Hp → Prop} {xs : List V} (hS : SqL K H a xs) (hz : xs.length ≤ 100000)
    (hs : ∀ (i : Nat) (x : V) (H' : Hp), xs[i]? = some x → Same H H' → ∀ N : V → Hp → Prop, (∀ H2, Same H' H2 → N (.bl true) H2) → te (S x) H' N)
    (hd : ∀ H', Same H H' → Fin ((List.replicate xs.length true).map V.bl) H') : CompW (Itl K a) S tYes te H Fin := by
  refine comp_list (xs := xs) (fun i ys H' => ys = (List.replicate i true).map V.bl ∧ Same H H') ⟨rfl, Same.refl _⟩ ?_ ?_ ?_ ?_
  · rintro i ys H' _ ⟨_, s⟩
    exact s.seq hS
  · rintro i ys H' hi ⟨rfl, _⟩
    rw [List.length_map, List.length_replicate]
    exact smallL (by (first | lia | omega))
  · rintro i x ys H' hx ⟨rfl, s⟩
    unfold tYes
    exact iteT (hs i x H' hx s _ fun H2 s2 => ⟨by rw [List.replicate_succ', List.map_append]; rfl, s.trans s2⟩)
  · rintro ys H' ⟨rfl, s⟩
    exact hd H' s
end L2

set_option Elab.async false
set_option linter.all false
set_option maxRecDepth 100000
set_option maxHeartbeats 4000000
namespace K66
open PySem L2
def top (i : Nat) : Stmt := PySem.Challenge.pw_lampforge_k66_papers_written_and_read.main.body.getD i (.Pass ⟨0, 0, 0, 0⟩)
abbrev s_is_figures : Stmt := top 5
abbrev s_number_of : Stmt := top 6
abbrev s_numbers_of : Stmt := top 7
abbrev s_words_of : Stmt := top 8
abbrev s_rows_of : Stmt := top 10
abbrev s_text_of : Stmt := top 11
abbrev s_sections_of : Stmt := top 12
abbrev s_whole_sections : Stmt := top 13
abbrev s_words_behind : Stmt := top 14
abbrev s_numbers_behind : Stmt := top 16
abbrev s_read_paper : Stmt := top 17
abbrev s_read_step : Stmt := top 18
abbrev s_paper_text : Stmt := top 19
abbrev s_L_cell_at : Stmt := top 21
abbrev s_L_bag : Stmt := top 22
abbrev s_L_take : Stmt := top 23
abbrev s_L_whole : Stmt := top 24
abbrev s_L_number : Stmt := top 25
abbrev s_L_steps : Stmt := top 26
abbrev s_L_step_text : Stmt := top 27
abbrev s_L_text : Stmt := top 28
abbrev s_L_numbers : Stmt := top 29
abbrev s_L_read : Stmt := top 30
abbrev s_law : Stmt := top 31
theorem sc_is_figures : FnScope ["word"] ["word"] (defScope s_is_figures) := ⟨rfl, rfl, rfl, by decide +kernel, rfl, by decide +kernel, by decide +kernel⟩
theorem sc_number_of : FnScope ["word"] ["word"] (defScope s_number_of) := ⟨rfl, rfl, rfl, by decide +kernel, rfl, by decide +kernel, by decide +kernel⟩
theorem sc_numbers_of : FnScope ["words"] ["words"] (defScope s_numbers_of) := ⟨rfl, rfl, rfl, by decide +kernel, rfl, by decide +kernel, by decide +kernel⟩
theorem sc_words_of : FnScope ["numbers"] ["numbers"] (defScope s_words_of) := ⟨rfl, rfl, rfl, by decide +kernel, rfl, by decide +kernel, by decide +kernel⟩
theorem sc_rows_of : FnScope ["text", "rows", "row"] ["text"] (defScope s_rows_of) := ⟨rfl, rfl, rfl, by decide +kernel, rfl, by decide +kernel, by decide +kernel⟩
theorem sc_text_of : FnScope ["rows"] ["rows"] (defScope s_text_of) := ⟨rfl, rfl, rfl, by decide +kernel, rfl, by decide +kernel, by decide +kernel⟩
theorem sc_sections_of : FnScope ["rows", "words", "sections", "place", "word", "start"] ["rows", "words"] (defScope s_sections_of) := ⟨rfl, rfl, rfl, by decide +kernel, rfl, by decide +kernel, by decide +kernel⟩
theorem sc_whole_sections : FnScope ["rows", "words", "sections"] ["rows", "words"] (defScope s_whole_sections) := ⟨rfl, rfl, rfl, by decide +kernel, rfl, by decide +kernel, by decide +kernel⟩
theorem sc_words_behind : FnScope ["row", "many"] ["row", "many"] (defScope s_words_behind) := ⟨rfl, rfl, rfl, by decide +kernel, rfl, by decide +kernel, by decide +kernel⟩
theorem sc_numbers_behind : FnScope ["row", "many"] ["row", "many"] (defScope s_numbers_behind) := ⟨rfl, rfl, rfl, by decide +kernel, rfl, by decide +kernel, by decide +kernel⟩
theorem sc_read_paper : FnScope ["text", "rows", "sections", "kept", "starts", "nexts"] ["text"] (defScope s_read_paper) := ⟨rfl, rfl, rfl, by decide +kernel, rfl, by decide +kernel, by decide +kernel⟩
theorem sc_read_step : FnScope ["row"] ["row"] (defScope s_read_step) := ⟨rfl, rfl, rfl, by decide +kernel, rfl, by decide +kernel, by decide +kernel⟩
theorem sc_paper_text : FnScope ["paper", "rows", "word", "steps"] ["paper"] (defScope s_paper_text) := ⟨rfl, rfl, rfl, by decide +kernel, rfl, by decide +kernel, by decide +kernel⟩
theorem sc_L_cell_at : FnScope ["_law_script", "_law_k"] ["_law_script", "_law_k"] (defScope s_L_cell_at) := ⟨rfl, rfl, rfl, by decide +kernel, rfl, by decide +kernel, by decide +kernel⟩
theorem sc_L_bag : FnScope ["_law_script", "_law_k", "_law_cell"] ["_law_script", "_law_k"] (defScope s_L_bag) := ⟨rfl, rfl, rfl, by decide +kernel, rfl, by decide +kernel, by decide +kernel⟩
theorem sc_L_take : FnScope ["_law_bag_here", "_law_many", "_law_found"] ["_law_bag_here", "_law_many"] (defScope s_L_take) := ⟨rfl, rfl, rfl, by decide +kernel, rfl, by decide +kernel, by decide +kernel⟩
theorem sc_L_whole : FnScope ["_law_found"] ["_law_found"] (defScope s_L_whole) := ⟨rfl, rfl, rfl, by decide +kernel, rfl, by decide +kernel, by decide +kernel⟩
theorem sc_L_number : FnScope ["_law_bag_here"] ["_law_bag_here"] (defScope s_L_number) := ⟨rfl, rfl, rfl, by decide +kernel, rfl, by decide +kernel, by decide +kernel⟩
theorem sc_L_steps : FnScope ["_law_bag_here", "_law_many", "_law_steps_here", "_law_k", "_law_word", "_law_one", "_law_other"] ["_law_bag_here", "_law_many"] (defScope s_L_steps) := ⟨rfl, rfl, rfl, by decide +kernel, rfl, by decide +kernel, by decide +kernel⟩
theorem sc_L_step_text : FnScope ["_law_word", "_law_step", "_law_text_here", "_law_leaf"] ["_law_word", "_law_step"] (defScope s_L_step_text) := ⟨rfl, rfl, rfl, by decide +kernel, rfl, by decide +kernel, by decide +kernel⟩
theorem sc_L_text : FnScope ["_law_paper", "_law_rows", "_law_k"] ["_law_paper"] (defScope s_L_text) := ⟨rfl, rfl, rfl, by decide +kernel, rfl, by decide +kernel, by decide +kernel⟩
theorem sc_L_numbers : FnScope ["_law_some"] ["_law_some"] (defScope s_L_numbers) := ⟨rfl, rfl, rfl, by decide +kernel, rfl, by decide +kernel, by decide +kernel⟩
theorem sc_L_read : FnScope ["_law_paper", "_law_text_here", "_law_found", "_law_steps_here", "_law_step"] ["_law_paper", "_law_text_here"] (defScope s_L_read) := ⟨rfl, rfl, rfl, by decide +kernel, rfl, by decide +kernel, by decide +kernel⟩
theorem sc_law : FnScope ["_law_script", "_law_bag_here", "_law_sizes", "_law_way", "_law_kept", "_law_k", "_law_one", "_law_paper", "_law_text_here", "_law_handed", "_law_before", "_law_found"] ["_law_script"] (defScope s_law) := ⟨rfl, rfl, rfl, by decide +kernel, rfl, by decide +kernel, by decide +kernel⟩
set_option genInjectivity false in
set_option genSizeOfSpec false in
/-- where the top's defs and tables stand -/
structure Ad where
  a_is_figures : Addr
  d_is_figures : FuncData
  a_number_of : Addr
  d_number_of : FuncData
  a_numbers_of : Addr
  d_numbers_of : FuncData
  a_words_of : Addr
  d_words_of : FuncData
  a_rows_of : Addr
  d_rows_of : FuncData
  a_text_of : Addr
  d_text_of : FuncData
  a_sections_of : Addr
  d_sections_of : FuncData
  a_whole_sections : Addr
  d_whole_sections : FuncData
  a_words_behind : Addr
  d_words_behind : FuncData
  a_numbers_behind : Addr
  d_numbers_behind : FuncData
  a_read_paper : Addr
  d_read_paper : FuncData
  a_read_step : Addr
  d_read_step : FuncData
  a_paper_text : Addr
  d_paper_text : FuncData
  a_L_cell_at : Addr
  d_L_cell_at : FuncData
  a_L_bag : Addr
  d_L_bag : FuncData
  a_L_take : Addr
  d_L_take : FuncData
  a_L_whole : Addr
  d_L_whole : FuncData
  a_L_number : Addr
  d_L_number : FuncData
  a_L_steps : Addr
  d_L_steps : FuncData
  a_L_step_text : Addr
  d_L_step_text : FuncData
  a_L_text : Addr
  d_L_text : FuncData
  a_L_numbers : Addr
  d_L_numbers : FuncData
  a_L_read : Addr
  d_L_read : FuncData
  a_law : Addr
  d_law : FuncData
theorem seq_pre {s t : TS} {D : Ends} {σ : St} {H : Hp} (I : St → Hp → Prop) (ht : ∀ σ' H', I σ' H' → t D σ' H') (hs : (∀ σ' H', I σ' H' → t D σ' H') → s { D with nx := t D } σ H) : tSeq s t D σ H := hs ht
def sp_law (K : PySem.W.Frag) : Sp := fun vs H Q _ => ∃ (a : Addr) (ns : List Int), vs = [.ref a] ∧ SqL K H a (ns.map V.int) ∧ ns.length ≤ 63 ∧ ∀ H', Q (.bl true) H'

/-- what the top has written -/
structure Tx (w : World) (K : PySem.W.Frag) (mg : Str → Option Value) (A : Ad) : Prop where
  all : mg "all" = none
  bool : mg "bool" = none
  int : mg "int" = none
  isinstance : mg "isinstance" = none
  len : mg "len" = none
  list : mg "list" = none
  range : mg "range" = none
  repr : mg "repr" = none
  str : mg "str" = none
  tuple : mg "tuple" = none
  zip : mg "zip" = none
  g_MOST_FIGURES : ∃ t, mg "MOST_FIGURES" = some (.int 9 t)
  F_is_figures : Fun K "is_figures" "is_figures" s_is_figures A.a_is_figures A.d_is_figures
  B_is_figures : Binds K A.d_is_figures ["word"] []
  M_is_figures : mg "is_figures" = some (.ref A.a_is_figures)
  F_number_of : Fun K "number_of" "number_of" s_number_of A.a_number_of A.d_number_of
  B_number_of : Binds K A.d_number_of ["word"] []
  M_number_of : mg "number_of" = some (.ref A.a_number_of)
  F_numbers_of : Fun K "numbers_of" "numbers_of" s_numbers_of A.a_numbers_of A.d_numbers_of
  B_numbers_of : Binds K A.d_numbers_of ["words"] []
  M_numbers_of : mg "numbers_of" = some (.ref A.a_numbers_of)
  F_words_of : Fun K "words_of" "words_of" s_words_of A.a_words_of A.d_words_of
  B_words_of : Binds K A.d_words_of ["numbers"] []
  M_words_of : mg "words_of" = some (.ref A.a_words_of)
  F_rows_of : Fun K "rows_of" "rows_of" s_rows_of A.a_rows_of A.d_rows_of
  B_rows_of : Binds K A.d_rows_of ["text"] []
  M_rows_of : mg "rows_of" = some (.ref A.a_rows_of)
  F_text_of : Fun K "text_of" "text_of" s_text_of A.a_text_of A.d_text_of
  B_text_of : Binds K A.d_text_of ["rows"] []
  M_text_of : mg "text_of" = some (.ref A.a_text_of)
  F_sections_of : Fun K "sections_of" "sections_of" s_sections_of A.a_sections_of A.d_sections_of
  B_sections_of : Binds K A.d_sections_of ["rows", "words"] []
  M_sections_of : mg "sections_of" = some (.ref A.a_sections_of)
  F_whole_sections : Fun K "whole_sections" "whole_sections" s_whole_sections A.a_whole_sections A.d_whole_sections
  B_whole_sections : Binds K A.d_whole_sections ["rows", "words"] []
  M_whole_sections : mg "whole_sections" = some (.ref A.a_whole_sections)
  F_words_behind : Fun K "words_behind" "words_behind" s_words_behind A.a_words_behind A.d_words_behind
  B_words_behind : Binds K A.d_words_behind ["row", "many"] []
  M_words_behind : mg "words_behind" = some (.ref A.a_words_behind)
  F_numbers_behind : Fun K "numbers_behind" "numbers_behind" s_numbers_behind A.a_numbers_behind A.d_numbers_behind
  B_numbers_behind : Binds K A.d_numbers_behind ["row", "many"] []
  M_numbers_behind : mg "numbers_behind" = some (.ref A.a_numbers_behind)
  F_read_paper : Fun K "read_paper" "read_paper" s_read_paper A.a_read_paper A.d_read_paper
  B_read_paper : Binds K A.d_read_paper ["text"] []
  M_read_paper : mg "read_paper" = some (.ref A.a_read_paper)
  F_read_step : Fun K "read_step" "read_step" s_read_step A.a_read_step A.d_read_step
  B_read_step : Binds K A.d_read_step ["row"] []
  M_read_step : mg "read_step" = some (.ref A.a_read_step)
  F_paper_text : Fun K "paper_text" "paper_text" s_paper_text A.a_paper_text A.d_paper_text
  B_paper_text : Binds K A.d_paper_text ["paper"] []
  M_paper_text : mg "paper_text" = some (.ref A.a_paper_text)
  F_L_cell_at : Fun K "_law_cell_at" "_law_cell_at" s_L_cell_at A.a_L_cell_at A.d_L_cell_at
  B_L_cell_at : Binds K A.d_L_cell_at ["_law_script", "_law_k"] []
  M_L_cell_at : mg "_law_cell_at" = some (.ref A.a_L_cell_at)
  F_L_bag : Fun K "_law_bag" "_law_bag" s_L_bag A.a_L_bag A.d_L_bag
  B_L_bag : Binds K A.d_L_bag ["_law_script", "_law_k"] []
  M_L_bag : mg "_law_bag" = some (.ref A.a_L_bag)
  F_L_take : Fun K "_law_take" "_law_take" s_L_take A.a_L_take A.d_L_take
  B_L_take : Binds K A.d_L_take ["_law_bag_here", "_law_many"] []
  M_L_take : mg "_law_take" = some (.ref A.a_L_take)
  F_L_whole : Fun K "_law_whole" "_law_whole" s_L_whole A.a_L_whole A.d_L_whole
  B_L_whole : Binds K A.d_L_whole ["_law_found"] []
  M_L_whole : mg "_law_whole" = some (.ref A.a_L_whole)
  F_L_number : Fun K "_law_number" "_law_number" s_L_number A.a_L_number A.d_L_number
  B_L_number : Binds K A.d_L_number ["_law_bag_here"] []
  M_L_number : mg "_law_number" = some (.ref A.a_L_number)
  F_L_steps : Fun K "_law_steps" "_law_steps" s_L_steps A.a_L_steps A.d_L_steps
  B_L_steps : Binds K A.d_L_steps ["_law_bag_here", "_law_many"] []
  M_L_steps : mg "_law_steps" = some (.ref A.a_L_steps)
  F_L_step_text : Fun K "_law_step_text" "_law_step_text" s_L_step_text A.a_L_step_text A.d_L_step_text
  B_L_step_text : Binds K A.d_L_step_text ["_law_word", "_law_step"] []
  M_L_step_text : mg "_law_step_text" = some (.ref A.a_L_step_text)
  F_L_text : Fun K "_law_text" "_law_text" s_L_text A.a_L_text A.d_L_text
  B_L_text : Binds K A.d_L_text ["_law_paper"] []
  M_L_text : mg "_law_text" = some (.ref A.a_L_text)
  F_L_numbers : Fun K "_law_numbers" "_law_numbers" s_L_numbers A.a_L_numbers A.d_L_numbers
  B_L_numbers : Binds K A.d_L_numbers ["_law_some"] []
  M_L_numbers : mg "_law_numbers" = some (.ref A.a_L_numbers)
  F_L_read : Fun K "_law_read" "_law_read" s_L_read A.a_L_read A.d_L_read
  B_L_read : Binds K A.d_L_read ["_law_paper", "_law_text_here"] []
  M_L_read : mg "_law_read" = some (.ref A.a_L_read)
  F_law : Fun K "law" "law" s_law A.a_law A.d_law
  B_law : Binds K A.d_law ["_law_script"] []
  M_law : mg "law" = some (.ref A.a_law)
section
variable {P : Program} {w : World} {K : PySem.W.Frag} {mg : Str → Option Value} {base : Heap} {A : Ad}
seal L2.PE L2.PA L2.PT L2.PS L2.PSs
theorem ok_is_figures (T : Tx w K mg A) : FnOk P w K mg base CX0 1 A.a_is_figures A.d_is_figures ["word"] sp_is_figures := by
  refine T.F_is_figures.ok sc_is_figures (fun vs H Q E h => ?_) (fun cdv A' outer s H vs Q E hr h => ?_)
  · obtain ⟨n, rfl, hn, q⟩ := h
    rfl
  obtain ⟨n, rfl, hn, q⟩ := h
  obtain ⟨t_MOST_FIGURES, g_MOST_FIGURES⟩ := T.g_MOST_FIGURES
  refine ⟨_, (pss_cons (ps_if (PW.pt (pw_or (pt_not (pt_chain op_le op_le pe_int (pe_callB call_len0 rfl T.len PySem.boot_len (pa_cons (pv 0) pa_nil)) (pe_glob (v := .int 9) rfl g_MOST_FIGURES ⟨_, rfl⟩))) (pw_or1 (pt_not (pt_truth0 (pe_callB call_all0 rfl T.all PyProof.Rows.boot_all (pa_cons (pe_comp [] (fun _ _ h => h) rfl (pi_str (pv 0)) (fun _ _ _ _ => pts_nil) (fun _ _ _ _ => (pe_chain op_le_str op_le_str pe_str (pv 0) pe_str)) rfl (show ∀ j ∈ ([] : List Nat), j < 1 by decide) (show (["sign"] : List Str).Nodup by decide +kernel)) pa_nil)) (fun _ => rfl)))))) (pss_one (ps_ret pe_bl)) pss_nil)
    (pss_one (ps_ret (pe_or (pe_cmpR op_eq (pv 0) pe_str (nomark _)) (pe_one (pe_cmpR op_ne (pe_ix ix_str (pv 0) pe_int (fun _ _ => rfl)) pe_str (nomark _))))))), ?_⟩
  have h1 := nw_pos n
  have h9 := nw_len hn
  refine ⟨_, rfl, _, _, rfl, ⟨small (by (first | lia | omega)), rfl⟩, _, _, rfl, rfl, _, rfl, ?_⟩
  refine ite_t (decide_eq_true (by (first | lia | omega))) ⟨_, _, rfl, rfl, _, rfl, ?_⟩
  refine ite_f (by rw [decide_eq_true (by (first | lia | omega))]; rfl) ?_
  refine ⟨_, rfl, _, rfl, comp_str (fun i ys H' => ys = (List.replicate i true).map V.bl ∧ H = H') ⟨rfl, rfl⟩ ?_ ?_ ?_⟩
  · rintro i ys H' hi ⟨rfl, _⟩
    rw [List.length_map, List.length_replicate]
    have hi' : i < (nw n).length := hi
    exact smallL (by (first | lia | omega))
  · rintro i c ys H' hc ⟨rfl, rfl⟩
    have hd := nw_dig (n := n) (c := c) (by obtain ⟨hi, e⟩ := Array.getElem?_eq_some_iff.mp hc; rw [← e]; exact Array.getElem_mem_toList hi)
    refine ⟨_, rfl, _, _, rfl, rfl, _, rfl, ite_t ?_ ⟨_, _, rfl, rfl, ?_, rfl⟩⟩
    · rw [e48]
      show (!decide ([c] < [48])) = true
      rw [dig_lo hd.1]
      rfl
    · rw [e57]
      show _ ++ [V.bl (!decide ([57] < [c]))] = _
      rw [dig_hi hd.2, List.replicate_succ', List.map_append]
      rfl
  · rintro ys H' ⟨rfl, rfl⟩ p hp
    refine ⟨rfl, p, _, rfl, SqL.of upd_same, _, rfl, ?_⟩
    refine ite_f (by rw [all_true]; rfl) ⟨_, rfl, rfl, _, rfl, ?_⟩
    have s1 := same_new hp (.lst ((List.replicate (nw n).cps.size true).map V.bl))
    by_cases h0 : n = 0
    · subst h0
      refine ite_t (decide_eq_true (congrArg V.str nw_zero)) ?_
      rw [nw_zero]
      exact q _ s1
    · obtain ⟨c, r, e, hc⟩ := nw_head (n := n) (by (first | lia | omega))
      have hne : decide (V.str (nw n) = V.str "0") = false := decide_eq_false fun z => by
        injection z with z
        rw [z] at e
        have e' : [48] = c :: r := e48.symm.trans e
        injection e' with e'
        exact hc e'.symm
      refine ite_f hne ⟨_, rfl, _, _, c, rfl, rfl, small (by (first | lia | omega)), (by rw [e]; exact atI_hd), rfl, ?_⟩
      have hv : (!decide (V.str ⟨#[c]⟩ = V.str "0")) = true := by
        rw [decide_eq_false]
        · rfl
        · intro z
          injection z with z
          have := congrArg (fun s : Str => s.cps.toList) z
          rw [e48] at this
          injection this with this
          exact hc this
      rw [hv]
      exact q _ s1
theorem ok_number_of (T : Tx w K mg A) (G_is_figures : FnOk P w K mg base CX0 1 A.a_is_figures A.d_is_figures ["word"] sp_is_figures) : FnOk P w K mg base CX0 2 A.a_number_of A.d_number_of ["word"] sp_number_of := by
  refine T.F_number_of.ok sc_number_of (fun vs H Q E h => ?_) (fun cdv A' outer s H vs Q E hr h => ?_)
  · obtain ⟨n, rfl, hn, q⟩ := h
    rfl
  obtain ⟨n, rfl, hn, q⟩ := h
  refine ⟨_, (pss_cons (ps_if (pt_not (pt_truth0 (pe_call G_is_figures (hr.mono (by first | decide | (first | lia | omega))) rfl T.M_is_figures T.F_is_figures.kp T.B_is_figures .nil pass0 (pa_cons (pv 0) pa_nil)) (fun _ => rfl))) (pss_one ps_never) pss_nil)
    (pss_one (ps_ret (pe_callTy call_intT rfl T.int PyProof.Rows.boot_int (pa_cons (pv 0) pa_nil))))), ?_⟩
  refine ⟨_, rfl, n, rfl, hn, fun H' s => ⟨_, rfl, ?_⟩⟩
  exact ite_f rfl ⟨_, rfl, _, _, rfl, nw_reads hn, by have := nw_len hn; (first | lia | omega), q _ s⟩
theorem ok_numbers_of (T : Tx w K mg A) (G_number_of : FnOk P w K mg base CX0 2 A.a_number_of A.d_number_of ["word"] sp_number_of) : FnOk P w K mg base CX0 3 A.a_numbers_of A.d_numbers_of ["words"] sp_numbers_of := by
  refine T.F_numbers_of.ok sc_numbers_of (fun vs H Q E h => ?_) (fun cdv A' outer s H vs Q E hr h => ?_)
  · obtain ⟨l, ns, rfl, hl, hn, hz, q⟩ := h
    rfl
  obtain ⟨l, ns, rfl, hl, hn, hz, q⟩ := h
  refine ⟨_, (pss_one (ps_ret (pe_callTy call_tuple_of0 rfl T.tuple PyProof.Rows.boot_tuple (pa_cons (pe_comp [] (fun _ _ h => h) rfl (pi_list0 (pv 0)) (fun _ _ _ _ => pts_nil) (fun _ _ _ _ => (pe_call G_number_of (hr.mono (by first | decide | (first | lia | omega))) rfl T.M_number_of T.F_number_of.kp T.B_number_of .nil pass0 (pa_cons (pv 0) pa_nil))) rfl (show ∀ j ∈ ([] : List Nat), j < 1 by decide) (show (["word"] : List Str).Nodup by decide +kernel)) pa_nil)))), ?_⟩
  refine ⟨_, rfl, l, rfl, ⟨_, SqL.of hl⟩, comp_list (xs := sV (ns.map nw)) (fun i ys H' => ys = nV (ns.take i) ∧ Same H H') ⟨rfl, Same.refl _⟩ ?_ ?_ ?_ ?_⟩
  · rintro i ys H' _ ⟨_, s⟩
    exact SqL.of (s _ _ hl)
  · rintro i ys H' _ ⟨rfl, _⟩
    rw [nV_len, List.length_take]
    exact smallL (by (first | lia | omega))
  · rintro i x ys H' hx ⟨rfl, s⟩
    obtain ⟨n, hi, rfl⟩ : ∃ n, ns[i]? = some n ∧ V.str (nw n) = x := by
      unfold sV at hx
      rw [List.map_map, List.getElem?_map] at hx
      exact Option.map_eq_some_iff.mp hx
    refine ⟨_, rfl, n, rfl, hn n (List.mem_of_getElem? hi), fun H2 s2 => ⟨?_, s.trans s2⟩⟩
    rw [List.take_add_one, hi]
    unfold nV
    rw [List.map_append]
    rfl
  · rintro ys H' ⟨rfl, s⟩ y hy
    rw [sV_len, List.length_map, List.take_length]
    refine ⟨y, _, rfl, .inl ⟨SqL.of upd_same, fun p hp => ?_⟩⟩
    have s2 := s.trans (same_new hy (.lst (nV ns)))
    exact q p _ (s2.free hp) (s2.trans (same_new hp _)) upd_same
theorem ok_words_of (T : Tx w K mg A) : FnOk P w K mg base CX0 1 A.a_words_of A.d_words_of ["numbers"] sp_words_of := by
  refine T.F_words_of.ok sc_words_of (fun vs H Q E h => ?_) (fun cdv A' outer s H vs Q E hr h => ?_)
  · obtain ⟨l, ns, rfl, hl, hn, hz, q⟩ := h
    rfl
  obtain ⟨l, ns, rfl, hl, hn, hz, q⟩ := h
  refine ⟨_, (pss_one (ps_ret (pe_comp [] (fun _ _ h => h) rfl (pi_tup0 (pv 0)) (fun _ _ _ _ => pts_nil) (fun _ _ _ _ => (pe_callTy call_str_int rfl T.str PyProof.Rows.boot_str (pa_cons (pv 0) pa_nil))) rfl (show ∀ j ∈ ([] : List Nat), j < 1 by decide) (show (["number"] : List Str).Nodup by decide +kernel)))), ?_⟩
  refine ⟨_, rfl, l, rfl, ⟨_, SqT.of hl⟩, comp_tup_map (xs := nV ns) (fun v => match v with | .int i => .str (Str.ofString (toString i)) | v => v) (SqT.of hl) (by rw [nV_len]; (first | lia | omega)) (fun x hx N hN => ?_) ?_⟩
  · obtain ⟨v, hv, rfl⟩ := List.mem_map.mp hx
    refine ⟨_, rfl, _, rfl, ?_, hN⟩
    have := hn v hv
    exact log2_lt_of (k := 1920) (Nat.lt_of_lt_of_le this (by decide)) (by decide)
  · intro p hp
    have e : (nV ns).map (fun v => match v with | .int i => V.str (Str.ofString (toString i)) | v => v) = sV (ns.map nw) := by
      unfold nV sV
      rw [List.map_map, List.map_map]
      rfl
    rw [e]
    exact q p hp
theorem ok_rows_of (T : Tx w K mg A) : FnOk P w K mg base CX0 1 A.a_rows_of A.d_rows_of ["text"] sp_rows_of := by
  refine T.F_rows_of.ok sc_rows_of (fun vs H Q E h => ?_) (fun cdv A' outer s H vs Q E hr h => ?_)
  · obtain ⟨rows, rfl, hne, ok, q⟩ := h
    rfl
  obtain ⟨rows, rfl, hne, ok, q⟩ := h
  refine ⟨_, (pss_cons (ps_if (pt_not (pt_truth0 (pe_callB (call_isinst (T := "str")) rfl T.isinstance PyProof.Rows.boot_isinstance (pa_cons (pv 0) (pa_cons (pe_bltn (v := .ty "str") rfl T.str PyProof.Rows.boot_str rfl) pa_nil))) (fun _ => rfl))) (pss_one ps_never) pss_nil)
    (pss_cons (ps_comp [] sc_rows_of.nd (i := 1) rfl (Or.inl rfl) (fun _ _ h => h) rfl (pi_list0 (pe_bmN PySem.F.plainAttrs_str PySem.F.slot_str_split PySem.F.type_str_split mt_split (pv 0) (pa_cons pe_str pa_nil))) (fun _ _ _ _ => pts_nil) (fun _ _ _ _ => (pe_bmN PySem.F.plainAttrs_str PySem.F.slot_str_split PySem.F.type_str_split mt_split (pv 0) (pa_cons pe_str pa_nil))) rfl (show ∀ j ∈ ([] : List Nat), j < 3 by decide) (show (["row"] : List Str).Nodup by decide +kernel) (by with_unfolding_all rfl))
    (pss_cons (ps_for PassesOwn.never rfl (pi_list0 (pv 1)) (pg_name (i := 2) sc_rows_of.nd rfl (Or.inl rfl))
        (pss_one (ps_if (pt_cmpR op_in_seq0 pe_str (pv 2) rfl) (pss_one ps_never) pss_nil)))
    (pss_one (ps_ret (pv 1)))))), ?_⟩
  have hl := txt_len ok.gw ok.len ok.many
  refine ⟨_, rfl, _, _, true, rfl, TyOf.str _, rfl, _, rfl, ?_⟩
  refine ite_f rfl ?_
  refine ⟨_, rfl, rfl, _, _, rfl, rfl, rfl, Nat.le_trans (show _ ≤ 100000 by (first | lia | omega)) (by decide), fun l hl0 => ?_⟩
  have s1 := same_new hl0 (.lst (((Txt.split (txt rows) (Str.ofString "\n"))).map V.str))
  rw [e10, txt_split hne ok.gw] at s1 ⊢
  have f1 := upd_same (H := H) (a := l) (o := .lst ((rows.map rowT).map V.str))
  generalize upd H l (.lst ((rows.map rowT).map V.str)) = H1 at s1 f1 ⊢
  refine ⟨l, rfl, ⟨_, SqL.of f1⟩, comp_list (xs := (rows.map rowT).map V.str) (fun i ys H' => ∃ rs, ys = rs.map V.ref ∧ Same H1 H' ∧ Paired (fun r ws => H' r = some (.lst (sV ws))) rs (rows.take i)) ⟨[], rfl, Same.refl _, .nil⟩ ?_ ?_ ?_ ?_⟩
  · rintro i ys H' _ ⟨_, _, s, _⟩
    exact SqL.of (s _ _ f1)
  · rintro i ys H' _ ⟨rs, rfl, _, pr⟩
    have := Paired.length pr
    rw [List.length_take] at this
    have := ok.many
    rw [List.length_map]
    exact smallL (by (first | lia | omega))
  · rintro i x ys H' hx ⟨rs, rfl, s, pr⟩
    obtain ⟨ws, hi, rfl⟩ : ∃ ws, rows[i]? = some ws ∧ V.str (rowT ws) = x := by
      rw [List.map_map, List.getElem?_map] at hx
      exact Option.map_eq_some_iff.mp hx
    have hm := List.mem_of_getElem? hi
    have hrl := row_len (ok.gw ws hm) (ok.len ws hm)
    refine ⟨_, rfl, rfl, _, _, rfl, rfl, rfl, Nat.le_trans (show _ ≤ 100000 by (first | lia | omega)) (by decide), fun p hp => ?_⟩
    rw [e32, row_split (ok.full ws hm) (ok.gw ws hm)]
    have s2 := same_new hp (.lst (sV ws))
    refine ⟨rs ++ [p], by rw [List.map_append]; rfl, s.trans s2, ?_⟩
    rw [List.take_add_one, hi]
    exact pairedSnoc (R := fun r (v : List Str) => (upd H' p (.lst (sV ws))) r = some (.lst (sV v))) upd_same (pairedMono (fun r v z => s2 _ _ z) pr)
  · rintro ys H' ⟨rs, rfl, s, pr⟩ y hy
    rw [List.length_map, List.length_map, List.take_length] at pr
    have s2 := s.trans (same_new hy (.lst (rs.map V.ref)))
    have T : TRw (upd H' y (.lst (rs.map V.ref))) y rs rows := ⟨upd_same, pairedMono (fun r v z => (same_new hy _) _ _ z) pr⟩
    have hyH : H y = none := s1.free (s.free hy)
    show tSeq _ _ _ _ (upd H' y (.lst (rs.map V.ref)))
    generalize upd H' y (.lst (rs.map V.ref)) = H3 at T s2 ⊢
    refine ⟨_, rfl, y, rfl, ⟨_, SqL.of T.1⟩, for_list (xs := rs.map V.ref) (fun i σ H' => ∃ x, σ = [some (.str (txt rows)), some (.ref y), x] ∧ H3 = H') ⟨_, rfl, rfl⟩ ?_ ?_ ?_⟩
    · rintro i σ H' _ ⟨x, _, rfl⟩
      exact SqL.of T.1
    · rintro i x σ H' hx ⟨x3, rfl, rfl⟩
      obtain ⟨r, hr1, rfl⟩ : ∃ r, rs[i]? = some r ∧ V.ref r = x := by
        rw [List.getElem?_map] at hx
        exact Option.map_eq_some_iff.mp hx
      obtain ⟨ws, h1, h2⟩ := pairedGet T.2 hr1
      refine ⟨_, rfl, r, _, rfl, .inl (SqL.of h2), rfl, flatS ws, _, rfl, ?_⟩
      exact ite_f (noEmpty (ok.gw ws (List.mem_of_getElem? h1))) ⟨_, rfl, rfl⟩
    · rintro σ H4 ⟨x3, rfl, rfl⟩
      exact ⟨_, rfl, q y rs _ hyH (s1.trans s2) T⟩
theorem ok_text_of (T : Tx w K mg A) : FnOk P w K mg base CX0 1 A.a_text_of A.d_text_of ["rows"] sp_text_of := by
  refine T.F_text_of.ok sc_text_of (fun vs H Q E h => ?_) (fun cdv A' outer s H vs Q E hr h => ?_)
  · obtain ⟨p, rs, rows, rfl, T, ok, q⟩ := h
    rfl
  obtain ⟨p, rs, rows, rfl, T, ok, q⟩ := h
  refine ⟨_, (pss_one (ps_ret (pe_bmN PySem.F.plainAttrs_str PySem.F.slot_str_join PySem.F.type_str_join mt_join pe_str (pa_cons (pe_comp [] (fun _ _ h => h) rfl (pi_list0 (pv 0)) (fun _ _ _ _ => pts_nil) (fun _ _ _ _ => (pe_bmN PySem.F.plainAttrs_str PySem.F.slot_str_join PySem.F.type_str_join (mt_joinK (K := K) rfl) pe_str (pa_cons (pv 0) pa_nil))) rfl (show ∀ j ∈ ([] : List Nat), j < 1 by decide) (show (["row"] : List Str).Nodup by decide +kernel)) pa_nil)))), ?_⟩
  refine ⟨rfl, _, rfl, p, rfl, ⟨_, SqL.of T.1⟩, comp_paired (f := fun ws => V.str (rowT ws)) (SqL.of T.1) T.2 (by have := Paired.length T.2; have := ok.many; (first | lia | omega)) (fun r ws h hm N hN => ?_) fun y hy => ?_⟩
  · refine ⟨rfl, _, rfl, _, r, ws, rfl, rfl, SqL.of h, ?_, ?_⟩
    · have h1 := StrLaws.sumLen_le (B := 20) ws fun w hw => (ok.gw ws hm w hw).2.2.2
      have h2 := ok.len ws hm
      rw [e32]
      show _ + ws.length * 1 ≤ _
      (first | lia | omega)
    · unfold rowT at hN
      rw [show Txt.join (Str.ofString " ") ws = Str.join ⟨#[32]⟩ ws from by rw [e32]; exact StrLaws.glued_eq_join _ _]
      exact hN
  · have e : rows.map (fun ws => V.str (rowT ws)) = (rows.map rowT).map V.str := by rw [List.map_map]; rfl
    rw [e]
    refine ⟨_, y, rows.map rowT, rfl, rfl, SqL.of upd_same, ?_, ?_⟩
    · have h1 := StrLaws.sumLen_le (B := 420) (rows.map rowT) fun t ht => by obtain ⟨ws, h1, rfl⟩ := List.mem_map.mp ht; exact row_len (ok.gw ws h1) (ok.len ws h1)
      have h2 := ok.many
      rw [List.length_map] at h1 ⊢
      rw [e10]
      show _ + rows.length * 1 ≤ _
      (first | lia | omega)
    · rw [show Txt.join (Str.ofString "\n") (rows.map rowT) = txt rows from by rw [e10]; exact StrLaws.glued_eq_join _ _]
      exact q _ (same_new hy _)
theorem ok_sections_of (T : Tx w K mg A) : FnOk P w K mg base CX0 1 A.a_sections_of A.d_sections_of ["rows", "words"] sp_sections_of := by
  refine T.F_sections_of.ok sc_sections_of (fun vs H Q E h => ?_) (fun cdv A' outer s H vs Q E hr h => ?_)
  · obtain ⟨p, t, rs, ws, secs, rfl, hp, ht, S, hrs, hws, q⟩ := h
    rfl
  obtain ⟨p, t, rs, ws, secs, rfl, hp, ht, S, hrs, hws, q⟩ := h
  refine ⟨_, (pss_cons (ps_set (i := 2) sc_sections_of.nd rfl (Or.inl rfl) (pe_lst pa_nil))
    (pss_cons (ps_set (i := 3) sc_sections_of.nd rfl (Or.inl rfl) pe_int)
    (pss_cons (ps_for PassesOwn.never rfl (pi_tup0 (pv 1)) (pg_name (i := 4) sc_sections_of.nd rfl (Or.inl rfl))
        (pss_cons (ps_set (i := 5) sc_sections_of.nd rfl (Or.inl rfl) (pv 3))
    (pss_cons (ps_while PassesOwn.never (PW.pt (pw_and (pt_cmpR op_lt (pv 3) (pe_callB call_len0 rfl T.len PySem.boot_len (pa_cons (pv 0) pa_nil)) (nomark _)) (pw_and1 (pt_cmpR op_eq (pe_ix ix_list0 (pe_ix ix_list0 (pv 0) (pv 3) (fun _ _ => rfl)) pe_int (fun _ _ => rfl)) (pv 4) (nomark _)))))
        (pss_one (ps_set (i := 3) sc_sections_of.nd rfl (Or.inl rfl) (pe_op op_add (pv 3) pe_int))))
    (pss_one (ps_expr (pe_bmN PySem.F.plainAttrs_list PySem.F.slot_list_append PySem.F.type_list_append mt_append (pv 2) (pa_cons (pe_slice sl_list0 (pv 0) (po_some (pv 5)) (po_some (pv 3))) pa_nil)))))))
    (pss_one (ps_ret (pe_op op_cat (pv 2) (pe_lst (pa_cons (pe_slice sl_list0 (pv 0) (po_some (pv 3)) po_none) pa_nil)))))))), ?_⟩
  refine ⟨(by show 0 ≤ sizeLine; decide), fun z hz => ?_⟩
  have s0 := same_new hz (.lst [])
  refine ⟨_, rfl, t, rfl, ⟨_, SqT.of (s0 _ _ ht)⟩, for_tup (xs := sV ws) (fun i σ H' => ∃ (x y : Option V) (ps : List Addr), σ = [some (.ref p), some (.ref t), some (.ref z), some (.int (((secs.take i).flatten.length : Nat) : Int)), x, y] ∧ Same H H' ∧ H' z = some (.lst (ps.map V.ref)) ∧ Paired (fun a (sec : List Addr) => a ≠ z ∧ H' a = some (.lst (sec.map V.ref))) ps (secs.take i)) ⟨_, _, [], rfl, s0, upd_same, .nil⟩ ?_ ?_ ?_⟩
  · rintro i σ H' _ ⟨_, _, _, _, s, _⟩
    exact SqT.of (s _ _ ht)
  · rintro i v σ H' hv ⟨x, y, ps, rfl, s, fz, pr⟩
    obtain ⟨w, hw, rfl⟩ : ∃ w, ws[i]? = some w ∧ V.str w = v := by
      unfold sV at hv
      rw [List.getElem?_map] at hv
      exact Option.map_eq_some_iff.mp hv
    have hi : i < secs.length := by rw [S.len]; exact (List.getElem?_eq_some_iff.mp hw).1
    have hsec : secs[i]? = some secs[i] := List.getElem?_eq_getElem hi
    generalize secs[i] = sec at hsec
    have S' := S.same s
    have hfl := flat_at hsec
    rw [S.flat] at hfl
    have htk := flat_take hsec
    have hlen : rs.length = (secs.take i).flatten.length + sec.length + (secs.drop (i + 1)).flatten.length := by rw [hfl, List.length_append, List.length_append]
    generalize hn : (secs.take i).flatten.length = n at hlen ⊢
    have hp' := s _ _ hp
    refine ⟨_, rfl, ?_⟩
    refine while_by (fun σ H2 => ∃ k : Nat, σ = [some (.ref p), some (.ref t), some (.ref z), some (.int ((n + k : Nat) : Int)), some (.str w), some (.int (n : Int))] ∧ H' = H2 ∧ k ≤ sec.length) (fun σ H2 => match σ with | [_, _, _, some (.int j), _, _] => 300 - j.toNat | _ => 0) ⟨0, rfl, rfl, Nat.zero_le _⟩ ?_ ?_
    · rintro σ H2 ⟨k, rfl, rfl, hk⟩
      refine ⟨_, rfl, _, rfl, _, _, rfl, .inl ⟨_, SqL.of hp', rfl⟩, _, _, rfl, rfl, _, rfl, ?_⟩
      by_cases c1 : n + k < rs.length
      · have hr1 : rs[n + k]? = some rs[n + k] := List.getElem?_eq_getElem c1
        have hat : atI (rs.map V.ref) ((n + k : Nat) : Int) = some (.ref rs[n + k]) := atI_nat (by rw [List.getElem?_map, hr1]; rfl)
        refine ite_t (decide_eq_true (by rw [List.length_map]; (first | lia | omega))) ?_
        by_cases c2 : k < sec.length
        · have hmem : rs[n + k] ∈ sec := by
            have e : rs[n + k]? = sec[k]? := by
              rw [hfl, List.append_assoc, List.getElem?_append_right (by (first | lia | omega)), hn, List.getElem?_append_left (by (first | lia | omega))]
              congr 1
              (first | lia | omega)
            rw [hr1] at e
            exact List.mem_of_getElem? e.symm
          obtain ⟨tl, htl⟩ := S'.head i sec w hsec hw _ hmem
          refine ⟨_, rfl, _, rfl, p, _, _, _, rfl, rfl, SqL.of hp', hat, _, _, _, _, rfl, rfl, SqL.of htl, (show atI (V.str w :: tl) 0 = some (V.str w) from atI_hd), _, rfl, rfl, _, rfl, ?_⟩
          refine ite_t (decide_eq_true rfl) ⟨_, rfl, _, _, rfl, rfl, ⟨k + 1, ?_, rfl, c2⟩, ?_⟩
          · dsimp only
            rw [show ((n + k : Nat) : Int) + 1 = ((n + (k + 1) : Nat) : Int) by (first | lia | omega)]
            rfl
          · show 300 - (((n + k : Nat) : Int) + 1).toNat < 300 - ((n + k : Nat) : Int).toNat
            (first | lia | omega)
        · have hmem : rs[n + k] ∈ (secs.drop (i + 1)).flatten := by
            have e : rs[n + k]? = ((secs.drop (i + 1)).flatten)[n + k - (n + sec.length)]? := by
              rw [hfl, List.getElem?_append_right (by rw [List.length_append]; (first | lia | omega)), List.length_append, hn]
            rw [hr1] at e
            exact List.mem_of_getElem? e.symm
          obtain ⟨u, tl, hne, htl⟩ := S'.behind hw hmem
          refine ⟨_, rfl, _, rfl, p, _, _, _, rfl, rfl, SqL.of hp', hat, _, _, _, _, rfl, rfl, SqL.of htl, (show atI (V.str u :: tl) 0 = some (V.str u) from atI_hd), _, rfl, rfl, _, rfl, ?_⟩
          refine ite_f (decide_eq_false fun z => hne (by injection z)) ?_
          have hk' : k = sec.length := by (first | lia | omega)
          subst hk'
          refine ⟨_, rfl, .inl ⟨rfl, _, SqL.of fz⟩, _, rfl, _, rfl, _, rfl, _, rfl, _, rfl, p, _, rfl, SqL.of hp', fun a ha => ?_⟩
          have ecut : cutV (rs.map V.ref) (some (n : Int)) (some ((n + sec.length : Nat) : Int)) = sec.map V.ref := by
            rw [cut_mid (by (first | lia | omega)) (by rw [List.length_map]; (first | lia | omega)), ← List.map_drop, ← List.map_take]
            congr 1
            rw [hfl, List.append_assoc, ← hn, List.drop_left, show (secs.take i).flatten.length + sec.length - (secs.take i).flatten.length = sec.length by (first | lia | omega), List.take_left]
          rw [ecut]
          have hza : z ≠ a := fun e => by rw [← e, fz] at ha; cases ha
          have s2 := same_new ha (.lst (sec.map V.ref))
          refine ⟨z, _, _, rfl, rfl, s2 _ _ fz, smallL (by rw [List.length_map, Paired.length pr, List.length_take]; have := S.len; (first | lia | omega)), ?_⟩
          have s3 : Same H (upd (upd H' a (.lst (sec.map V.ref))) z (.lst (ps.map V.ref ++ [.ref a]))) := sameUpd (s.trans s2) hz _
          refine ⟨some (.str w), some (.int (n : Int)), ps ++ [a], ?_, s3, by rw [upd_same, List.map_append]; rfl, ?_⟩
          · rw [htk, List.length_append, hn]
          · rw [List.take_add_one, hsec]
            refine pairedSnoc ⟨Ne.symm hza, by rw [upd_ne (Ne.symm hza), upd_same]⟩ (pairedMono (fun r v y => ⟨y.1, by rw [upd_ne y.1]; exact s2 _ _ y.2⟩) pr)
      · refine ite_f (decide_eq_false (by rw [List.length_map]; (first | lia | omega))) ?_
        have hk' : k = sec.length := by (first | lia | omega)
        subst hk'
        refine ⟨_, rfl, .inl ⟨rfl, _, SqL.of fz⟩, _, rfl, _, rfl, _, rfl, _, rfl, _, rfl, p, _, rfl, SqL.of hp', fun a ha => ?_⟩
        have ecut : cutV (rs.map V.ref) (some (n : Int)) (some ((n + sec.length : Nat) : Int)) = sec.map V.ref := by
          rw [cut_mid (by (first | lia | omega)) (by rw [List.length_map]; (first | lia | omega)), ← List.map_drop, ← List.map_take]
          congr 1
          rw [hfl, List.append_assoc, ← hn, List.drop_left, show (secs.take i).flatten.length + sec.length - (secs.take i).flatten.length = sec.length by (first | lia | omega), List.take_left]
        rw [ecut]
        have hza : z ≠ a := fun e => by rw [← e, fz] at ha; cases ha
        have s2 := same_new ha (.lst (sec.map V.ref))
        refine ⟨z, _, _, rfl, rfl, s2 _ _ fz, smallL (by rw [List.length_map, Paired.length pr, List.length_take]; have := S.len; (first | lia | omega)), ?_⟩
        have s3 : Same H (upd (upd H' a (.lst (sec.map V.ref))) z (.lst (ps.map V.ref ++ [.ref a]))) := sameUpd (s.trans s2) hz _
        refine ⟨some (.str w), some (.int (n : Int)), ps ++ [a], ?_, s3, by rw [upd_same, List.map_append]; rfl, ?_⟩
        · rw [htk, List.length_append, hn]
        · rw [List.take_add_one, hsec]
          refine pairedSnoc ⟨Ne.symm hza, by rw [upd_ne (Ne.symm hza), upd_same]⟩ (pairedMono (fun r v y => ⟨y.1, by rw [upd_ne y.1]; exact s2 _ _ y.2⟩) pr)
    · rintro σ H2 Q1 Q2 m ⟨x1, e1, x2, e2, x3, n3, e3, l3, i, j, e4, e5, k, e6, c⟩
      refine ⟨x1, e1, x2, e2, x3, n3, e3, l3, i, j, e4, e5, k, e6, ?_⟩
      cases k with
      | true =>
        rw [if_pos rfl] at c ⊢
        obtain ⟨y1, f1, y2, f2, p1, xs1, i1, z1, f3, f4, sq1, f5, p2, xs2, i2, z2, f6, f7, sq2, f8, y3, f9, sc, b, f10, c⟩ := c
        exact ⟨y1, f1, y2, f2, p1, xs1, i1, z1, f3, f4, sq1, f5, p2, xs2, i2, z2, f6, f7, sq2, f8, y3, f9, sc, b, f10, m _ _ c⟩
      | false =>
        rw [if_neg Bool.false_ne_true] at c ⊢
        exact m _ _ c
  · rintro σ H' ⟨x, y, ps, rfl, s, fz, pr⟩
    rw [sV_len, ← S.len, List.take_length] at pr
    rw [sV_len, ← S.len, List.take_length, S.flat]
    refine ⟨_, rfl, _, rfl, _, rfl, _, rfl, p, _, rfl, SqL.of (s _ _ hp), fun e he => ?_⟩
    have ec : cutV (rs.map V.ref) (some (rs.length : Nat)) none = [] := by
      have h := cut_end (xs := rs.map V.ref)
      rw [List.length_map] at h
      exact h
    rw [ec]
    have s1 := same_new he (.lst [])
    refine ⟨(by show 1 ≤ sizeLine; decide), fun a ha => ?_⟩
    have s2 := s1.trans (same_new ha (.lst [.ref e]))
    refine ⟨z, a, _, _, rfl, rfl, s2 _ _ fz, upd_same, small (by rw [List.length_map, Paired.length pr]; have := S.len; simp; (first | lia | omega)), fun l hl => ?_⟩
    have s3 := s2.trans (same_new hl (.lst (ps.map V.ref ++ [.ref e])))
    refine q l ps e _ ((s.trans s2).free hl) (s.trans s3) (by rw [upd_same, List.map_append]; rfl) (pairedMono (fun r v y => s3 _ _ y.2) pr) ?_
    exact ((same_new ha (.lst [.ref e])).trans (same_new hl _)) _ _ upd_same
theorem ok_whole_sections (T : Tx w K mg A) (G_sections_of : FnOk P w K mg base CX0 1 A.a_sections_of A.d_sections_of ["rows", "words"] sp_sections_of) : FnOk P w K mg base CX0 2 A.a_whole_sections A.d_whole_sections ["rows", "words"] sp_whole_sections := by
  refine T.F_whole_sections.ok sc_whole_sections (fun vs H Q E h => ?_) (fun cdv A' outer s H vs Q E hr h => ?_)
  · obtain ⟨p, t, rs, ws, secs, rfl, hp, ht, S, hrs, hws, q⟩ := h
    rfl
  obtain ⟨p, t, rs, ws, secs, rfl, hp, ht, S, hrs, hws, q⟩ := h
  refine ⟨_, (pss_cons (ps_set (i := 2) sc_whole_sections.nd rfl (Or.inl rfl) (pe_call G_sections_of (hr.mono (by first | decide | (first | lia | omega))) rfl T.M_sections_of T.F_sections_of.kp T.B_sections_of .nil pass0 (pa_cons (pv 0) (pa_cons (pv 1) pa_nil))))
    (pss_cons (ps_if (pt_cmpR op_gt (pe_callB call_len0 rfl T.len PySem.boot_len (pa_cons (pe_ix ix_list0 (pv 2) (pe_un un_neg pe_int) (fun _ _ => rfl)) pa_nil)) pe_int (nomark _)) (pss_one ps_never) pss_nil)
    (pss_one (ps_ret (pe_slice sl_list0 (pv 2) po_none (po_some (pe_un un_neg pe_int))))))), ?_⟩
  refine ⟨_, rfl, _, rfl, p, t, rs, ws, secs, rfl, hp, ht, S, hrs, hws, fun l ps e H' hl s fl pr fe => ?_⟩
  have hlast : atI ((ps ++ [e]).map V.ref) (-1) = some (.ref e) := by rw [List.map_append]; exact atI_last _ _
  refine ⟨_, rfl, _, rfl, l, _, _, _, rfl, rfl, SqL.of fl, hlast, _, _, rfl, .inl ⟨_, SqL.of fe, rfl⟩, _, _, rfl, rfl, _, rfl, ?_⟩
  refine ite_f rfl ⟨_, rfl, _, rfl, _, rfl, l, _, rfl, SqL.of fl, fun a ha => ?_⟩
  have ec : cutV ((ps ++ [e]).map V.ref) none (some (-1)) = ps.map V.ref := by rw [List.map_append]; exact cut_last _ _
  rw [ec]
  have s2 := same_new ha (.lst (ps.map V.ref))
  exact q a ps _ (s.free ha) (s.trans s2) upd_same (pairedMono (fun r v y => s2 _ _ y) pr)
theorem ok_words_behind (T : Tx w K mg A) : FnOk P w K mg base CX0 1 A.a_words_behind A.d_words_behind ["row", "many"] sp_words_behind := by
  refine T.F_words_behind.ok sc_words_behind (fun vs H Q E h => ?_) (fun cdv A' outer s H vs Q E hr h => ?_)
  · obtain ⟨r, w, ws, rfl, hr0, q⟩ := h
    rfl
  obtain ⟨r, w, ws, rfl, hr0, q⟩ := h
  refine ⟨_, (pss_cons (ps_if (pt_cmpR op_ne (pe_callB call_len0 rfl T.len PySem.boot_len (pa_cons (pv 0) pa_nil)) (pe_op op_add pe_int (pv 1)) (nomark _)) (pss_one ps_never) pss_nil)
    (pss_one (ps_ret (pe_slice sl_list0 (pv 0) (po_some pe_int) po_none)))), ?_⟩
  refine ⟨_, rfl, _, _, rfl, .inl ⟨_, SqL.of hr0, rfl⟩, _, rfl, _, _, rfl, rfl, rfl, _, rfl, ?_⟩
  refine ite_f ?_ ?_
  · rw [sV_len, List.length_cons, decide_eq_true (congrArg V.int (by (first | lia | omega)))]
    rfl
  refine ⟨_, rfl, _, rfl, r, _, rfl, SqL.of hr0, fun p hp => ?_⟩
  have e : cutV (sV (w :: ws)) (some (1 : Int)) none = sV ws := cut_from (n := 1) (by rw [sV_len, List.length_cons]; (first | lia | omega))
  rw [e]
  exact q p hp
theorem ok_numbers_behind (T : Tx w K mg A) (G_numbers_of : FnOk P w K mg base CX0 3 A.a_numbers_of A.d_numbers_of ["words"] sp_numbers_of) (G_words_behind : FnOk P w K mg base CX0 1 A.a_words_behind A.d_words_behind ["row", "many"] sp_words_behind) : FnOk P w K mg base CX0 4 A.a_numbers_behind A.d_numbers_behind ["row", "many"] sp_numbers_behind := by
  refine T.F_numbers_behind.ok sc_numbers_behind (fun vs H Q E h => ?_) (fun cdv A' outer s H vs Q E hr h => ?_)
  · obtain ⟨r, w, ns, rfl, hr0, hn, hz, q⟩ := h
    rfl
  obtain ⟨r, w, ns, rfl, hr0, hn, hz, q⟩ := h
  refine ⟨_, (pss_one (ps_ret (pe_call G_numbers_of (hr.mono (by first | decide | (first | lia | omega))) rfl T.M_numbers_of T.F_numbers_of.kp T.B_numbers_of .nil pass0 (pa_cons (pe_call G_words_behind (hr.mono (by first | decide | (first | lia | omega))) rfl T.M_words_behind T.F_words_behind.kp T.B_words_behind .nil pass0 (pa_cons (pv 0) (pa_cons (pv 1) pa_nil))) pa_nil)))), ?_⟩
  refine ⟨_, rfl, _, rfl, r, w, ns.map nw, (by simp), hr0, fun p hp => ?_⟩
  have s1 := same_new hp (.lst (sV (ns.map nw)))
  exact ⟨p, ns, rfl, upd_same, hn, hz, fun t H' ht s e => q t H' (s1.free ht) (s1.trans s) e⟩
theorem ok_read_step (T : Tx w K mg A) (G_number_of : FnOk P w K mg base CX0 2 A.a_number_of A.d_number_of ["word"] sp_number_of) (G_numbers_of : FnOk P w K mg base CX0 3 A.a_numbers_of A.d_numbers_of ["words"] sp_numbers_of) : FnOk P w K mg base CX0 4 A.a_read_step A.d_read_step ["row"] sp_read_step := by
  refine T.F_read_step.ok sc_read_step (fun vs H Q E h => ?_) (fun cdv A' outer s H vs Q E hr h => ?_)
  · obtain ⟨r, w, S, rfl, hr0, ok, q⟩ := h
    rfl
  obtain ⟨r, w, S, rfl, hr0, ok, q⟩ := h
  refine ⟨_, (pss_cons (ps_if (PW.pt (pw_or (pt_cmpR op_lt (pe_callB call_len0 rfl T.len PySem.boot_len (pa_cons (pv 0) pa_nil)) pe_int (nomark _)) (pw_or (pt_cmpR op_notIn_seq0 (pe_ix ix_list0 (pv 0) pe_int (fun _ _ => rfl)) (pe_tup (pa_cons pe_str (pa_cons pe_str pa_nil))) rfl) (pw_or1 (pt_cmpR op_ne (pe_ix ix_list0 (pv 0) pe_int (fun _ _ => rfl)) pe_str (nomark _)))))) (pss_one ps_never) pss_nil)
    (pss_one (ps_ret (pe_tup (pa_cons (pe_ix ix_list0 (pv 0) pe_int (fun _ _ => rfl)) (pa_cons (pe_call G_number_of (hr.mono (by first | decide | (first | lia | omega))) rfl T.M_number_of T.F_number_of.kp T.B_number_of .nil pass0 (pa_cons (pe_ix ix_list0 (pv 0) pe_int (fun _ _ => rfl)) pa_nil)) (pa_cons (pe_call G_number_of (hr.mono (by first | decide | (first | lia | omega))) rfl T.M_number_of T.F_number_of.kp T.B_number_of .nil pass0 (pa_cons (pe_ix ix_list0 (pv 0) pe_int (fun _ _ => rfl)) pa_nil)) (pa_cons (pe_call G_numbers_of (hr.mono (by first | decide | (first | lia | omega))) rfl T.M_numbers_of T.F_numbers_of.kp T.B_numbers_of .nil pass0 (pa_cons (pe_slice sl_list0 (pv 0) (po_some pe_int) po_none) pa_nil)) pa_nil)))))))), ?_⟩
  have hlen : (sV (srow w S)).length = 5 + S.ls.length := by rw [sV_len]; unfold srow; simp only [List.length_cons, List.length_map]; (first | lia | omega)
  have a1 : atI (sV (srow w S)) 1 = some (.str S.wd) := atI_nat (j := 1) rfl
  have a2 : atI (sV (srow w S)) 2 = some (.str (nw S.a)) := atI_nat (j := 2) rfl
  have a3 : atI (sV (srow w S)) 3 = some (.str (nw S.b)) := atI_nat (j := 3) rfl
  have a4 : atI (sV (srow w S)) 4 = some (.str ":") := atI_nat (j := 4) rfl
  have ec : cutV (sV (srow w S)) (some (5 : Int)) none = sV (S.ls.map nw) := cut_from (n := 5) (by (first | lia | omega))
  refine ⟨_, rfl, _, _, rfl, .inl ⟨_, SqL.of hr0, rfl⟩, _, _, rfl, rfl, _, rfl, ?_⟩
  refine ite_f (decide_eq_false (by rw [hlen]; (first | lia | omega))) ⟨_, rfl, r, _, _, _, rfl, rfl, SqL.of hr0, a1, (by show 2 ≤ sizeLine; decide), fun p hp => ⟨p, _, rfl, .inr (SqT.of upd_same), rfl, rfl, _, rfl, ?_⟩⟩
  have s0 := same_new hp (.tup [.str "stands", .str "row"])
  refine ite_f ?_ ⟨_, rfl, r, _, _, _, rfl, rfl, SqL.of (s0 _ _ hr0), a4, rfl, _, rfl, ?_⟩
  · rcases ok.wd with e | e <;> rw [e] <;> decide
  refine ite_f (by rw [decide_eq_true rfl]; rfl) ?_
  generalize upd H p (.tup [.str "stands", .str "row"]) = H0 at s0 ⊢
  refine ⟨_, rfl, r, _, _, _, rfl, rfl, SqL.of (s0 _ _ hr0), a1, _, rfl, r, _, _, _, rfl, rfl, SqL.of (s0 _ _ hr0), a2, S.a, rfl, ok.a, fun H1 s1 => ?_⟩
  have S1 := s0.trans s1
  refine ⟨_, rfl, r, _, _, _, rfl, rfl, SqL.of (S1 _ _ hr0), a3, S.b, rfl, ok.b, fun H2 s2 => ?_⟩
  have S2 := S1.trans s2
  refine ⟨_, rfl, _, rfl, r, _, rfl, SqL.of (S2 _ _ hr0), fun p5 hp5 => ?_⟩
  rw [ec]
  have s3 := same_new hp5 (.lst (sV (S.ls.map nw)))
  refine ⟨p5, S.ls, rfl, upd_same, ok.ls, by have := ok.len; (first | lia | omega), fun lf H4 _ s4 e4 => ⟨(by show 4 ≤ sizeLine; decide), fun u hu => ?_⟩⟩
  have S4 := (S2.trans s3).trans s4
  have su := same_new hu (.tup [.str S.wd, .int (S.a : Int), .int (S.b : Int), .ref lf])
  exact q u _ (S4.free hu) (S4.trans su) ⟨lf, upd_same, su _ _ e4⟩
theorem ok_read_paper (T : Tx w K mg A) (G_whole_sections : FnOk P w K mg base CX0 2 A.a_whole_sections A.d_whole_sections ["rows", "words"] sp_whole_sections) (G_rows_of : FnOk P w K mg base CX0 1 A.a_rows_of A.d_rows_of ["text"] sp_rows_of) (G_numbers_behind : FnOk P w K mg base CX0 4 A.a_numbers_behind A.d_numbers_behind ["row", "many"] sp_numbers_behind) (G_read_step : FnOk P w K mg base CX0 4 A.a_read_step A.d_read_step ["row"] sp_read_step) : FnOk P w K mg base CX0 5 A.a_read_paper A.d_read_paper ["text"] sp_read_paper := by
  refine T.F_read_paper.ok sc_read_paper (fun vs H Q E h => ?_) (fun cdv A' outer s H vs Q E hr h => ?_)
  · obtain ⟨P, rfl, ok, q⟩ := h
    rfl
  obtain ⟨P, rfl, ok, q⟩ := h
  refine ⟨_, (pss_cons (ps_set (i := 1) sc_read_paper.nd rfl (Or.inl rfl) (pe_ifExp (pt_cmpR op_eq (pv 0) pe_str (nomark _)) (pe_lst pa_nil) (pe_call G_rows_of (hr.mono (by first | decide | (first | lia | omega))) rfl T.M_rows_of T.F_rows_of.kp T.B_rows_of .nil pass0 (pa_cons (pv 0) pa_nil))))
    (pss_cons (ps_set (i := 2) sc_read_paper.nd rfl (Or.inl rfl) (pe_call G_whole_sections (hr.mono (by first | decide | (first | lia | omega))) rfl T.M_whole_sections T.F_whole_sections.kp T.B_whole_sections .nil pass0 (pa_cons (pv 1) (pa_cons (pe_tup (pa_consts rfl)) pa_nil))))
    (pss_cons (ps_comp [] sc_read_paper.nd (i := 3) rfl (Or.inl rfl) (fun _ _ h => h) rfl (pi_list0 (pe_ix ix_list0 (pv 2) pe_int (fun _ _ => rfl))) (fun _ _ _ _ => pts_nil) (fun _ _ _ _ => (pe_call G_numbers_behind (hr.mono (by first | decide | (first | lia | omega))) rfl T.M_numbers_behind T.F_numbers_behind.kp T.B_numbers_behind .nil pass0 (pa_cons (pv 0) (pa_cons pe_int pa_nil)))) rfl (show ∀ j ∈ ([] : List Nat), j < 6 by decide) (show (["row"] : List Str).Nodup by decide +kernel) (by with_unfolding_all rfl))
    (pss_cons (ps_comp [] sc_read_paper.nd (i := 4) rfl (Or.inl rfl) (fun _ _ h => h) rfl (pi_list0 (pe_ix ix_list0 (pv 2) pe_int (fun _ _ => rfl))) (fun _ _ _ _ => pts_nil) (fun _ _ _ _ => (pe_call G_read_step (hr.mono (by first | decide | (first | lia | omega))) rfl T.M_read_step T.F_read_step.kp T.B_read_step .nil pass0 (pa_cons (pv 0) pa_nil))) rfl (show ∀ j ∈ ([] : List Nat), j < 6 by decide) (show (["row"] : List Str).Nodup by decide +kernel) (by with_unfolding_all rfl))
    (pss_cons (ps_comp [] sc_read_paper.nd (i := 5) rfl (Or.inl rfl) (fun _ _ h => h) rfl (pi_list0 (pe_ix ix_list0 (pv 2) pe_int (fun _ _ => rfl))) (fun _ _ _ _ => pts_nil) (fun _ _ _ _ => (pe_call G_read_step (hr.mono (by first | decide | (first | lia | omega))) rfl T.M_read_step T.F_read_step.kp T.B_read_step .nil pass0 (pa_cons (pv 0) pa_nil))) rfl (show ∀ j ∈ ([] : List Nat), j < 6 by decide) (show (["row"] : List Str).Nodup by decide +kernel) (by with_unfolding_all rfl))
    (pss_one (ps_ret (pe_tup (pa_cons (pv 3) (pa_cons (pv 4) (pa_cons (pv 5) (pa_cons (pe_comp [] (fun _ _ h => h) rfl (pi_list0 (pe_ix ix_list0 (pv 2) pe_int (fun _ _ => rfl))) (fun _ _ _ _ => pts_nil) (fun _ _ _ _ => (pe_call G_read_step (hr.mono (by first | decide | (first | lia | omega))) rfl T.M_read_step T.F_read_step.kp T.B_read_step .nil pass0 (pa_cons (pv 0) pa_nil))) rfl (show ∀ j ∈ ([] : List Nat), j < 6 by decide) (show (["row"] : List Str).Nodup by decide +kernel)) pa_nil)))))))))))), ?_⟩
  refine seq_pre (fun σ H1 => ∃ p rs, σ = [some (.str (txt (pRows P))), some (.ref p), none, none, none, none] ∧ Same H H1 ∧ TRw H1 p rs (pRows P)) ?_ fun hn => ?_
  · rintro σ H1 ⟨p, rs, rfl, s1, T1⟩
    refine ⟨_, rfl, (by show 4 ≤ sizeLine; decide), fun t ht => ?_⟩
    have st := same_new ht (.tup (sV [Str.ofString "kept", Str.ofString "start", Str.ofString "next", Str.ofString "now"]))
    have f2 := upd_same (H := H1) (a := t) (o := .tup (sV [Str.ofString "kept", Str.ofString "start", Str.ofString "next", Str.ofString "now"]))
    have T2 := T1.same st
    have s2 := s1.trans st
    have hrl := Paired.length T1.2
    have hmany := (pRows_ok ok).many
    clear T1 st s1
    obtain ⟨hT, pT⟩ := T2
    unfold pRows at pT
    obtain ⟨r123, r4, rfl, p123, p4⟩ := pairedSplit pT
    obtain ⟨r12, r3, rfl, p12, p3⟩ := pairedSplit p123
    obtain ⟨r1, r2, rfl, p1, p2⟩ := pairedSplit p12
    have p1' := pairedMapR p1
    have p2' := pairedMapR p2
    have p3' := pairedMapR p3
    have p4' := pairedMapR p4
    have S : Secs (upd H1 t (.tup (sV [Str.ofString "kept", Str.ofString "start", Str.ofString "next", Str.ofString "now"]))) (r1 ++ r2 ++ r3 ++ r4) [Str.ofString "kept", Str.ofString "start", Str.ofString "next", Str.ofString "now"] [r1, r2, r3, r4] := by
      refine ⟨rfl, by simp, by decide, ?_⟩
      rintro i sec u h1 h2 r hr'
      match i, h1, h2 with
      | 0, h1, h2 =>
        cases h1; cases h2
        obtain ⟨i, hi⟩ := List.getElem?_of_mem hr'
        obtain ⟨ns, _, e⟩ := pairedGet p1' hi
        exact ⟨_, e⟩
      | 1, h1, h2 =>
        cases h1; cases h2
        obtain ⟨i, hi⟩ := List.getElem?_of_mem hr'
        obtain ⟨ns, _, e⟩ := pairedGet p2' hi
        exact ⟨_, e⟩
      | 2, h1, h2 =>
        cases h1; cases h2
        obtain ⟨i, hi⟩ := List.getElem?_of_mem hr'
        obtain ⟨ns, _, e⟩ := pairedGet p3' hi
        exact ⟨_, e⟩
      | 3, h1, h2 =>
        cases h1; cases h2
        obtain ⟨i, hi⟩ := List.getElem?_of_mem hr'
        obtain ⟨ns, _, e⟩ := pairedGet p4' hi
        exact ⟨_, e⟩
      | i + 4, h1, h2 => simp at h1
    refine ⟨p, t, _, _, _, rfl, hT, f2, S, by (first | lia | omega), by decide, fun l ps H3 hl s3 fl pr => ?_⟩
    obtain ⟨a1, a2, a3, a4, rfl, f31, f32, f33, f34⟩ : ∃ a1 a2 a3 a4, ps = [a1, a2, a3, a4] ∧ H3 a1 = some (.lst (r1.map V.ref)) ∧ H3 a2 = some (.lst (r2.map V.ref)) ∧ H3 a3 = some (.lst (r3.map V.ref)) ∧ H3 a4 = some (.lst (r4.map V.ref)) := by
      cases pr with
      | cons h1 pr => cases pr with
        | cons h2 pr => cases pr with
          | cons h3 pr => cases pr with
            | cons h4 pr =>
              cases pr
              exact ⟨_, _, _, _, rfl, h1, h2, h3, h4⟩
    have S3 := s2.trans s3
    have q1 := pairedMono (fun _ _ z => s3 _ _ z) p1'
    have q2 := pairedMono (fun _ _ z => s3 _ _ z) p2'
    have q3 := pairedMono (fun _ _ z => s3 _ _ z) p3'
    have q4 := pairedMono (fun _ _ z => s3 _ _ z) p4'
    have hl1 := Paired.length q1
    have hl2 := Paired.length q2
    have hl3 := Paired.length q3
    have hl4 := Paired.length q4
    clear pT p123 p12 p1 p2 p3 p4 p1' p2' p3' p4' S hT f2 s2 s3 pr
    refine ⟨_, rfl, l, _, _, _, rfl, rfl, SqL.of fl, rfl, a1, rfl, ⟨_, SqL.of f31⟩, comp_new P.kept (fun ns => .tup (nV ns)) (SqL.of f31) (by rw [List.length_map]; exact hl1) (by have := ok.nk; (first | lia | omega)) (fun i x ns H' hx hn' s' N hN => ?_) fun ks H5 s5 _ pk k0 hk0 => ?_⟩
    · obtain ⟨r, hr1, rfl⟩ : ∃ r, r1[i]? = some r ∧ V.ref r = x := by
        rw [List.getElem?_map] at hx
        exact Option.map_eq_some_iff.mp hx
      obtain ⟨ns', h1, h2⟩ := pairedGet q1 hr1
      rw [hn'] at h1
      cases h1
      obtain ⟨hl2, hb2⟩ := ok.kN ns (List.mem_of_getElem? hn')
      exact ⟨_, rfl, r, _, ns, by rw [hl2]; rfl, s' _ _ h2, hb2, by (first | lia | omega), fun t H' ht s e => hN t H' ht s e⟩
    have sk := same_new hk0 (.lst (ks.map V.ref))
    have K5 : KLs false (upd H5 k0 (.lst (ks.map V.ref))) k0 ks P.kept := ⟨upd_same, pairedMono (fun _ _ z => sk _ _ z) pk⟩
    have S5 := s5.trans sk
    have hkH : H3 k0 = none := s5.free hk0
    show tSeq _ _ _ _ (upd H5 k0 (.lst (ks.map V.ref)))
    generalize upd H5 k0 (.lst (ks.map V.ref)) = H6 at K5 S5 ⊢
    clear s5 pk hk0 sk
    refine ⟨_, rfl, l, _, _, _, rfl, rfl, SqL.of (S5 _ _ fl), rfl, a2, rfl, ⟨_, SqL.of (S5 _ _ f32)⟩, comp_newR P.s1 StR (fun _ _ _ _ s h => h.same s) (SqL.of (S5 _ _ f32)) (by rw [List.length_map]; exact hl2) (by have := ok.n1; (first | lia | omega)) (fun i x S H' hx hS s' N hN => ?_) fun v1 H7 s' _ pv x1 hX => ?_⟩
    · obtain ⟨r, hr1, rfl⟩ : ∃ r, r2[i]? = some r ∧ V.ref r = x := by
        rw [List.getElem?_map] at hx
        exact Option.map_eq_some_iff.mp hx
      obtain ⟨S', h1, h2⟩ := pairedGet q2 hr1
      rw [hS] at h1
      cases h1
      exact ⟨_, rfl, r, _, S, rfl, (S5.trans s') _ _ h2, ok.k1 S (List.mem_of_getElem? hS), fun t H' ht s e => hN t H' ht s e⟩
    have sx := same_new hX (.lst (v1.map V.ref))
    have B7 : SLs false (upd H7 x1 (.lst (v1.map V.ref))) x1 v1 P.s1 := ⟨upd_same, pairedMono (fun _ _ z => z.same sx) pv⟩
    have S7 := s'.trans sx
    have K7 := K5.same S7
    have S70 := S5.trans S7
    show tSeq _ _ _ _ (upd H7 x1 (.lst (v1.map V.ref)))
    generalize upd H7 x1 (.lst (v1.map V.ref)) = H8 at B7 S7 K7 S70 ⊢
    clear s' pv hX sx K5 S5 S7
    refine ⟨_, rfl, l, _, _, _, rfl, rfl, SqL.of (S70 _ _ fl), rfl, a3, rfl, ⟨_, SqL.of (S70 _ _ f33)⟩, comp_newR P.s2 StR (fun _ _ _ _ s h => h.same s) (SqL.of (S70 _ _ f33)) (by rw [List.length_map]; exact hl3) (by have := ok.n2; (first | lia | omega)) (fun i x S H' hx hS s' N hN => ?_) fun v2 H9 s' _ pv x2 hX => ?_⟩
    · obtain ⟨r, hr1, rfl⟩ : ∃ r, r3[i]? = some r ∧ V.ref r = x := by
        rw [List.getElem?_map] at hx
        exact Option.map_eq_some_iff.mp hx
      obtain ⟨S', h1, h2⟩ := pairedGet q3 hr1
      rw [hS] at h1
      cases h1
      exact ⟨_, rfl, r, _, S, rfl, (S70.trans s') _ _ h2, ok.k2 S (List.mem_of_getElem? hS), fun t H' ht s e => hN t H' ht s e⟩
    have sx := same_new hX (.lst (v2.map V.ref))
    have C9 : SLs false (upd H9 x2 (.lst (v2.map V.ref))) x2 v2 P.s2 := ⟨upd_same, pairedMono (fun _ _ z => z.same sx) pv⟩
    have S9 := s'.trans sx
    have K9 := K7.same S9
    have B9 := B7.same S9
    have S90 := S70.trans S9
    have n02 : k0 ≠ x2 := fun e => by have := s' _ _ K7.1; rw [e, hX] at this; cases this
    have h2H : H3 x2 = none := S70.free (s'.free hX)
    show tSeq _ _ _ _ (upd H9 x2 (.lst (v2.map V.ref)))
    generalize upd H9 x2 (.lst (v2.map V.ref)) = H10 at C9 S9 K9 B9 S90 ⊢
    clear s' pv hX sx K7 B7 S70 S9
    refine ⟨_, rfl, _, rfl, _, rfl, _, rfl, l, _, _, _, rfl, rfl, SqL.of (S90 _ _ fl), rfl, a4, rfl, ⟨_, SqL.of (S90 _ _ f34)⟩, comp_newR P.s3 StR (fun _ _ _ _ s h => h.same s) (SqL.of (S90 _ _ f34)) (by rw [List.length_map]; exact hl4) (by have := ok.n3; (first | lia | omega)) (fun i x S H' hx hS s' N hN => ?_) fun v3 H11 s' _ pv x3 hX => ?_⟩
    · obtain ⟨r, hr1, rfl⟩ : ∃ r, r4[i]? = some r ∧ V.ref r = x := by
        rw [List.getElem?_map] at hx
        exact Option.map_eq_some_iff.mp hx
      obtain ⟨S', h1, h2⟩ := pairedGet q4 hr1
      rw [hS] at h1
      cases h1
      exact ⟨_, rfl, r, _, S, rfl, (S90.trans s') _ _ h2, ok.k3 S (List.mem_of_getElem? hS), fun t H' ht s e => hN t H' ht s e⟩
    have sx := same_new hX (.lst (v3.map V.ref))
    have D11 : SLs false (upd H11 x3 (.lst (v3.map V.ref))) x3 v3 P.s3 := ⟨upd_same, pairedMono (fun _ _ z => z.same sx) pv⟩
    have S11 := s'.trans sx
    have n03 : k0 ≠ x3 := fun e => by have := s' _ _ K9.1; rw [e, hX] at this; cases this
    have n23 : x2 ≠ x3 := fun e => by have := s' _ _ C9.1; rw [e, hX] at this; cases this
    have h3H : H3 x3 = none := S90.free (s'.free hX)
    refine ⟨(by show 4 ≤ sizeLine; decide), fun w hw => ?_⟩
    have sw := same_new hw (.tup [.ref k0, .ref x1, .ref x2, .ref x3])
    have S12 := S11.trans sw
    exact q w k0 x1 x2 x3 ks v1 v2 v3 _ (S3.free hkH) (S3.free h2H) (S3.free h3H) n02 n03 n23 (S3.trans (S90.trans S12)) ⟨upd_same, K9.same S12, B9.same S12, C9.same S12, D11.same sw⟩
  · refine ⟨_, rfl, rfl, _, rfl, ?_⟩
    by_cases h0 : pRows P = []
    · refine ite_t (decide_eq_true (by rw [h0, txt_nil])) ⟨(by show 0 ≤ sizeLine; decide), fun p hp => ?_⟩
      exact hn _ _ ⟨p, [], rfl, same_new hp _, upd_same, by rw [h0]; exact .nil⟩
    · refine ite_f (decide_eq_false fun z => txt_ne h0 (pRows_ok ok) (by injection z)) ⟨_, rfl, pRows P, rfl, h0, pRows_ok ok, fun p rs H1 hp s1 T1 => ?_⟩
      exact hn _ _ ⟨p, rs, rfl, s1, T1⟩
theorem ok_paper_text (T : Tx w K mg A) (G_text_of : FnOk P w K mg base CX0 1 A.a_text_of A.d_text_of ["rows"] sp_text_of) (G_words_of : FnOk P w K mg base CX0 1 A.a_words_of A.d_words_of ["numbers"] sp_words_of) : FnOk P w K mg base CX0 2 A.a_paper_text A.d_paper_text ["paper"] sp_paper_text := by
  refine T.F_paper_text.ok sc_paper_text (fun vs H Q E h => ?_) (fun cdv A' outer s H vs Q E hr h => ?_)
  · obtain ⟨t, w, k, p1, p2, p3, ks, r1, r2, r3, P, rfl, hA, ok, q⟩ := h
    rfl
  obtain ⟨t, w, k, p1, p2, p3, ks, r1, r2, r3, P, rfl, hA, ok, q⟩ := h
  refine ⟨_, (pss_cons (ps_comp [] sc_paper_text.nd (i := 1) rfl (Or.inl rfl) (fun _ _ h => h) rfl (pi_or (pi_list0 (pe_ix ix_tup0 (pv 0) pe_int (fun _ _ => rfl))) (pi_tup0 (pe_ix ix_tup0 (pv 0) pe_int (fun _ _ => rfl)))) (fun _ _ _ _ => pts_nil) (fun _ _ _ _ => (pe_op op_cat (pe_lst (pa_cons pe_str pa_nil)) (pe_call G_words_of (hr.mono (by first | decide | (first | lia | omega))) rfl T.M_words_of T.F_words_of.kp T.B_words_of .nil pass0 (pa_cons (pv 0) pa_nil)))) rfl (show ∀ j ∈ ([] : List Nat), j < 4 by decide) (show (["pair"] : List Str).Nodup by decide +kernel) (by with_unfolding_all rfl))
    (pss_cons (ps_for PassesOwn.never rfl (pi_zipt0 rfl T.zip (pa_cons (pe_tup (pa_consts rfl)) (pa_cons (pe_slice sl_tup0 (pv 0) (po_some pe_int) po_none) pa_nil))) (pg_tup0 rfl (pgs_cons (pg_name (i := 2) sc_paper_text.nd rfl (Or.inr rfl)) (pgs_cons (pg_name (i := 3) sc_paper_text.nd rfl (Or.inl rfl)) pgs_nil)))
        (pss_one (ps_expr (pe_bmN PySem.F.plainAttrs_list PySem.F.slot_list_extend PySem.F.type_list_extend mt_extend (pv 1) (pa_cons (pe_comp [2] (fun _ _ h => h) rfl (pi_or (pi_list0 (pv 3)) (pi_tup0 (pv 3))) (fun _ _ _ _ => pts_nil) (fun _ _ _ _ => (pe_op op_cat (pe_op op_cat (pe_op op_cat (pe_lst (pa_cons (pv 1) (pa_cons (pe_ix ix_tup0 (pv 0) pe_int (fun _ _ => rfl)) pa_nil))) (pe_call G_words_of (hr.mono (by first | decide | (first | lia | omega))) rfl T.M_words_of T.F_words_of.kp T.B_words_of .nil pass0 (pa_cons (pe_slice sl_tup0 (pv 0) (po_some pe_int) (po_some pe_int)) pa_nil))) (pe_lst (pa_cons pe_str pa_nil))) (pe_call G_words_of (hr.mono (by first | decide | (first | lia | omega))) rfl T.M_words_of T.F_words_of.kp T.B_words_of .nil pass0 (pa_cons (pe_ix ix_tup0 (pv 0) pe_int (fun _ _ => rfl)) pa_nil)))) rfl (show ∀ j ∈ ([2] : List Nat), j < 4 by decide) (show (["step", "word"] : List Str).Nodup by decide +kernel)) pa_nil)))))
    (pss_one (ps_ret (pe_call G_text_of (hr.mono (by first | decide | (first | lia | omega))) rfl T.M_text_of T.F_text_of.kp T.B_text_of .nil pass0 (pa_cons (pv 1) pa_nil)))))), ?_⟩
  cases t with
  | false =>
    left
    refine ⟨_, rfl, w, _, _, _, rfl, rfl, SqT.of hA.w, rfl, k, rfl, ⟨_, SqL.of hA.k.1⟩, comp_newR P.kept (fun H r ns => H r = some (.lst (sV (Str.ofString "kept" :: ns.map nw)))) (fun _ _ _ _ s h => s _ _ h) (SqL.of hA.k.1) (by rw [List.length_map, Paired.length hA.k.2]) (by have := ok.nk; (first | lia | omega)) (fun i x ns H' hx hn s' N hN => ?_) fun us H1 s1 hu pu l hl => ?_⟩
    · obtain ⟨r, hr1, rfl⟩ : ∃ r, ks[i]? = some r ∧ V.ref r = x := by
        rw [List.getElem?_map] at hx
        exact Option.map_eq_some_iff.mp hx
      obtain ⟨ns', h1, h2⟩ := pairedGet hA.k.2 hr1
      rw [hn] at h1
      cases h1
      obtain ⟨hl2, hb2⟩ := ok.kN ns (List.mem_of_getElem? hn)
      refine ⟨(by show 1 ≤ sizeLine; decide), fun p hp => ?_⟩
      have s1 := same_new hp (.lst [.str "kept"])
      refine ⟨_, rfl, r, ns, rfl, s1 _ _ (s' _ _ h2), hb2, by (first | lia | omega), fun q hq => ?_⟩
      have s2 := s1.trans (same_new hq (.lst (sV (ns.map nw))))
      refine ⟨p, q, _, _, rfl, rfl, (same_new hq _) _ _ upd_same, upd_same, small (by rw [sV_len, List.length_map, hl2]; decide), fun l hl => ?_⟩
      exact hN l _ (s2.free hl) (s2.trans (same_new hl _)) (by rw [upd_same]; rfl)
    have sl := same_new hl (.lst (us.map V.ref))
    have T1 : TRw (upd H1 l (.lst (us.map V.ref))) l us (P.kept.map fun ns => Str.ofString "kept" :: ns.map nw) := ⟨upd_same, pairedMapL (f := fun ns : List Nat => Str.ofString "kept" :: ns.map nw) (pairedMono (fun _ _ z => sl _ _ z) pu)⟩
    have hlH : H l = none := s1.free hl
    have n1 : l ∉ us := fun z => by
      obtain ⟨i, hi⟩ := List.getElem?_of_mem z
      obtain ⟨ns, _, e⟩ := pairedGet pu hi
      rw [hl] at e
      cases e
    have L1 : us.length ≤ 6 := by rw [Paired.length pu]; exact ok.nk
    have S1 := s1.trans sl
    show tSeq _ _ _ _ (upd H1 l (.lst (us.map V.ref)))
    generalize upd H1 l (.lst (us.map V.ref)) = H2 at T1 S1 ⊢
    clear s1 sl pu hu hl
    have A2 := hA.same S1
    refine ⟨(by show 3 ≤ sizeLine; decide), fun pz hpz => ?_⟩
    have s3 := same_new hpz (.tup (sV [Str.ofString "start", Str.ofString "next", Str.ofString "now"]))
    have f3 := upd_same (H := H2) (a := pz) (o := .tup (sV [Str.ofString "start", Str.ofString "next", Str.ofString "now"]))
    refine ⟨_, rfl, _, rfl, w, _, rfl, SqT.of (s3 _ _ A2.w), (fun z => absurd z.1 (show ¬ HT.sIx 4 0 (some 1) = 0 by decide)), fun py hpy => ?_⟩
    have hcut : cutV [V.ref k, .ref p1, .ref p2, .ref p3] (some 1) none = [.ref p1, .ref p2, .ref p3] := cut_from (n := 1) (by simp)
    rw [hcut]
    have s4 := same_new hpy (.tup [.ref p1, .ref p2, .ref p3])
    have f4 := upd_same (H := upd H2 pz (.tup (sV [Str.ofString "start", Str.ofString "next", Str.ofString "now"]))) (a := py) (o := .tup [.ref p1, .ref p2, .ref p3])
    have f3' := s4 _ _ f3
    have S4 := S1.trans (s3.trans s4)
    have T4 := (T1.same s3).same s4
    refine ⟨pz, py, rfl, ⟨_, SqT.of f3'⟩, ⟨_, SqT.of f4⟩, for_zipt (xs := sV [Str.ofString "start", Str.ofString "next", Str.ofString "now"]) (ys := [.ref p1, .ref p2, .ref p3]) (fun i σ H' => ∃ (x2 x3 : Option V) (rs : List Addr), σ = [some (.ref w), some (.ref l), x2, x3] ∧ Same H H' ∧ H' pz = some (.tup (sV [Str.ofString "start", Str.ofString "next", Str.ofString "now"])) ∧ H' py = some (.tup [.ref p1, .ref p2, .ref p3]) ∧ TRw H' l rs ((P.kept.map fun ns => Str.ofString "kept" :: ns.map nw) ++ ((sRows P).take i).flatten) ∧ l ∉ rs ∧ rs.length ≤ 6 + 6 * i) ⟨_, _, us, rfl, S4, f3', f4, by rw [List.take_zero, List.flatten_nil, List.append_nil]; exact T4, n1, by (first | lia | omega)⟩ ?_ rfl ?_ ?_⟩
    · rintro i σ H' ⟨_, _, _, _, _, h1, h2, _⟩
      exact ⟨SqT.of h1, SqT.of h2⟩
    · rintro i x y pp σ H5 hx hy ⟨x2, x3, rs, rfl, S5, g1, g2, T5, n5, L5⟩ hpp
      have A5 := hA.same S5
      have hi3 : i < 3 := (List.getElem?_eq_some_iff.mp hy).1
      obtain ⟨wd, p, rq, Ss, rfl, rfl, Q5, okS, lS, lw, hsec⟩ := A5.sec ok hx hy
      have sp := same_new hpp (.tup [.str wd, .ref p])
      have Q6 := Q5.same sp
      have T6 := T5.same sp
      have g16 := sp _ _ g1
      have g26 := sp _ _ g2
      have S6 := S5.trans sp
      have f6 := upd_same (H := H5) (a := pp) (o := .tup [.str wd, .ref p])
      generalize upd H5 pp (.tup [.str wd, .ref p]) = H6 at Q6 T6 g16 g26 S6 f6 ⊢
      refine ⟨pp, _, rfl, SqT.of f6, rfl, _, _, rfl, _, _, rfl, rfl, ?_⟩
      refine ⟨_, rfl, .inl ⟨rfl, _, SqL.of T6.1⟩, ?_⟩
      left
      refine ⟨_, rfl, p, rfl, ⟨_, SqL.of Q6.1⟩, comp_newR Ss (fun H r S => H r = some (.lst (sV (srow wd S)))) (fun _ _ _ _ s h => s _ _ h) (SqL.of Q6.1) (by rw [List.length_map, Paired.length Q6.2]) (by (first | lia | omega)) (fun i x S H' hx hS s' N hN => ?_) fun vs H7 s7 hv pv y hy => ?_⟩
      · obtain ⟨r, hr1, rfl⟩ : ∃ r, rq[i]? = some r ∧ V.ref r = x := by
          rw [List.getElem?_map] at hx
          exact Option.map_eq_some_iff.mp hx
        obtain ⟨S', h1, lf, h2, h3⟩ := pairedGet Q6.2 hr1
        rw [hS] at h1
        cases h1
        have okS1 := okS S (List.mem_of_getElem? hS)
        have e2 := s' _ _ h2
        have e3 := s' _ _ h3
        refine ⟨_, rfl, _, rfl, r, _, _, _, rfl, rfl, SqT.of e2, rfl, (by show 2 ≤ sizeLine; decide), fun b1 hb1 => ?_⟩
        have u1 := same_new hb1 (.lst (sV [wd, S.wd]))
        refine ⟨_, rfl, _, rfl, _, rfl, r, _, rfl, SqT.of (u1 _ _ e2), (fun z => absurd z.1 (show ¬ HT.sIx 4 0 (some 1) = 0 by decide)), fun b2 hb2 => ?_⟩
        have hc3 : cutV [V.str S.wd, .int (S.a : Int), .int (S.b : Int), .ref lf] (some 1) (some 3) = nV [S.a, S.b] := cut_mid (a := 1) (b := 3) (by decide) (by show 3 ≤ 4; decide)
        rw [hc3]
        have u2 := u1.trans (same_new hb2 (.tup (nV [S.a, S.b])))
        refine ⟨b2, [S.a, S.b], rfl, upd_same, (fun n hn => by simp only [List.mem_cons, List.not_mem_nil, or_false] at hn; rcases hn with rfl | rfl; exact okS1.a; exact okS1.b), (by show 2 ≤ 20; decide), fun b3 hb3 => ?_⟩
        have v3 := same_new hb3 (.lst (sV ([S.a, S.b].map nw)))
        have u3 := u2.trans v3
        refine ⟨b1, b3, _, _, rfl, rfl, ((same_new hb2 _).trans v3) _ _ upd_same, upd_same, (by show 2 + 2 ≤ sizeLine; decide), fun b4 hb4 => ?_⟩
        have u4 := u3.trans (same_new hb4 (.lst (sV [wd, S.wd, nw S.a, nw S.b])))
        refine ⟨(by show 1 ≤ sizeLine; decide), fun b5 hb5 => ?_⟩
        have v5 := same_new hb5 (.lst (sV [Str.ofString ":"]))
        have u5 := u4.trans v5
        refine ⟨b4, b5, _, _, rfl, rfl, v5 _ _ upd_same, upd_same, (by show 4 + 1 ≤ sizeLine; decide), fun b6 hb6 => ?_⟩
        have u6 := u5.trans (same_new hb6 (.lst (sV [wd, S.wd, nw S.a, nw S.b, Str.ofString ":"])))
        refine ⟨_, rfl, r, _, _, _, rfl, rfl, SqT.of (u6 _ _ e2), rfl, lf, S.ls, rfl, u6 _ _ e3, okS1.ls, by have := okS1.len; (first | lia | omega), fun b7 hb7 => ?_⟩
        have v7 := same_new hb7 (.lst (sV (S.ls.map nw)))
        have u7 := u6.trans v7
        refine ⟨b6, b7, _, _, rfl, rfl, v7 _ _ upd_same, upd_same, small (by rw [sV_len, List.length_map]; have := okS1.len; show 5 + S.ls.length ≤ 100000; (first | lia | omega)), fun b8 hb8 => ?_⟩
        exact hN b8 _ (u7.free hb8) (u7.trans (same_new hb8 _)) (by rw [upd_same]; rfl)
      have sy := same_new hy (.lst (vs.map V.ref))
      have hvl : l ∉ vs := fun z => by have := hv l z; rw [T6.1] at this; cases this
      obtain ⟨T8, n8⟩ := TRw.ext ((T6.same s7).same sy) n5 (pairedMapL (f := fun S : Stp => srow wd S) (pairedMono (fun _ _ z => sy _ _ z) pv)) hvl
      have lv := Paired.length pv
      refine ⟨l, y, _, _, rfl, rfl, (s7.trans sy) _ _ T6.1, upd_same, small (by rw [List.length_map, List.length_map]; (first | lia | omega)), ?_⟩
      have S8 := sameUpd ((S6.trans s7).trans sy) hlH (.lst (rs.map V.ref ++ vs.map V.ref))
      refine ⟨_, _, rs ++ vs, rfl, S8, ?_, ?_, ?_, n8, by rw [List.length_append]; (first | lia | omega)⟩
      · rw [upd_ne (fun e => by have := g16; rw [e, T6.1] at this; cases this)]
        exact (s7.trans sy) _ _ g16
      · rw [upd_ne (fun e => by have := g26; rw [e, T6.1] at this; cases this)]
        exact (s7.trans sy) _ _ g26
      · rw [flat_snoc hsec, ← List.append_assoc]
        exact T8
    · rintro σ H5 ⟨x2, x3, rs, rfl, S5, g1, g2, T5, n5, L5⟩
      have e : (P.kept.map fun ns => Str.ofString "kept" :: ns.map nw) ++ ((sRows P).take 3).flatten = pRows P := by rw [pRows_s]; rfl
      rw [show (sV [Str.ofString "start", Str.ofString "next", Str.ofString "now"]).length = 3 from rfl, e] at T5
      exact ⟨_, rfl, l, _, _, rfl, T5, pRows_ok ok, fun H6 s6 => q _ (S5.trans s6)⟩
  | true =>
    right
    refine ⟨_, rfl, w, _, _, _, rfl, rfl, SqT.of hA.w, rfl, k, rfl, ⟨_, SqT.of hA.k.1⟩, comp_newRT P.kept (fun H r ns => H r = some (.lst (sV (Str.ofString "kept" :: ns.map nw)))) (fun _ _ _ _ s h => s _ _ h) (SqT.of hA.k.1) (by rw [List.length_map, Paired.length hA.k.2]) (by have := ok.nk; (first | lia | omega)) (fun i x ns H' hx hn s' N hN => ?_) fun us H1 s1 hu pu l hl => ?_⟩
    · obtain ⟨r, hr1, rfl⟩ : ∃ r, ks[i]? = some r ∧ V.ref r = x := by
        rw [List.getElem?_map] at hx
        exact Option.map_eq_some_iff.mp hx
      obtain ⟨ns', h1, h2⟩ := pairedGet hA.k.2 hr1
      rw [hn] at h1
      cases h1
      obtain ⟨hl2, hb2⟩ := ok.kN ns (List.mem_of_getElem? hn)
      refine ⟨(by show 1 ≤ sizeLine; decide), fun p hp => ?_⟩
      have s1 := same_new hp (.lst [.str "kept"])
      refine ⟨_, rfl, r, ns, rfl, s1 _ _ (s' _ _ h2), hb2, by (first | lia | omega), fun q hq => ?_⟩
      have s2 := s1.trans (same_new hq (.lst (sV (ns.map nw))))
      refine ⟨p, q, _, _, rfl, rfl, (same_new hq _) _ _ upd_same, upd_same, small (by rw [sV_len, List.length_map, hl2]; decide), fun l hl => ?_⟩
      exact hN l _ (s2.free hl) (s2.trans (same_new hl _)) (by rw [upd_same]; rfl)
    have sl := same_new hl (.lst (us.map V.ref))
    have T1 : TRw (upd H1 l (.lst (us.map V.ref))) l us (P.kept.map fun ns => Str.ofString "kept" :: ns.map nw) := ⟨upd_same, pairedMapL (f := fun ns : List Nat => Str.ofString "kept" :: ns.map nw) (pairedMono (fun _ _ z => sl _ _ z) pu)⟩
    have hlH : H l = none := s1.free hl
    have n1 : l ∉ us := fun z => by
      obtain ⟨i, hi⟩ := List.getElem?_of_mem z
      obtain ⟨ns, _, e⟩ := pairedGet pu hi
      rw [hl] at e
      cases e
    have L1 : us.length ≤ 6 := by rw [Paired.length pu]; exact ok.nk
    have S1 := s1.trans sl
    show tSeq _ _ _ _ (upd H1 l (.lst (us.map V.ref)))
    generalize upd H1 l (.lst (us.map V.ref)) = H2 at T1 S1 ⊢
    clear s1 sl pu hu hl
    have A2 := hA.same S1
    refine ⟨(by show 3 ≤ sizeLine; decide), fun pz hpz => ?_⟩
    have s3 := same_new hpz (.tup (sV [Str.ofString "start", Str.ofString "next", Str.ofString "now"]))
    have f3 := upd_same (H := H2) (a := pz) (o := .tup (sV [Str.ofString "start", Str.ofString "next", Str.ofString "now"]))
    refine ⟨_, rfl, _, rfl, w, _, rfl, SqT.of (s3 _ _ A2.w), (fun z => absurd z.1 (show ¬ HT.sIx 4 0 (some 1) = 0 by decide)), fun py hpy => ?_⟩
    have hcut : cutV [V.ref k, .ref p1, .ref p2, .ref p3] (some 1) none = [.ref p1, .ref p2, .ref p3] := cut_from (n := 1) (by simp)
    rw [hcut]
    have s4 := same_new hpy (.tup [.ref p1, .ref p2, .ref p3])
    have f4 := upd_same (H := upd H2 pz (.tup (sV [Str.ofString "start", Str.ofString "next", Str.ofString "now"]))) (a := py) (o := .tup [.ref p1, .ref p2, .ref p3])
    have f3' := s4 _ _ f3
    have S4 := S1.trans (s3.trans s4)
    have T4 := (T1.same s3).same s4
    refine ⟨pz, py, rfl, ⟨_, SqT.of f3'⟩, ⟨_, SqT.of f4⟩, for_zipt (xs := sV [Str.ofString "start", Str.ofString "next", Str.ofString "now"]) (ys := [.ref p1, .ref p2, .ref p3]) (fun i σ H' => ∃ (x2 x3 : Option V) (rs : List Addr), σ = [some (.ref w), some (.ref l), x2, x3] ∧ Same H H' ∧ H' pz = some (.tup (sV [Str.ofString "start", Str.ofString "next", Str.ofString "now"])) ∧ H' py = some (.tup [.ref p1, .ref p2, .ref p3]) ∧ TRw H' l rs ((P.kept.map fun ns => Str.ofString "kept" :: ns.map nw) ++ ((sRows P).take i).flatten) ∧ l ∉ rs ∧ rs.length ≤ 6 + 6 * i) ⟨_, _, us, rfl, S4, f3', f4, by rw [List.take_zero, List.flatten_nil, List.append_nil]; exact T4, n1, by (first | lia | omega)⟩ ?_ rfl ?_ ?_⟩
    · rintro i σ H' ⟨_, _, _, _, _, h1, h2, _⟩
      exact ⟨SqT.of h1, SqT.of h2⟩
    · rintro i x y pp σ H5 hx hy ⟨x2, x3, rs, rfl, S5, g1, g2, T5, n5, L5⟩ hpp
      have A5 := hA.same S5
      have hi3 : i < 3 := (List.getElem?_eq_some_iff.mp hy).1
      obtain ⟨wd, p, rq, Ss, rfl, rfl, Q5, okS, lS, lw, hsec⟩ := A5.sec ok hx hy
      have sp := same_new hpp (.tup [.str wd, .ref p])
      have Q6 := Q5.same sp
      have T6 := T5.same sp
      have g16 := sp _ _ g1
      have g26 := sp _ _ g2
      have S6 := S5.trans sp
      have f6 := upd_same (H := H5) (a := pp) (o := .tup [.str wd, .ref p])
      generalize upd H5 pp (.tup [.str wd, .ref p]) = H6 at Q6 T6 g16 g26 S6 f6 ⊢
      refine ⟨pp, _, rfl, SqT.of f6, rfl, _, _, rfl, _, _, rfl, rfl, ?_⟩
      refine ⟨_, rfl, .inl ⟨rfl, _, SqL.of T6.1⟩, ?_⟩
      right
      refine ⟨_, rfl, p, rfl, ⟨_, SqT.of Q6.1⟩, comp_newRT Ss (fun H r S => H r = some (.lst (sV (srow wd S)))) (fun _ _ _ _ s h => s _ _ h) (SqT.of Q6.1) (by rw [List.length_map, Paired.length Q6.2]) (by (first | lia | omega)) (fun i x S H' hx hS s' N hN => ?_) fun vs H7 s7 hv pv y hy => ?_⟩
      · obtain ⟨r, hr1, rfl⟩ : ∃ r, rq[i]? = some r ∧ V.ref r = x := by
          rw [List.getElem?_map] at hx
          exact Option.map_eq_some_iff.mp hx
        obtain ⟨S', h1, lf, h2, h3⟩ := pairedGet Q6.2 hr1
        rw [hS] at h1
        cases h1
        have okS1 := okS S (List.mem_of_getElem? hS)
        have e2 := s' _ _ h2
        have e3 := s' _ _ h3
        refine ⟨_, rfl, _, rfl, r, _, _, _, rfl, rfl, SqT.of e2, rfl, (by show 2 ≤ sizeLine; decide), fun b1 hb1 => ?_⟩
        have u1 := same_new hb1 (.lst (sV [wd, S.wd]))
        refine ⟨_, rfl, _, rfl, _, rfl, r, _, rfl, SqT.of (u1 _ _ e2), (fun z => absurd z.1 (show ¬ HT.sIx 4 0 (some 1) = 0 by decide)), fun b2 hb2 => ?_⟩
        have hc3 : cutV [V.str S.wd, .int (S.a : Int), .int (S.b : Int), .ref lf] (some 1) (some 3) = nV [S.a, S.b] := cut_mid (a := 1) (b := 3) (by decide) (by show 3 ≤ 4; decide)
        rw [hc3]
        have u2 := u1.trans (same_new hb2 (.tup (nV [S.a, S.b])))
        refine ⟨b2, [S.a, S.b], rfl, upd_same, (fun n hn => by simp only [List.mem_cons, List.not_mem_nil, or_false] at hn; rcases hn with rfl | rfl; exact okS1.a; exact okS1.b), (by show 2 ≤ 20; decide), fun b3 hb3 => ?_⟩
        have v3 := same_new hb3 (.lst (sV ([S.a, S.b].map nw)))
        have u3 := u2.trans v3
        refine ⟨b1, b3, _, _, rfl, rfl, ((same_new hb2 _).trans v3) _ _ upd_same, upd_same, (by show 2 + 2 ≤ sizeLine; decide), fun b4 hb4 => ?_⟩
        have u4 := u3.trans (same_new hb4 (.lst (sV [wd, S.wd, nw S.a, nw S.b])))
        refine ⟨(by show 1 ≤ sizeLine; decide), fun b5 hb5 => ?_⟩
        have v5 := same_new hb5 (.lst (sV [Str.ofString ":"]))
        have u5 := u4.trans v5
        refine ⟨b4, b5, _, _, rfl, rfl, v5 _ _ upd_same, upd_same, (by show 4 + 1 ≤ sizeLine; decide), fun b6 hb6 => ?_⟩
        have u6 := u5.trans (same_new hb6 (.lst (sV [wd, S.wd, nw S.a, nw S.b, Str.ofString ":"])))
        refine ⟨_, rfl, r, _, _, _, rfl, rfl, SqT.of (u6 _ _ e2), rfl, lf, S.ls, rfl, u6 _ _ e3, okS1.ls, by have := okS1.len; (first | lia | omega), fun b7 hb7 => ?_⟩
        have v7 := same_new hb7 (.lst (sV (S.ls.map nw)))
        have u7 := u6.trans v7
        refine ⟨b6, b7, _, _, rfl, rfl, v7 _ _ upd_same, upd_same, small (by rw [sV_len, List.length_map]; have := okS1.len; show 5 + S.ls.length ≤ 100000; (first | lia | omega)), fun b8 hb8 => ?_⟩
        exact hN b8 _ (u7.free hb8) (u7.trans (same_new hb8 _)) (by rw [upd_same]; rfl)
      have sy := same_new hy (.lst (vs.map V.ref))
      have hvl : l ∉ vs := fun z => by have := hv l z; rw [T6.1] at this; cases this
      obtain ⟨T8, n8⟩ := TRw.ext ((T6.same s7).same sy) n5 (pairedMapL (f := fun S : Stp => srow wd S) (pairedMono (fun _ _ z => sy _ _ z) pv)) hvl
      have lv := Paired.length pv
      refine ⟨l, y, _, _, rfl, rfl, (s7.trans sy) _ _ T6.1, upd_same, small (by rw [List.length_map, List.length_map]; (first | lia | omega)), ?_⟩
      have S8 := sameUpd ((S6.trans s7).trans sy) hlH (.lst (rs.map V.ref ++ vs.map V.ref))
      refine ⟨_, _, rs ++ vs, rfl, S8, ?_, ?_, ?_, n8, by rw [List.length_append]; (first | lia | omega)⟩
      · rw [upd_ne (fun e => by have := g16; rw [e, T6.1] at this; cases this)]
        exact (s7.trans sy) _ _ g16
      · rw [upd_ne (fun e => by have := g26; rw [e, T6.1] at this; cases this)]
        exact (s7.trans sy) _ _ g26
      · rw [flat_snoc hsec, ← List.append_assoc]
        exact T8
    · rintro σ H5 ⟨x2, x3, rs, rfl, S5, g1, g2, T5, n5, L5⟩
      have e : (P.kept.map fun ns => Str.ofString "kept" :: ns.map nw) ++ ((sRows P).take 3).flatten = pRows P := by rw [pRows_s]; rfl
      rw [show (sV [Str.ofString "start", Str.ofString "next", Str.ofString "now"]).length = 3 from rfl, e] at T5
      exact ⟨_, rfl, l, _, _, rfl, T5, pRows_ok ok, fun H6 s6 => q _ (S5.trans s6)⟩
theorem ok_L_cell_at (T : Tx w K mg A) : FnOk P w K mg base CX0 1 A.a_L_cell_at A.d_L_cell_at ["_law_script", "_law_k"] (cell_sp K) := by
  refine T.F_L_cell_at.ok sc_L_cell_at (fun vs H Q E h => ?_) (fun cdv A' outer s H vs Q E hr h => ?_)
  · obtain ⟨a, ns, k, rfl, hS, h0, q⟩ := h
    rfl
  obtain ⟨a, ns, k, rfl, hS, h0, q⟩ := h
  refine ⟨_, (pss_cons (ps_if (pt_cmpR op_lt (pv 1) (pe_callB call_len rfl T.len PySem.boot_len (pa_cons (pv 0) pa_nil)) (nomark _)) (pss_one (ps_ret (pe_ix ix_list (pv 0) (pv 1) (fun _ _ => rfl)))) pss_nil)
    (pss_one (ps_ret pe_int))), ?_⟩
  refine ⟨_, rfl, _, rfl, _, _, rfl, .inl ⟨_, hS, rfl⟩, _, _, rfl, rfl, _, rfl, ?_⟩
  refine ite2 (fun c => ?_) (fun c => ?_)
  · have c' : k < (((ns.map V.int).length : Nat) : Int) := of_decide_eq_true c
    rw [List.length_map] at c'
    obtain ⟨v, hv⟩ := at_mapI h0 c'
    exact ⟨_, rfl, _, rfl, a, _, _, _, rfl, rfl, hS, hv, q v⟩
  · exact q 0
theorem ok_L_bag (T : Tx w K mg A) (G_L_cell_at : FnOk P w K mg base CX0 1 A.a_L_cell_at A.d_L_cell_at ["_law_script", "_law_k"] (cell_sp K)) : FnOk P w K mg base CX0 2 A.a_L_bag A.d_L_bag ["_law_script", "_law_k"] (bag_sp K) := by
  refine T.F_L_bag.ok sc_L_bag (fun vs H Q E h => ?_) (fun cdv A' outer s H vs Q E hr h => ?_)
  · obtain ⟨a, ns, k, rfl, hS, h0, h9, q⟩ := h
    rfl
  obtain ⟨a, ns, k, rfl, hS, h0, h9, q⟩ := h
  refine ⟨_, (pss_cons (ps_set (i := 2) sc_L_bag.nd rfl (Or.inl rfl) (pe_call G_L_cell_at (hr.mono (by first | decide | (first | lia | omega))) rfl T.M_L_cell_at T.F_L_cell_at.kp T.B_L_cell_at .nil pass0 (pa_cons (pv 0) (pa_cons (pv 1) pa_nil))))
    (pss_one (ps_ret (pe_lst (pa_cons (pe_op op_mul (pv 2) (pe_callTy call_int1 rfl T.int PyProof.Rows.boot_int (pa_cons (pe_cmpR op_ge (pv 2) (pe_op op_pow pe_int pe_int) (nomark _)) pa_nil))) (pa_cons (pe_op op_add (pe_op op_add (pe_op op_add (pe_op op_mod (pv 2) pe_int) (pe_op op_mul (pe_op op_mul pe_int (pv 1)) (pv 1))) (pe_op op_mul pe_int (pv 1))) pe_int) pa_nil)))))), ?_⟩
  refine ⟨_, rfl, _, rfl, a, ns, k, rfl, hS, h0, fun v => ?_⟩
  refine ⟨_, rfl, _, rfl, _, _, rfl, rfl, ⟨by decide, by decide, by decide⟩, _, _, rfl, rfl, .inr ⟨_, rfl, _, _, rfl, rfl, .inr ⟨?_, ?_⟩, _, rfl, _, _, rfl, rfl, (by show (0 : Int) < 2147483647; decide), _, rfl, _, _, rfl, rfl, .inl ⟨by decide, by decide⟩, _, rfl, _, _, rfl, rfl, .inr ⟨Int.lt_of_lt_of_le (by decide) h0, Int.lt_trans h9 (by decide)⟩, _, _, rfl, rfl, _, rfl, _, _, rfl, rfl, .inl ⟨by decide, by decide⟩, _, _, rfl, rfl, _, _, rfl, rfl, (by show 2 ≤ sizeLine; decide), fun l hl => ?_⟩⟩
  · split <;> decide
  · split <;> decide
  · refine q l _ _ hl ?_
    split
    · rename_i h
      have := of_decide_eq_true h
      have e : (10 : Int) ^ (18 : Int).toNat = 1000000000000000000 := by decide
      (first | lia | omega)
    · (first | lia | omega)
theorem ok_L_take (T : Tx w K mg A) : FnOk P w K mg base CX0 1 A.a_L_take A.d_L_take ["_law_bag_here", "_law_many"] sp_L_take := by
  refine T.F_L_take.ok sc_L_take (fun vs H Q E h => ?_) (fun cdv A' outer s H vs Q E hr h => ?_)
  · obtain ⟨l, many, rfl, ⟨b0, b1, hl, hb0⟩, h0, hbig, q⟩ := h
    rfl
  obtain ⟨l, many, rfl, ⟨b0, b1, hl, hb0⟩, h0, hbig, q⟩ := h
  refine ⟨_, (pss_cons (ps_if (pt_cmpR op_gt (pe_ix ix_list0 (pv 0) pe_int (fun _ _ => rfl)) pe_int (nomark _)) (pss_cons (ps_set (i := 2) sc_L_take.nd rfl (Or.inl rfl) (pe_op op_mod (pe_ix ix_list0 (pv 0) pe_int (fun _ _ => rfl)) (pv 1)))
    (pss_cons (ps_asg (pe_op op_fdivL (pe_ix ix_list0 (pv 0) pe_int (fun _ _ => rfl)) (pv 1)) (pg_sub (pv 0) pe_int set_list))
    (pss_one (ps_ret (pv 2))))) pss_nil)
    (pss_cons (ps_asg (pe_op op_mod (pe_op op_add (pe_op op_mul (pe_ix ix_list0 (pv 0) pe_int (fun _ _ => rfl)) pe_int) pe_int) pe_int) (pg_sub (pv 0) pe_int set_list))
    (pss_one (ps_ret (pe_op op_mod (pe_op op_fdivL (pe_op op_mod (pe_op op_mul (pe_ix ix_list0 (pv 0) pe_int (fun _ _ => rfl)) pe_int) pe_int) pe_int) (pv 1)))))), ?_⟩
  refine ⟨_, rfl, l, _, 0, _, rfl, rfl, SqL.of hl, rfl, _, _, rfl, rfl, _, rfl, ?_⟩
  refine ite2 (fun c => ?_) (fun c => ?_)
  · have c' : 0 < b0 := of_decide_eq_true c
    refine ⟨_, rfl, l, _, 0, _, rfl, rfl, SqL.of hl, rfl, _, rfl, _, _, rfl, rfl, h0, ?_⟩
    refine ⟨_, rfl, l, _, 0, _, rfl, rfl, SqL.of hl, rfl, _, rfl, _, _, rfl, rfl, ⟨h0, hbig⟩, _, rfl, l, _, 0, 0, rfl, rfl, hl, rfl, ?_⟩
    refine ⟨_, rfl, ?_⟩
    exact q _ _ (Int.emod_nonneg _ (by (first | lia | omega))) (Int.emod_lt_of_pos _ h0) (Bg.put _ _ (Int.ediv_nonneg hb0 (by (first | lia | omega))))
  · refine ⟨_, rfl, l, _, 1, _, rfl, rfl, SqL.of hl, rfl, _, _, rfl, rfl, .inr ⟨by decide, by decide⟩, _, _, rfl, rfl, _, _, rfl, rfl, (by show (0 : Int) < 2147483647; decide), _, rfl, l, _, 1, 1, rfl, rfl, hl, rfl, ?_⟩
    refine ⟨_, rfl, l, _, 1, _, rfl, rfl, SqL.of upd_same, rfl, _, _, rfl, rfl, .inr ⟨by decide, by decide⟩, _, _, rfl, rfl, (by show (0 : Int) < 2147483629; decide), _, _, rfl, rfl, ⟨by decide, by decide⟩, _, rfl, _, _, rfl, rfl, h0, ?_⟩
    exact q _ _ (Int.emod_nonneg _ (by (first | lia | omega))) (Int.emod_lt_of_pos _ h0) (Bg.put _ _ hb0)
theorem ok_L_whole (T : Tx w K mg A) : FnOk P w K mg base CX0 1 A.a_L_whole A.d_L_whole ["_law_found"] whole_sp := by
  refine T.F_L_whole.ok sc_L_whole (fun vs H Q E h => ?_) (fun cdv A' outer s H vs Q E hr h => ?_)
  · obtain ⟨i, rfl, q⟩ := h
    rfl
  obtain ⟨i, rfl, q⟩ := h
  refine ⟨_, (pss_one (ps_ret (pe_and (pe_callB (call_isinst (T := "int")) rfl T.isinstance PyProof.Rows.boot_isinstance (pa_cons (pv 0) (pa_cons (pe_bltn (v := .ty "int") rfl T.int PyProof.Rows.boot_int rfl) pa_nil))) (pe_one (pe_not (pe_callB (call_isinst (T := "bool")) rfl T.isinstance PyProof.Rows.boot_isinstance (pa_cons (pv 0) (pa_cons (pe_bltn (v := .ty "bool") rfl T.bool PyProof.Rows.boot_bool rfl) pa_nil)))))))), ?_⟩
  refine ⟨_, rfl, _, _, true, rfl, TyOf.int _, rfl, _, rfl, ?_⟩
  exact iteT ⟨_, rfl, _, _, false, rfl, TyOf.int _, rfl, _, rfl, q⟩
theorem ok_L_number (T : Tx w K mg A) (G_L_take : FnOk P w K mg base CX0 1 A.a_L_take A.d_L_take ["_law_bag_here", "_law_many"] sp_L_take) : FnOk P w K mg base CX0 2 A.a_L_number A.d_L_number ["_law_bag_here"] sp_L_number := by
  refine T.F_L_number.ok sc_L_number (fun vs H Q E h => ?_) (fun cdv A' outer s H vs Q E hr h => ?_)
  · obtain ⟨l, rfl, hb, q⟩ := h
    rfl
  obtain ⟨l, rfl, hb, q⟩ := h
  refine ⟨_, (pss_one (ps_ret (pe_call G_L_take (hr.mono (by first | decide | (first | lia | omega))) rfl T.M_L_take T.F_L_take.kp T.B_L_take .nil pass0 (pa_cons (pv 0) (pa_cons (pe_ix ix_list0 (pe_lst (pa_cons pe_int (pa_cons pe_int (pa_cons pe_int (pa_cons (pe_op op_pow pe_int pe_int) pa_nil))))) (pe_call G_L_take (hr.mono (by first | decide | (first | lia | omega))) rfl T.M_L_take T.F_L_take.kp T.B_L_take .nil pass0 (pa_cons (pv 0) (pa_cons pe_int pa_nil))) (fun _ _ => rfl)) pa_nil))))), ?_⟩
  refine ⟨_, rfl, _, _, rfl, rfl, ⟨by decide, by decide, by decide⟩, (by show 4 ≤ sizeLine; decide), fun p hp => ?_⟩
  have np := hb.ne hp
  have G1 := Bg.new hb hp (.lst [.int 10, .int 100, .int 40, .int (10 ^ (9 : Int).toNat)])
  have f1 := upd_same (H := H) (a := p) (o := .lst [.int 10, .int 100, .int 40, .int (10 ^ (9 : Int).toNat)])
  refine ⟨_, rfl, l, 4, rfl, G1.2, by decide, by decide, fun d H2 d0 d1 g2 => ?_⟩
  have f2 := g2.1 _ _ np f1
  have G2 := G1.trans g2
  obtain ⟨n, rfl⟩ := Int.eq_ofNat_of_zero_le d0
  have hn : n < 4 := by (first | lia | omega)
  obtain ⟨m, hm, m0, m1⟩ : ∃ m : Int, atI [V.int 10, .int 100, .int 40, .int (10 ^ (9 : Int).toNat)] (n : Int) = some (.int m) ∧ 0 < m ∧ m ≤ 10 ^ 9 := by
    match n, hn with
    | 0, _ => exact ⟨10, rfl, by decide, by decide⟩
    | 1, _ => exact ⟨100, rfl, by decide, by decide⟩
    | 2, _ => exact ⟨40, rfl, by decide, by decide⟩
    | 3, _ => exact ⟨10 ^ (9 : Int).toNat, rfl, by decide, by decide⟩
  refine ⟨p, _, _, _, rfl, rfl, SqL.of f2, hm, l, m, rfl, G2.2, m0, Int.lt_of_le_of_lt m1 (by decide), fun e H3 e0 e1 g3 => ?_⟩
  obtain ⟨r, rfl⟩ := Int.eq_ofNat_of_zero_le e0
  exact q r H3 (by (first | lia | omega)) (G2.trans g3)
theorem ok_L_steps (T : Tx w K mg A) (G_L_number : FnOk P w K mg base CX0 2 A.a_L_number A.d_L_number ["_law_bag_here"] sp_L_number) (G_L_take : FnOk P w K mg base CX0 1 A.a_L_take A.d_L_take ["_law_bag_here", "_law_many"] sp_L_take) : FnOk P w K mg base CX0 3 A.a_L_steps A.d_L_steps ["_law_bag_here", "_law_many"] sp_L_steps := by
  refine T.F_L_steps.ok sc_L_steps (fun vs H Q E h => ?_) (fun cdv A' outer s H vs Q E hr h => ?_)
  · obtain ⟨l, n, rfl, hb, hn6, q⟩ := h
    rfl
  obtain ⟨l, n, rfl, hb, hn6, q⟩ := h
  refine ⟨_, (pss_cons (ps_set (i := 2) sc_L_steps.nd rfl (Or.inl rfl) (pe_lst pa_nil))
    (pss_cons (ps_for PassesOwn.never rfl (pi_range1 rfl T.range (pa_cons (pv 1) pa_nil)) (pg_name (i := 3) sc_L_steps.nd rfl (Or.inl rfl))
        (pss_cons (ps_set (i := 4) sc_L_steps.nd rfl (Or.inl rfl) (pe_ix ix_list0 (pe_lst (pa_cons pe_str (pa_cons pe_str pa_nil))) (pe_call G_L_take (hr.mono (by first | decide | (first | lia | omega))) rfl T.M_L_take T.F_L_take.kp T.B_L_take .nil pass0 (pa_cons (pv 0) (pa_cons pe_int pa_nil))) (fun _ _ => rfl)))
    (pss_cons (ps_set (i := 5) sc_L_steps.nd rfl (Or.inl rfl) (pe_call G_L_number (hr.mono (by first | decide | (first | lia | omega))) rfl T.M_L_number T.F_L_number.kp T.B_L_number .nil pass0 (pa_cons (pv 0) pa_nil)))
    (pss_cons (ps_set (i := 6) sc_L_steps.nd rfl (Or.inl rfl) (pe_call G_L_number (hr.mono (by first | decide | (first | lia | omega))) rfl T.M_L_number T.F_L_number.kp T.B_L_number .nil pass0 (pa_cons (pv 0) pa_nil)))
    (pss_one (ps_expr (pe_bmN PySem.F.plainAttrs_list PySem.F.slot_list_append PySem.F.type_list_append mt_append (pv 2) (pa_cons (pe_tup (pa_cons (pv 4) (pa_cons (pv 5) (pa_cons (pv 6) (pa_cons (pe_callTy call_tuple_of0 rfl T.tuple PyProof.Rows.boot_tuple (pa_cons (pe_comp [0] (fun _ _ h => h) rfl (pi_range1 rfl T.range (pa_cons (pe_call G_L_take (hr.mono (by first | decide | (first | lia | omega))) rfl T.M_L_take T.F_L_take.kp T.B_L_take .nil pass0 (pa_cons (pv 0) (pa_cons pe_int pa_nil))) pa_nil)) (fun _ _ _ _ => pts_nil) (fun _ _ _ _ => (pe_call G_L_number (hr.mono (by first | decide | (first | lia | omega))) rfl T.M_L_number T.F_L_number.kp T.B_L_number .nil pass0 (pa_cons (pv 1) pa_nil))) rfl (show ∀ j ∈ ([0] : List Nat), j < 7 by decide) (show (["_law_j", "_law_bag_here"] : List Str).Nodup by decide +kernel)) pa_nil)) pa_nil))))) pa_nil))))))))
    (pss_one (ps_ret (pv 2))))), ?_⟩
  refine ⟨(by show 0 ≤ sizeLine; decide), fun p hp => ?_⟩
  have np := hb.ne hp
  have G0 := Bg.new hb hp (.lst [])
  have fr : ∀ {H' : Hp} {t : Addr}, Bg l H H' → H' t = none → H t = none := fun {H' t} g ht => by
    cases e : H t with
    | none => rfl
    | some u => rw [g.1 t u (g.2.ne ht) e] at ht; cases ht
  have TB : ∀ {H1 H2 : Hp} {rs : List Addr} {Ss : List Stp}, Bag H1 l → Bg l H1 H2 → SLs false H1 p rs Ss → SLs false H2 p rs Ss := fun hB g h => ⟨g.1 _ _ np h.1, pairedMono (fun r S ⟨lf, e1, e2⟩ => ⟨lf, g.1 _ _ (hB.neT e1) e1, g.1 _ _ (hB.neT e2) e2⟩) h.2⟩
  refine ⟨_, rfl, _, rfl, by (first | lia | omega), by (first | lia | omega), for_range (lo := 0) (fun i σ H' => ∃ (x3 x4 x5 x6 : Option V) (rs : List Addr) (Ss : List Stp), σ = [some (.ref l), some (.int (n : Int)), some (.ref p), x3, x4, x5, x6] ∧ Bg l H H' ∧ SLs false H' p rs Ss ∧ Ss.length = i ∧ ∀ S ∈ Ss, S.Ok) ⟨_, _, _, _, [], [], rfl, G0, ⟨upd_same, .nil⟩, rfl, by simp⟩ ?_ ?_⟩
  · rintro i σ H1 hi ⟨x3, x4, x5, x6, rs, Ss, rfl, G1, T1, hl1, ok1⟩
    refine ⟨(by show 2 ≤ sizeLine; decide), fun pq hpq => ?_⟩
    have npq := G1.2.ne hpq
    have g2 := Bg.new G1.2 hpq (.lst [.str "stands", .str "row"])
    have f2 := upd_same (H := H1) (a := pq) (o := .lst [.str "stands", .str "row"])
    have T2 := TB G1.2 g2 T1
    have G2 := G1.trans g2
    generalize upd H1 pq (.lst [.str "stands", .str "row"]) = H2 at g2 f2 T2 G2 ⊢
    refine ⟨_, rfl, l, 2, rfl, G2.2, by decide, by decide, fun d H3 d0 d1 g3 => ?_⟩
    have T3 := TB G2.2 g3 T2
    have f3 := g3.1 _ _ npq f2
    have G3 := G2.trans g3
    obtain ⟨wd, hat, hwd⟩ : ∃ wd : Str, atI [V.str "stands", .str "row"] d = some (.str wd) ∧ (wd = "stands" ∨ wd = "row") := by
      obtain ⟨k, rfl⟩ := Int.eq_ofNat_of_zero_le d0
      match k, (show k < 2 by (first | lia | omega)) with
      | 0, _ => exact ⟨_, rfl, .inl rfl⟩
      | 1, _ => exact ⟨_, rfl, .inr rfl⟩
    refine ⟨pq, _, _, _, rfl, rfl, SqL.of f3, hat, ?_⟩
    refine ⟨_, rfl, l, rfl, G3.2, fun a H4 ha g4 => ?_⟩
    have T4 := TB G3.2 g4 T3
    have G4 := G3.trans g4
    refine ⟨_, rfl, l, rfl, G4.2, fun b H5 hb5 g5 => ?_⟩
    have T5 := TB G4.2 g5 T4
    have G5 := G4.trans g5
    refine ⟨_, rfl, .inl ⟨rfl, _, SqL.of T5.1⟩, _, rfl, _, rfl, _, rfl, _, rfl, l, 8, rfl, G5.2, by decide, by decide, fun m H6 m0 m1 g6 => ?_⟩
    have T6 := TB G5.2 g6 T5
    have G6 := G5.trans g6
    obtain ⟨mn, rfl⟩ := Int.eq_ofNat_of_zero_le m0
    refine ⟨_, rfl, by (first | lia | omega), by (first | lia | omega), comp_range (lo := 0) (fun i ys H' => ∃ ls : List Nat, ys = nV ls ∧ Bg l H6 H' ∧ ls.length = i ∧ ∀ n ∈ ls, n < 10 ^ 9) ⟨[], rfl, Bg.refl G6.2, rfl, by simp⟩ ?_ ?_ ?_⟩
    · rintro i ys H' hi ⟨ls, rfl, _, hl, _⟩
      rw [nV_len]
      exact smallL (by (first | lia | omega))
    · rintro i ys H' hi ⟨ls, rfl, g', hl, hls⟩
      unfold tYes
      refine iteT ⟨_, rfl, l, rfl, g'.2, fun y H7 hy g7 => ⟨ls ++ [y], by unfold nV; rw [List.map_append]; rfl, g'.trans g7, by rw [List.length_append, hl]; rfl, fun n hn => ?_⟩⟩
      rcases List.mem_append.mp hn with h | h
      · exact hls n h
      · rw [List.mem_singleton.mp h]; exact hy
    · rintro ys H7 ⟨ls, rfl, g7, hl, hls⟩ py hpy
      rw [Int.toNat_natCast] at hl
      have T7 := TB G6.2 g7 T6
      have G7 := G6.trans g7
      have npy := G7.2.ne hpy
      have hpyH := fr G7 hpy
      have sy := same_new hpy (.lst (nV ls))
      have G8 := G7.set hpyH npy (.lst (nV ls))
      have T8 := T7.same sy
      refine ⟨py, _, rfl, .inl ⟨SqL.of upd_same, fun lf hlf => ?_⟩⟩
      have nlf := G8.2.ne hlf
      have hlfH := fr G8 hlf
      have slf := same_new hlf (.tup (nV ls))
      have G9 := G8.set hlfH nlf (.tup (nV ls))
      have T9 := T8.same slf
      have f9 := upd_same (H := upd H7 py (.lst (nV ls))) (a := lf) (o := .tup (nV ls))
      refine ⟨(by show 4 ≤ sizeLine; decide), fun t ht => ?_⟩
      have ntl := G9.2.ne ht
      have htH := fr G9 ht
      have st := same_new ht (.tup [.str wd, .int (a : Int), .int (b : Int), .ref lf])
      have T10 := T9.same st
      refine ⟨p, _, _, rfl, rfl, T10.1, smallL (by rw [List.length_map, Paired.length T10.2]; (first | lia | omega)), ?_⟩
      have G10 := (G9.set htH ntl (.tup [.str wd, .int (a : Int), .int (b : Int), .ref lf])).set hp np (.lst (rs.map V.ref ++ [.ref t]))
      have npt : t ≠ p := fun e => by rw [e, T9.1] at ht; cases ht
      refine ⟨_, _, _, _, rs ++ [t], Ss ++ [⟨wd, a, b, ls⟩], rfl, G10, ⟨by rw [upd_same, List.map_append]; rfl, ?_⟩, by rw [List.length_append, hl1]; rfl, fun S hS => ?_⟩
      · have keep : ∀ {c : Addr} {xs : List V}, (upd (upd (upd H7 py (.lst (nV ls))) lf (.tup (nV ls))) t (.tup [.str wd, .int (a : Int), .int (b : Int), .ref lf])) c = some (.tup xs) → (upd (upd (upd (upd H7 py (.lst (nV ls))) lf (.tup (nV ls))) t (.tup [.str wd, .int (a : Int), .int (b : Int), .ref lf])) p (.lst (rs.map V.ref ++ [.ref t]))) c = some (.tup xs) := fun {c xs} e => by
          rw [upd_ne (fun z => by rw [z, T10.1] at e; cases e)]
          exact e
        exact pairedSnoc (R := StR _) ⟨lf, keep upd_same, keep (st _ _ f9)⟩ (pairedMono (fun r S ⟨lf, e1, e2⟩ => ⟨lf, keep e1, keep e2⟩) T10.2)
      · rcases List.mem_append.mp hS with h | h
        · exact ok1 S h
        · rw [List.mem_singleton.mp h]
          exact ⟨hwd, ha, hb5, hls, by show ls.length ≤ 7; (first | lia | omega)⟩
  · rintro σ H1 ⟨x3, x4, x5, x6, rs, Ss, rfl, G1, T1, hl1, ok1⟩
    rw [Int.toNat_natCast] at hl1
    exact ⟨_, rfl, q p rs Ss H1 G1 hp T1 hl1 ok1⟩
theorem ok_L_step_text (T : Tx w K mg A) : FnOk P w K mg base CX0 1 A.a_L_step_text A.d_L_step_text ["_law_word", "_law_step"] sp_L_step_text := by
  refine T.F_L_step_text.ok sc_L_step_text (fun vs H Q E h => ?_) (fun cdv A' outer s H vs Q E hr h => ?_)
  · obtain ⟨w, r, S, rfl, ⟨lf, h2, h3⟩, ok, hw, q⟩ := h
    rfl
  obtain ⟨w, r, S, rfl, ⟨lf, h2, h3⟩, ok, hw, q⟩ := h
  refine ⟨_, (pss_cons (ps_set (i := 2) sc_L_step_text.nd rfl (Or.inl rfl) (pe_op op_add_str (pe_op op_add_str (pe_op op_add_str (pe_op op_add_str (pe_op op_add_str (pe_op op_add_str (pe_op op_add_str (pv 0) pe_str) (pe_ix ix_tup0 (pv 1) pe_int (fun _ _ => rfl))) pe_str) (pe_callTy call_str_int rfl T.str PyProof.Rows.boot_str (pa_cons (pe_ix ix_tup0 (pv 1) pe_int (fun _ _ => rfl)) pa_nil))) pe_str) (pe_callTy call_str_int rfl T.str PyProof.Rows.boot_str (pa_cons (pe_ix ix_tup0 (pv 1) pe_int (fun _ _ => rfl)) pa_nil))) pe_str))
    (pss_cons (ps_for PassesOwn.never rfl (pi_tup0 (pe_ix ix_tup0 (pv 1) pe_int (fun _ _ => rfl))) (pg_name (i := 3) sc_L_step_text.nd rfl (Or.inl rfl))
        (pss_one (ps_set (i := 2) sc_L_step_text.nd rfl (Or.inl rfl) (pe_op op_add_str (pe_op op_add_str (pv 2) pe_str) (pe_callTy call_str_int rfl T.str PyProof.Rows.boot_str (pa_cons (pv 3) pa_nil))))))
    (pss_one (ps_ret (pv 2))))), ?_⟩
  have lwd : S.wd.length ≤ 6 := by rcases ok.wd with e | e <;> rw [e] <;> decide
  have la := nw_len ok.a
  have lb := nw_len ok.b
  have l1 : (Str.ofString " ").length = 1 := by decide
  have l2 : (Str.ofString " :").length = 2 := by decide
  refine ⟨_, rfl, _, _, rfl, rfl, small (by (first | lia | omega)), _, rfl, r, _, _, _, rfl, rfl, SqT.of h2, rfl, _, _, rfl, rfl, small (by rw [Str.length_append]; (first | lia | omega)), _, _, rfl, rfl, small (by rw [Str.length_append, Str.length_append]; (first | lia | omega)), _, rfl, r, _, _, _, rfl, rfl, SqT.of h2, rfl, _, rfl, lgN ok.a, _, _, rfl, rfl, ?_, _, _, rfl, rfl, ?_, _, rfl, r, _, _, _, rfl, rfl, SqT.of h2, rfl, _, rfl, lgN ok.b, _, _, rfl, rfl, ?_, _, _, rfl, rfl, ?_, ?_⟩
  · exact small (show (w ++ Str.ofString " " ++ S.wd ++ Str.ofString " ").length + (nw S.a).length ≤ 100000 by rw [Str.length_append, Str.length_append, Str.length_append]; (first | lia | omega))
  · exact small (show (w ++ Str.ofString " " ++ S.wd ++ Str.ofString " " ++ nw S.a).length + (Str.ofString " ").length ≤ 100000 by rw [Str.length_append, Str.length_append, Str.length_append, Str.length_append]; (first | lia | omega))
  · exact small (show (w ++ Str.ofString " " ++ S.wd ++ Str.ofString " " ++ nw S.a ++ Str.ofString " ").length + (nw S.b).length ≤ 100000 by rw [Str.length_append, Str.length_append, Str.length_append, Str.length_append, Str.length_append]; (first | lia | omega))
  · exact small (show (w ++ Str.ofString " " ++ S.wd ++ Str.ofString " " ++ nw S.a ++ Str.ofString " " ++ nw S.b).length + (Str.ofString " :").length ≤ 100000 by rw [Str.length_append, Str.length_append, Str.length_append, Str.length_append, Str.length_append, Str.length_append]; (first | lia | omega))
  have e0 : w ++ Str.ofString " " ++ S.wd ++ Str.ofString " " ++ nw S.a ++ Str.ofString " " ++ nw S.b ++ Str.ofString " :" = rowT ([w, S.wd, nw S.a, nw S.b, Str.ofString ":"] ++ (S.ls.take 0).map nw) := by
    show _ = w ++ ⟨#[32]⟩ ++ (S.wd ++ ⟨#[32]⟩ ++ (nw S.a ++ ⟨#[32]⟩ ++ (nw S.b ++ ⟨#[32]⟩ ++ Str.ofString ":")))
    rw [e32, show Str.ofString " :" = ⟨#[32]⟩ ++ Str.ofString ":" by decide]
    simp only [Str.append_assoc]
  show tSeq _ _ _ [some (.str w), some (.ref r), some (.str (w ++ Str.ofString " " ++ S.wd ++ Str.ofString " " ++ nw S.a ++ Str.ofString " " ++ nw S.b ++ Str.ofString " :")), none] _
  rw [e0]
  refine ⟨_, rfl, r, _, _, _, rfl, rfl, SqT.of h2, rfl, lf, rfl, ⟨_, SqT.of h3⟩, for_tup (xs := nV S.ls) (fun i σ H' => ∃ x3 : Option V, σ = [some (.str w), some (.ref r), some (.str (rowT ([w, S.wd, nw S.a, nw S.b, Str.ofString ":"] ++ (S.ls.take i).map nw))), x3] ∧ H = H') ⟨_, rfl, rfl⟩ ?_ ?_ ?_⟩
  · rintro i σ H' _ ⟨_, _, rfl⟩
    exact SqT.of h3
  · rintro i x σ H' hx ⟨x3, rfl, rfl⟩
    obtain ⟨n, hi, rfl⟩ : ∃ n, S.ls[i]? = some n ∧ V.int (n : Int) = x := by
      unfold nV at hx
      rw [List.getElem?_map] at hx
      exact Option.map_eq_some_iff.mp hx
    have hn := ok.ls n (List.mem_of_getElem? hi)
    have ln := nw_len hn
    have hil := (List.getElem?_eq_some_iff.mp hi).1
    have hlen := ok.len
    have hl : (rowT ([w, S.wd, nw S.a, nw S.b, Str.ofString ":"] ++ (S.ls.take i).map nw)).length ≤ 400 := by
      have h := join_len ⟨#[32]⟩ ([w, S.wd, nw S.a, nw S.b, Str.ofString ":"] ++ (S.ls.take i).map nw) (m := 10) (fun t ht => ?_) rfl
      · rw [List.length_append, List.length_map, List.length_take] at h
        have : [w, S.wd, nw S.a, nw S.b, Str.ofString ":"].length = 5 := rfl
        unfold rowT
        (first | lia | omega)
      · rcases List.mem_append.mp ht with ht | ht
        · simp only [List.mem_cons, List.not_mem_nil, or_false] at ht
          rcases ht with rfl | rfl | rfl | rfl | rfl
          · exact hw
          · (first | lia | omega)
          · (first | lia | omega)
          · (first | lia | omega)
          · decide
        · obtain ⟨m, hm, rfl⟩ := List.mem_map.mp ht
          have := nw_len (ok.ls m (List.mem_of_mem_take hm))
          (first | lia | omega)
    refine ⟨_, rfl, _, _, rfl, rfl, small (by (first | lia | omega)), _, rfl, _, rfl, lgN hn, _, _, rfl, rfl, small (show (rowT ([w, S.wd, nw S.a, nw S.b, Str.ofString ":"] ++ (S.ls.take i).map nw) ++ Str.ofString " ").length + (nw n).length ≤ 100000 by rw [Str.length_append]; (first | lia | omega)), ?_⟩
    refine ⟨some (.int (n : Int)), ?_, rfl⟩
    have e : rowT ([w, S.wd, nw S.a, nw S.b, Str.ofString ":"] ++ (S.ls.take (i + 1)).map nw) = rowT ([w, S.wd, nw S.a, nw S.b, Str.ofString ":"] ++ (S.ls.take i).map nw) ++ Str.ofString " " ++ nw n := by
      rw [List.take_add_one, hi, List.map_append, ← List.append_assoc]
      show rowT (_ ++ [nw n]) = _
      rw [row_snoc (by simp), e32]
    rw [e]
    rfl
  · rintro σ H' ⟨x3, rfl, rfl⟩
    rw [nV_len, List.take_length]
    exact ⟨_, rfl, q⟩
theorem ok_L_text (T : Tx w K mg A) (G_L_step_text : FnOk P w K mg base CX0 1 A.a_L_step_text A.d_L_step_text ["_law_word", "_law_step"] sp_L_step_text) : FnOk P w K mg base CX0 2 A.a_L_text A.d_L_text ["_law_paper"] sp_L_ptext := by
  refine T.F_L_text.ok sc_L_text (fun vs H Q E h => ?_) (fun cdv A' outer s H vs Q E hr h => ?_)
  · obtain ⟨w, k, p1, p2, p3, ks, r1, r2, r3, P, rfl, hA, ok, q⟩ := h
    rfl
  obtain ⟨w, k, p1, p2, p3, ks, r1, r2, r3, P, rfl, hA, ok, q⟩ := h
  refine ⟨_, (pss_cons (ps_compG ["_law_one", "_law_other"] [] sc_L_text.nd (i := 1) rfl (Or.inl rfl) (fun _ _ h => h) rfl (pi_list0 (pe_ix ix_tup0 (pv 0) pe_int (fun _ _ => rfl))) (fun _ _ _ _ => (pg_tup0 rfl (pgs_cons (pg_name (i := 0) (show (["_law_one", "_law_other"] : List Str).Nodup by decide +kernel) rfl (Or.inl rfl)) (pgs_cons (pg_name (i := 1) (show (["_law_one", "_law_other"] : List Str).Nodup by decide +kernel) rfl (Or.inl rfl)) pgs_nil)))) shp_tup2 (fun _ _ _ _ => pts_nil) (fun _ _ _ _ => (pe_op op_add_str (pe_op op_add_str (pe_op op_add_str pe_str (pe_callTy call_str_int rfl T.str PyProof.Rows.boot_str (pa_cons (pv 0) pa_nil))) pe_str) (pe_callTy call_str_int rfl T.str PyProof.Rows.boot_str (pa_cons (pv 1) pa_nil)))) rfl (show ∀ j ∈ ([] : List Nat), j < 3 by decide) (by with_unfolding_all rfl))
    (pss_cons (ps_for PassesOwn.never rfl (pi_range1 rfl T.range (pa_cons pe_int pa_nil)) (pg_name (i := 2) sc_L_text.nd rfl (Or.inr rfl))
        (pss_one (ps_set (i := 1) sc_L_text.nd rfl (Or.inl rfl) (pe_op op_cat (pv 1) (pe_comp [2] (fun _ _ h => h) rfl (pi_list0 (pe_ix ix_tup0 (pv 0) (pe_op op_add (pv 2) pe_int) (fun _ _ => rfl))) (fun _ _ _ _ => pts_nil) (fun _ _ _ _ => (pe_call G_L_step_text (hr.mono (by first | decide | (first | lia | omega))) rfl T.M_L_step_text T.F_L_step_text.kp T.B_L_step_text .nil pass0 (pa_cons (pe_ix ix_list0 (pe_lst (pa_consts rfl)) (pv 1) (fun _ _ => rfl)) (pa_cons (pv 0) pa_nil)))) rfl (show ∀ j ∈ ([2] : List Nat), j < 3 by decide) (show (["_law_step", "_law_k"] : List Str).Nodup by decide +kernel))))))
    (pss_one (ps_ret (pe_bmN PySem.F.plainAttrs_str PySem.F.slot_str_join PySem.F.type_str_join mt_join pe_str (pa_cons (pv 1) pa_nil)))))), ?_⟩
  have hk : H k = some (.lst (ks.map V.ref)) := hA.k.1
  refine ⟨_, rfl, w, _, _, _, rfl, rfl, SqT.of hA.w, rfl, k, rfl, ⟨_, SqL.of hk⟩, comp_listG (xs := ks.map V.ref) (fun i ys H' => H = H' ∧ ys = sV ((P.kept.take i).map fun ns => rowT (Str.ofString "kept" :: ns.map nw))) ⟨rfl, rfl⟩ ?_ ?_ ?_ ?_⟩
  · rintro i ys H' _ ⟨rfl, _⟩
    exact SqL.of hk
  · rintro i ys H' hi ⟨rfl, rfl⟩
    rw [sV_len, List.length_map, List.length_take]
    have := ok.nk
    exact smallL (by (first | lia | omega))
  · rintro i x ys H' os hos hx ⟨rfl, rfl⟩
    obtain ⟨r, hr1, rfl⟩ : ∃ r, ks[i]? = some r ∧ V.ref r = x := by
      rw [List.getElem?_map] at hx
      exact Option.map_eq_some_iff.mp hx
    obtain ⟨ns, h1, h2⟩ := pairedGet hA.k.2 hr1
    obtain ⟨u, v, rfl, hu, hv⟩ := ok.kp ns (List.mem_of_getElem? h1)
    have lu := nw_len hu
    have lv := nw_len hv
    have l5 : (Str.ofString "kept ").length = 5 := by decide
    have l1 : (Str.ofString " ").length = 1 := by decide
    match os, hos with
    | [o1, o2], _ =>
      refine ⟨r, _, rfl, SqT.of h2, rfl, _, _, rfl, _, _, rfl, rfl, ?_⟩
      unfold tYes
      refine iteT ⟨_, rfl, _, rfl, lgN hu, _, _, rfl, rfl, ?_, _, _, rfl, rfl, ?_, _, rfl, _, rfl, lgN hv, _, _, rfl, rfl, ?_, rfl, ?_⟩
      · exact small (show (Str.ofString "kept ").length + (nw u).length ≤ 100000 by (first | lia | omega))
      · exact small (show (Str.ofString "kept " ++ nw u).length + (Str.ofString " ").length ≤ 100000 by rw [Str.length_append]; (first | lia | omega))
      · exact small (show (Str.ofString "kept " ++ nw u ++ Str.ofString " ").length + (nw v).length ≤ 100000 by rw [Str.length_append, Str.length_append]; (first | lia | omega))
      · rw [List.take_add_one, h1, List.map_append]
        show _ ++ [V.str (Str.ofString "kept " ++ nw u ++ Str.ofString " " ++ nw v)] = sV (_ ++ [rowT (Str.ofString "kept" :: [u, v].map nw)])
        rw [sV_snoc, keptT]
        rfl
  rintro ys H' ⟨rfl, rfl⟩ l hl
  rw [List.length_map, Paired.length hA.k.2, List.take_length]
  have s1 := same_new hl (.lst (sV (P.kept.map fun ns => rowT (Str.ofString "kept" :: ns.map nw))))
  have f1 := upd_same (H := H) (a := l) (o := .lst (sV (P.kept.map fun ns => rowT (Str.ofString "kept" :: ns.map nw))))
  show tSeq _ _ _ _ (upd H l (.lst (sV (P.kept.map fun ns => rowT (Str.ofString "kept" :: ns.map nw)))))
  generalize upd H l (.lst (sV (P.kept.map fun ns => rowT (Str.ofString "kept" :: ns.map nw)))) = H1 at s1 f1 ⊢
  refine ⟨_, rfl, by decide, by decide, for_range (lo := 0) (fun i σ H' => ∃ (x2 : Option V) (l : Addr) (T : List Str), σ = [some (.ref w), some (.ref l), x2] ∧ Same H H' ∧ H' l = some (.lst (sV T)) ∧ T = (P.kept.map fun ns => rowT (Str.ofString "kept" :: ns.map nw)) ++ ((sRows P).take i).flatten.map rowT ∧ T.length ≤ 6 + 6 * i) ⟨_, l, _, rfl, s1, f1, by simp, by rw [List.length_map]; exact ok.nk⟩ ?_ ?_⟩
  · rintro i σ H2 hi ⟨x2, l, T, rfl, s2, f2, hT, lT⟩
    have hi3 : i < 3 := hi
    have A2 := hA.same s2
    have hx : (sV [Str.ofString "start", Str.ofString "next", Str.ofString "now"])[i]? = some ((sV [Str.ofString "start", Str.ofString "next", Str.ofString "now"])[i]'(by show i < 3; exact hi3)) := List.getElem?_eq_getElem _
    have hy : [V.ref p1, .ref p2, .ref p3][i]? = some ([V.ref p1, .ref p2, .ref p3][i]'(by show i < 3; exact hi3)) := List.getElem?_eq_getElem _
    obtain ⟨wd, p, rq, Ss, e1, e2, Q2, okS, lS, lw, hsec⟩ := A2.sec ok hx hy
    rw [e1] at hx
    rw [e2] at hy
    have hpw : atI [V.ref k, .ref p1, .ref p2, .ref p3] (0 + (i : Int) + 1) = some (.ref p) := by
      rw [show (0 + (i : Int) + 1) = ((i + 1 : Nat) : Int) by (first | lia | omega)]
      exact atI_nat (by simpa using hy)
    have hQ : H2 p = some (.lst (rq.map V.ref)) := Q2.1
    refine ⟨_, rfl, _, rfl, _, rfl, _, _, rfl, rfl, w, _, _, _, rfl, rfl, SqT.of A2.w, hpw, p, rfl, ⟨_, SqL.of hQ⟩, comp_list (xs := rq.map V.ref) (fun j ys H' => ys = sV ((Ss.take j).map fun S => rowT (srow wd S)) ∧ Same H2 H') ⟨rfl, Same.refl _⟩ ?_ ?_ ?_ ?_⟩
    · rintro j ys H' _ ⟨_, s'⟩
      exact SqL.of (s' _ _ hQ)
    · rintro j ys H' _ ⟨rfl, _⟩
      rw [sV_len, List.length_map, List.length_take]
      exact smallL (by (first | lia | omega))
    · rintro j x ys H' hxj ⟨rfl, s'⟩
      obtain ⟨r, hr1, rfl⟩ : ∃ r, rq[j]? = some r ∧ V.ref r = x := by
        rw [List.getElem?_map] at hxj
        exact Option.map_eq_some_iff.mp hxj
      obtain ⟨S, h1, h2⟩ := pairedGet Q2.2 hr1
      refine ⟨(by show 3 ≤ sizeLine; decide), fun pz hpz => ?_⟩
      have sz := same_new hpz (.lst (sV [Str.ofString "start", Str.ofString "next", Str.ofString "now"]))
      refine ⟨_, rfl, pz, _, _, _, rfl, rfl, SqL.of upd_same, at0 hx, _, rfl, wd, r, S, rfl, (h2.same s').same sz, okS S (List.mem_of_getElem? h1), lw, ?_, s'.trans sz⟩
      rw [List.take_add_one, h1, List.map_append]
      show _ = sV (_ ++ [rowT (srow wd S)])
      rw [sV_snoc]
    · rintro ys H3 ⟨rfl, s3⟩ y hy3
      rw [List.length_map, Paired.length Q2.2, List.take_length]
      have sy := same_new hy3 (.lst (sV (Ss.map fun S => rowT (srow wd S))))
      have S3 := (s2.trans s3).trans sy
      refine ⟨l, y, _, _, rfl, rfl, (s3.trans sy) _ _ f2, upd_same, small (by rw [sV_len, sV_len, List.length_map]; (first | lia | omega)), fun z hz => ?_⟩
      have sz := same_new hz (.lst (sV T ++ sV (Ss.map fun S => rowT (srow wd S))))
      refine ⟨_, z, T ++ Ss.map fun S => rowT (srow wd S), rfl, S3.trans sz, ?_, ?_, by rw [List.length_append, List.length_map]; (first | lia | omega)⟩
      · rw [upd_same]
        unfold sV
        rw [List.map_append]
      · rw [flat_snoc hsec, List.map_append, ← List.append_assoc, ← hT, List.map_map]
        rfl
  · rintro σ H2 ⟨x2, l, T, rfl, s2, f2, hT, lT⟩
    have eT : T = (pRows P).map rowT := by
      rw [hT, pRows_s, List.map_append, List.map_map]
      rfl
    subst eT
    refine ⟨rfl, _, rfl, _, l, (pRows P).map rowT, rfl, rfl, SqL.of f2, ?_, ?_⟩
    · have okR := pRows_ok ok
      have h1 := StrLaws.sumLen_le (B := 420) ((pRows P).map rowT) fun t ht => by obtain ⟨ws, h1, rfl⟩ := List.mem_map.mp ht; exact row_len (okR.gw ws h1) (okR.len ws h1)
      have h2 := okR.many
      rw [List.length_map] at h1 ⊢
      rw [e10]
      show _ + (pRows P).length * 1 ≤ _
      (first | lia | omega)
    · rw [show Txt.join (Str.ofString "\n") ((pRows P).map rowT) = txt (pRows P) from by rw [e10]; exact StrLaws.glued_eq_join _ _]
      exact q _ s2
theorem ok_L_numbers (T : Tx w K mg A) (G_L_whole : FnOk P w K mg base CX0 1 A.a_L_whole A.d_L_whole ["_law_found"] whole_sp) : FnOk P w K mg base CX0 2 A.a_L_numbers A.d_L_numbers ["_law_some"] sp_L_numbers := by
  refine T.F_L_numbers.ok sc_L_numbers (fun vs H Q E h => ?_) (fun cdv A' outer s H vs Q E hr h => ?_)
  · obtain ⟨p, ns, rfl, hp, hl, q⟩ := h
    rfl
  obtain ⟨p, ns, rfl, hp, hl, q⟩ := h
  refine ⟨_, (pss_one (ps_ret (pe_and (pe_callB (call_isinst (T := "tuple")) rfl T.isinstance PyProof.Rows.boot_isinstance (pa_cons (pv 0) (pa_cons (pe_bltn (v := .ty "tuple") rfl T.tuple PyProof.Rows.boot_tuple rfl) pa_nil))) (pe_one (pe_callB call_all0 rfl T.all PyProof.Rows.boot_all (pa_cons (pe_comp [] (fun _ _ h => h) rfl (pi_tup0 (pv 0)) (fun _ _ _ _ => pts_nil) (fun _ _ _ _ => (pe_call G_L_whole (hr.mono (by first | decide | (first | lia | omega))) rfl T.M_L_whole T.F_L_whole.kp T.B_L_whole .nil pass0 (pa_cons (pv 0) pa_nil))) rfl (show ∀ j ∈ ([] : List Nat), j < 1 by decide) (show (["_law_number_here"] : List Str).Nodup by decide +kernel)) pa_nil)))))), ?_⟩
  refine ⟨_, rfl, _, _, true, rfl, TyOf.tup hp, rfl, _, rfl, iteT ⟨_, rfl, p, rfl, ⟨_, SqT.of hp⟩, comp_tup_map (xs := nV ns) (fun _ => .bl true) (SqT.of hp) (by rw [nV_len]; (first | lia | omega)) (fun x hx N hN => ?_) fun y hy => ?_⟩⟩
  · obtain ⟨v, _, rfl⟩ := List.mem_map.mp hx
    exact ⟨_, rfl, _, rfl, hN⟩
  rw [map_true]
  refine ⟨rfl, y, _, rfl, SqL.of upd_same, ?_⟩
  rw [all_true]
  exact q _ (same_new hy _)
theorem ok_L_read (T : Tx w K mg A) (G_read_paper : FnOk P w K mg base CX0 5 A.a_read_paper A.d_read_paper ["text"] sp_read_paper) (G_L_numbers : FnOk P w K mg base CX0 2 A.a_L_numbers A.d_L_numbers ["_law_some"] sp_L_numbers) : FnOk P w K mg base CX0 6 A.a_L_read A.d_L_read ["_law_paper", "_law_text_here"] sp_L_pread := by
  refine T.F_L_read.ok sc_L_read (fun vs H Q E h => ?_) (fun cdv A' outer s H vs Q E hr h => ?_)
  · obtain ⟨w, k, p1, p2, p3, ks, r1, r2, r3, P, rfl, hA, ok, q⟩ := h
    rfl
  obtain ⟨w, k, p1, p2, p3, ks, r1, r2, r3, P, rfl, hA, ok, q⟩ := h
  have hu64 := hr.units
  refine ⟨_, (pss_cons (ps_set (i := 2) sc_L_read.nd rfl (Or.inl rfl) (pe_call G_read_paper (hr.mono (by first | decide | (first | lia | omega))) rfl T.M_read_paper T.F_read_paper.kp T.B_read_paper .nil pass0 (pa_cons (pv 1) pa_nil)))
    (pss_cons (ps_if (PW.pt (pw_or (pt_not (pt_truth0 (pe_callB (call_isinst (T := "tuple")) rfl T.isinstance PyProof.Rows.boot_isinstance (pa_cons (pv 2) (pa_cons (pe_bltn (v := .ty "tuple") rfl T.tuple PyProof.Rows.boot_tuple rfl) pa_nil))) (fun _ => rfl))) (pw_or (pt_cmpR op_ne (pe_callB call_len0 rfl T.len PySem.boot_len (pa_cons (pv 2) pa_nil)) pe_int (nomark _)) (pw_or1 (pt_cmpR (op_neD hu64) (pv 2) (pv 0) (nomark _)))))) (pss_one (ps_ret pe_bl)) pss_nil)
    (pss_cons (ps_if (PW.pt (pw_or (pt_not (pt_truth0 (pe_callB call_all0 rfl T.all PyProof.Rows.boot_all (pa_cons (pe_comp [] (fun _ _ h => h) rfl (pi_tup0 (pv 2)) (fun _ _ _ _ => pts_nil) (fun _ _ _ _ => (pe_callB (call_isinstK (K := K) rfl (T := "list")) rfl T.isinstance PyProof.Rows.boot_isinstance (pa_cons (pv 0) (pa_cons (pe_bltn (v := .ty "list") rfl T.list PyProof.Rows.boot_list rfl) pa_nil)))) rfl (show ∀ j ∈ ([] : List Nat), j < 5 by decide) (show (["_law_some"] : List Str).Nodup by decide +kernel)) pa_nil)) (fun _ => rfl))) (pw_or1 (pt_not (pt_truth0 (pe_callB call_all0 rfl T.all PyProof.Rows.boot_all (pa_cons (pe_comp [] (fun _ _ h => h) rfl (pi_list0 (pe_ix ix_tup0 (pv 2) pe_int (fun _ _ => rfl))) (fun _ _ _ _ => pts_nil) (fun _ _ _ _ => (pe_call G_L_numbers (hr.mono (by first | decide | (first | lia | omega))) rfl T.M_L_numbers T.F_L_numbers.kp T.B_L_numbers .nil pass0 (pa_cons (pv 0) pa_nil))) rfl (show ∀ j ∈ ([] : List Nat), j < 5 by decide) (show (["_law_pair"] : List Str).Nodup by decide +kernel)) pa_nil)) (fun _ => rfl)))))) (pss_one (ps_ret pe_bl)) pss_nil)
    (pss_cons (ps_for PassesOwn.never rfl (pi_tup0 (pe_slice sl_tup0 (pv 2) (po_some pe_int) po_none)) (pg_name (i := 3) sc_L_read.nd rfl (Or.inl rfl))
        (pss_one (ps_for PassesOwn.never rfl (pi_list0 (pv 3)) (pg_name (i := 4) sc_L_read.nd rfl (Or.inl rfl))
        (pss_cons (ps_if (PW.pt (pw_or (pt_not (pt_truth0 (pe_callB (call_isinst (T := "tuple")) rfl T.isinstance PyProof.Rows.boot_isinstance (pa_cons (pv 4) (pa_cons (pe_bltn (v := .ty "tuple") rfl T.tuple PyProof.Rows.boot_tuple rfl) pa_nil))) (fun _ => rfl))) (pw_or (pt_not (pt_truth0 (pe_callB (call_isinst (T := "str")) rfl T.isinstance PyProof.Rows.boot_isinstance (pa_cons (pe_ix ix_tup0 (pv 4) pe_int (fun _ _ => rfl)) (pa_cons (pe_bltn (v := .ty "str") rfl T.str PyProof.Rows.boot_str rfl) pa_nil))) (fun _ => rfl))) (pw_or1 (pt_not (pt_truth0 (pe_call G_L_numbers (hr.mono (by first | decide | (first | lia | omega))) rfl T.M_L_numbers T.F_L_numbers.kp T.B_L_numbers .nil pass0 (pa_cons (pe_slice sl_tup0 (pv 4) (po_some pe_int) (po_some pe_int)) pa_nil)) (fun _ => rfl))))))) (pss_one (ps_ret pe_bl)) pss_nil)
    (pss_one (ps_if (pt_not (pt_truth0 (pe_call G_L_numbers (hr.mono (by first | decide | (first | lia | omega))) rfl T.M_L_numbers T.F_L_numbers.kp T.B_L_numbers .nil pass0 (pa_cons (pe_ix ix_tup0 (pv 4) pe_int (fun _ _ => rfl)) pa_nil)) (fun _ => rfl))) (pss_one (ps_ret pe_bl)) pss_nil))))))
    (pss_cons (ps_expr (pe_bmN PySem.F.plainAttrs_list PySem.F.slot_list_append PySem.F.type_list_append mt_append (pe_ix ix_tup0 (pv 2) pe_int (fun _ _ => rfl)) (pa_cons (pe_tup (pa_cons pe_int (pa_cons pe_int pa_nil))) pa_nil)))
    (pss_cons (ps_expr (pe_bm00 PySem.F.plainAttrs_list PySem.F.slot_list_clear PySem.F.type_list_clear mt_clear (pe_ix ix_tup0 (pv 2) pe_int (fun _ _ => rfl))))
    (pss_cons (ps_expr (pe_bm00 PySem.F.plainAttrs_list PySem.F.slot_list_reverse PySem.F.type_list_reverse mt_reverse (pe_ix ix_tup0 (pv 2) pe_int (fun _ _ => rfl))))
    (pss_one (ps_ret pe_bl))))))))), ?_⟩
  refine ⟨_, rfl, P, rfl, ok, fun w2 k2 a1 a2 a3 ks2 v1 v2 v3 H2 hk2 ha2 ha3 n02 n03 n23 s2 V2 => ?_⟩
  refine ⟨_, rfl, _, _, true, rfl, TyOf.tup V2.w, rfl, _, rfl, ?_⟩
  refine ite_f rfl ⟨_, rfl, _, _, rfl, .inr ⟨_, SqT.of V2.w, rfl⟩, rfl, _, rfl, ?_⟩
  refine ite_f rfl ⟨_, rfl, _, rfl, rEqD.eq (dPp false P) V2.rd (hA.same s2).rd ((cmp_pp false ok).mono (by decide)) ⟨_, rfl, ?_⟩⟩
  refine ite_f rfl ?_
  refine ⟨_, rfl, w2, rfl, ⟨_, SqT.of V2.w⟩, comp_tup_map (fun _ => .bl true) (SqT.of V2.w) (by show 4 ≤ 100000; decide) (fun x hx N' hN => ?_) fun pl hpl => ?_⟩
  · simp only [List.mem_cons, List.not_mem_nil, or_false] at hx
    rcases hx with rfl | rfl | rfl | rfl
    · exact ⟨_, rfl, _, _, true, rfl, TyOf.lst (show H2 k2 = some (.lst _) from V2.k.1), rfl, hN⟩
    · exact ⟨_, rfl, _, _, true, rfl, TyOf.lst (show H2 a1 = some (.lst _) from V2.q1.1), rfl, hN⟩
    · exact ⟨_, rfl, _, _, true, rfl, TyOf.lst (show H2 a2 = some (.lst _) from V2.q2.1), rfl, hN⟩
    · exact ⟨_, rfl, _, _, true, rfl, TyOf.lst (show H2 a3 = some (.lst _) from V2.q3.1), rfl, hN⟩
  rw [map_true]
  have u3 := same_new hpl (.lst ((List.replicate 4 true).map V.bl))
  have f3 := upd_same (H := H2) (a := pl) (o := .lst ((List.replicate 4 true).map V.bl))
  show _
  refine ⟨rfl, pl, List.replicate 4 true, rfl, SqL.of f3, _, rfl, ?_⟩
  generalize upd H2 pl (.lst ((List.replicate 4 true).map V.bl)) = H3 at u3 f3 ⊢
  have V3 := V2.same u3
  have hk3 : H3 k2 = some (.lst (ks2.map V.ref)) := V3.k.1
  refine ite_f rfl ⟨_, rfl, w2, _, _, _, rfl, rfl, SqT.of V3.w, rfl, k2, rfl, ⟨_, SqL.of hk3⟩, comp_true (SqL.of hk3) (by rw [List.length_map, Paired.length V3.k.2]; have := ok.nk; (first | lia | omega)) (fun i x H' hx s' N hN => ?_) fun H4 s4 y hy => ?_⟩
  · obtain ⟨r, hr1, rfl⟩ : ∃ r, ks2[i]? = some r ∧ V.ref r = x := by
      rw [List.getElem?_map] at hx
      exact Option.map_eq_some_iff.mp hx
    obtain ⟨ns, h1, h2⟩ := pairedGet V3.k.2 hr1
    exact ⟨_, rfl, r, ns, rfl, s' _ _ h2, by rw [(ok.kN ns (List.mem_of_getElem? h1)).1]; decide, fun H' s => hN H' s⟩
  refine ⟨rfl, y, _, rfl, SqL.of upd_same, _, rfl, ?_⟩
  refine ite_f (by rw [all_true]; rfl) ?_
  have sy := same_new hy (.lst ((List.replicate (ks2.map V.ref).length true).map V.bl))
  have S5 := (u3.trans s4).trans sy
  have V5 := V2.same S5
  generalize upd H4 y (.lst ((List.replicate (ks2.map V.ref).length true).map V.bl)) = H5 at S5 V5 ⊢
  clear sy s4 hy u3 V3 f3 hpl hk3
  refine ⟨_, rfl, _, rfl, w2, _, rfl, SqT.of V5.w, (fun z => absurd z.1 (show ¬ HT.sIx 4 0 (some 1) = 0 by decide)), fun py hpy => ?_⟩
  have hcut : cutV [V.ref k2, .ref a1, .ref a2, .ref a3] (some 1) none = [.ref a1, .ref a2, .ref a3] := cut_from (n := 1) (by simp)
  rw [hcut]
  have s6 := same_new hpy (.tup [.ref a1, .ref a2, .ref a3])
  have f6 := upd_same (H := H5) (a := py) (o := .tup [.ref a1, .ref a2, .ref a3])
  have V6 := V5.same s6
  have S6 := S5.trans s6
  generalize upd H5 py (.tup [.ref a1, .ref a2, .ref a3]) = H6 at s6 f6 V6 S6 ⊢
  refine ⟨py, rfl, ⟨_, SqT.of f6⟩, for_tup (xs := [.ref a1, .ref a2, .ref a3]) (fun i σ H' => ∃ x3 x4 : Option V, σ = [some (.ref w), some (.str (txt (pRows P))), some (.ref w2), x3, x4] ∧ Same H6 H') ⟨_, _, rfl, Same.refl _⟩ ?_ ?_ ?_⟩
  · rintro i σ H' _ ⟨_, _, _, s'⟩
    exact SqT.of (s' _ _ f6)
  · rintro i y σ H7 hy ⟨x3, x4, rfl, s7⟩
    have hi3 : i < 3 := (List.getElem?_eq_some_iff.mp hy).1
    have hx : (sV [Str.ofString "start", Str.ofString "next", Str.ofString "now"])[i]? = some ((sV [Str.ofString "start", Str.ofString "next", Str.ofString "now"])[i]'(by show i < 3; exact hi3)) := List.getElem?_eq_getElem _
    obtain ⟨wd, p, rq, Ss, e1, rfl, Q7, okS, lS, lw, hsec⟩ := (V6.same s7).sec ok hx hy
    have hQ : H7 p = some (.lst (rq.map V.ref)) := Q7.1
    refine ⟨_, rfl, p, rfl, ⟨_, SqL.of hQ⟩, for_list (xs := rq.map V.ref) (fun j σ H' => ∃ x4 : Option V, σ = [some (.ref w), some (.str (txt (pRows P))), some (.ref w2), some (.ref p), x4] ∧ Same H7 H') ⟨_, rfl, Same.refl _⟩ ?_ ?_ ?_⟩
    · rintro j σ H' _ ⟨_, _, s'⟩
      exact SqL.of (s' _ _ hQ)
    · rintro j x σ H8 hxj ⟨x4, rfl, s8⟩
      obtain ⟨r, hr1, rfl⟩ : ∃ r, rq[j]? = some r ∧ V.ref r = x := by
        rw [List.getElem?_map] at hxj
        exact Option.map_eq_some_iff.mp hxj
      obtain ⟨S, h1, lf, h2, h3⟩ := pairedGet Q7.2 hr1
      have okS1 := okS S (List.mem_of_getElem? h1)
      have e2 := s8 _ _ h2
      have e3 := s8 _ _ h3
      refine ⟨_, rfl, _, _, true, rfl, TyOf.tup e2, rfl, _, rfl, ?_⟩
      refine ite_f rfl ⟨_, rfl, r, _, _, _, rfl, rfl, SqT.of e2, rfl, _, _, true, rfl, TyOf.str _, rfl, _, rfl, ?_⟩
      refine ite_f rfl ⟨_, rfl, _, rfl, _, rfl, r, _, rfl, SqT.of e2, (fun z => absurd z.1 (show ¬ HT.sIx 4 0 (some 1) = 0 by decide)), fun b2 hb2 => ?_⟩
      have hc3 : cutV [V.str S.wd, .int (S.a : Int), .int (S.b : Int), .ref lf] (some 1) (some 3) = nV [S.a, S.b] := cut_mid (a := 1) (b := 3) (by decide) (by show 3 ≤ 4; decide)
      rw [hc3]
      have sb := same_new hb2 (.tup (nV [S.a, S.b]))
      refine ⟨b2, [S.a, S.b], rfl, upd_same, (by show 2 ≤ 20; decide), fun H9 s9 => ⟨_, rfl, ?_⟩⟩
      have S9 := sb.trans s9
      refine ite_f rfl ⟨_, rfl, r, _, _, _, rfl, rfl, SqT.of (S9 _ _ e2), rfl, lf, S.ls, rfl, S9 _ _ e3, by have := okS1.len; (first | lia | omega), fun H10 s10 => ⟨_, rfl, ?_⟩⟩
      exact ite_f rfl ⟨_, rfl, s8.trans (S9.trans s10)⟩
    · rintro σ H8 ⟨x4, rfl, s8⟩
      exact ⟨_, _, rfl, s7.trans s8⟩
  · rintro σ H7 ⟨x3, x4, rfl, s7⟩
    have V7 := V6.same s7
    have S7 := s2.trans (S6.trans s7)
    have k7 : H7 k2 = some (.lst (ks2.map V.ref)) := V7.k.1
    refine ⟨_, rfl, w2, _, _, _, rfl, rfl, SqT.of V7.w, rfl, .inl ⟨rfl, _, SqL.of k7⟩, (by show 2 ≤ sizeLine; decide), fun t ht => ?_⟩
    have st := same_new ht (.tup [.int 1, .int 1])
    have V8 := V7.same st
    have S8 := S7.trans st
    have k8 := st _ _ k7
    have b8 : (upd H7 t (.tup [.int 1, .int 1])) a2 = some (.lst (v2.map V.ref)) := V8.q2.1
    have c8 : (upd H7 t (.tup [.int 1, .int 1])) a3 = some (.lst (v3.map V.ref)) := V8.q3.1
    refine ⟨k2, _, _, rfl, rfl, k8, smallL (by rw [List.length_map, Paired.length V8.k.2]; have := ok.nk; (first | lia | omega)), ?_⟩
    have S9 := sameUpd S8 hk2 (.lst (ks2.map V.ref ++ [.ref t]))
    have w9 : (upd (upd H7 t (.tup [.int 1, .int 1])) k2 (.lst (ks2.map V.ref ++ [.ref t]))) w2 = some (.tup [.ref k2, .ref a1, .ref a2, .ref a3]) := by rw [upd_ne (fun e => by have := V8.w; rw [e, k8] at this; cases this)]; exact V8.w
    have b9 : (upd (upd H7 t (.tup [.int 1, .int 1])) k2 (.lst (ks2.map V.ref ++ [.ref t]))) a2 = some (.lst (v2.map V.ref)) := by rw [upd_ne (Ne.symm n02)]; exact b8
    have c9 : (upd (upd H7 t (.tup [.int 1, .int 1])) k2 (.lst (ks2.map V.ref ++ [.ref t]))) a3 = some (.lst (v3.map V.ref)) := by rw [upd_ne (Ne.symm n03)]; exact c8
    show tSeq _ _ _ _ (upd (upd H7 t (.tup [.int 1, .int 1])) k2 (.lst (ks2.map V.ref ++ [.ref t])))
    generalize upd (upd H7 t (.tup [.int 1, .int 1])) k2 (.lst (ks2.map V.ref ++ [.ref t])) = H9 at S9 w9 b9 c9 ⊢
    refine ⟨_, rfl, w2, _, _, _, rfl, rfl, SqT.of w9, rfl, .inl ⟨rfl, _, SqL.of b9⟩, a2, _, rfl, rfl, b9, ?_⟩
    have S10 := sameUpd S9 ha2 (.lst [])
    have w10 : (upd H9 a2 (.lst [])) w2 = some (.tup [.ref k2, .ref a1, .ref a2, .ref a3]) := by rw [upd_ne (fun e => by have := w9; rw [e, b9] at this; cases this)]; exact w9
    have c10 : (upd H9 a2 (.lst [])) a3 = some (.lst (v3.map V.ref)) := by rw [upd_ne (Ne.symm n23)]; exact c9
    refine ⟨_, rfl, w2, _, _, _, rfl, rfl, SqT.of w10, rfl, .inl ⟨rfl, _, SqL.of c10⟩, a3, _, rfl, rfl, c10, ?_⟩
    exact q _ (sameUpd S10 ha3 _)
theorem ok_law (T : Tx w K mg A) (G_L_bag : FnOk P w K mg base CX0 2 A.a_L_bag A.d_L_bag ["_law_script", "_law_k"] (bag_sp K)) (G_L_take : FnOk P w K mg base CX0 1 A.a_L_take A.d_L_take ["_law_bag_here", "_law_many"] sp_L_take) (G_L_text : FnOk P w K mg base CX0 2 A.a_L_text A.d_L_text ["_law_paper"] sp_L_ptext) (G_paper_text : FnOk P w K mg base CX0 2 A.a_paper_text A.d_paper_text ["paper"] sp_paper_text) (G_L_number : FnOk P w K mg base CX0 2 A.a_L_number A.d_L_number ["_law_bag_here"] sp_L_number) (G_L_read : FnOk P w K mg base CX0 6 A.a_L_read A.d_L_read ["_law_paper", "_law_text_here"] sp_L_pread) (G_read_paper : FnOk P w K mg base CX0 5 A.a_read_paper A.d_read_paper ["text"] sp_read_paper) (G_L_steps : FnOk P w K mg base CX0 3 A.a_L_steps A.d_L_steps ["_law_bag_here", "_law_many"] sp_L_steps) : FnOk P w K mg base CX0 7 A.a_law A.d_law ["_law_script"] (sp_law K) := by
  refine T.F_law.ok sc_law (fun vs H Q E h => ?_) (fun cdv A' outer s H vs Q E hr h => ?_)
  · obtain ⟨a, ns, rfl, hS, h63, q⟩ := h
    rfl
  obtain ⟨a, ns, rfl, hS, h63, q⟩ := h
  have hu64 := hr.units
  refine ⟨_, (pss_cons (ps_set (i := 1) sc_law.nd rfl (Or.inr rfl) (pe_call G_L_bag (hr.mono (by first | decide | (first | lia | omega))) rfl T.M_L_bag T.F_L_bag.kp T.B_L_bag .nil pass0 (pa_cons (pv 0) (pa_cons pe_int pa_nil))))
    (pss_cons (ps_set (i := 2) sc_law.nd rfl (Or.inr rfl) (pe_comp [1] (fun _ _ h => h) rfl (pi_range1 rfl T.range (pa_cons pe_int pa_nil)) (fun _ _ _ _ => pts_nil) (fun _ _ _ _ => (pe_call G_L_take (hr.mono (by first | decide | (first | lia | omega))) rfl T.M_L_take T.F_L_take.kp T.B_L_take .nil pass0 (pa_cons (pv 1) (pa_cons pe_int pa_nil)))) rfl (show ∀ j ∈ ([1] : List Nat), j < 12 by decide) (show (["_law_k", "_law_bag_here"] : List Str).Nodup by decide +kernel)))
    (pss_cons (ps_set (i := 3) sc_law.nd rfl (Or.inl rfl) (pe_call G_L_take (hr.mono (by first | decide | (first | lia | omega))) rfl T.M_L_take T.F_L_take.kp T.B_L_take .nil pass0 (pa_cons (pv 1) (pa_cons pe_int pa_nil))))
    (pss_cons (ps_set (i := 1) sc_law.nd rfl (Or.inr rfl) (pe_call G_L_bag (hr.mono (by first | decide | (first | lia | omega))) rfl T.M_L_bag T.F_L_bag.kp T.B_L_bag .nil pass0 (pa_cons (pv 0) (pa_cons pe_int pa_nil))))
    (pss_cons (ps_set (i := 4) sc_law.nd rfl (Or.inl rfl) (pe_lst pa_nil))
    (pss_cons (ps_for PassesOwn.never rfl (pi_range1 rfl T.range (pa_cons (pe_ix ix_list0 (pv 2) pe_int (fun _ _ => rfl)) pa_nil)) (pg_name (i := 5) sc_law.nd rfl (Or.inl rfl))
        (pss_cons (ps_set (i := 6) sc_law.nd rfl (Or.inl rfl) (pe_call G_L_number (hr.mono (by first | decide | (first | lia | omega))) rfl T.M_L_number T.F_L_number.kp T.B_L_number .nil pass0 (pa_cons (pv 1) pa_nil)))
    (pss_one (ps_expr (pe_bmN PySem.F.plainAttrs_list PySem.F.slot_list_append PySem.F.type_list_append mt_append (pv 4) (pa_cons (pe_tup (pa_cons (pv 6) (pa_cons (pe_call G_L_number (hr.mono (by first | decide | (first | lia | omega))) rfl T.M_L_number T.F_L_number.kp T.B_L_number .nil pass0 (pa_cons (pv 1) pa_nil)) pa_nil))) pa_nil))))))
    (pss_cons (ps_set (i := 7) sc_law.nd rfl (Or.inl rfl) (pe_op op_catT (pe_tup (pa_cons (pv 4) pa_nil)) (pe_callTy call_tuple_of0 rfl T.tuple PyProof.Rows.boot_tuple (pa_cons (pe_comp [0, 2] (fun _ _ h => h) rfl (pi_range2 rfl T.range (pa_cons pe_int (pa_cons pe_int pa_nil))) (fun _ _ _ _ => pts_nil) (fun _ _ _ _ => (pe_call G_L_steps (hr.mono (by first | decide | (first | lia | omega))) rfl T.M_L_steps T.F_L_steps.kp T.B_L_steps .nil pass0 (pa_cons (pe_call G_L_bag (hr.mono (by first | decide | (first | lia | omega))) rfl T.M_L_bag T.F_L_bag.kp T.B_L_bag .nil pass0 (pa_cons (pv 1) (pa_cons (pe_op op_add pe_int (pv 0)) pa_nil))) (pa_cons (pe_ix ix_list0 (pv 2) (pv 0) (fun _ _ => rfl)) pa_nil)))) rfl (show ∀ j ∈ ([0, 2] : List Nat), j < 12 by decide) (show (["_law_k", "_law_script", "_law_sizes"] : List Str).Nodup by decide +kernel)) pa_nil))))
    (pss_cons (ps_set (i := 8) sc_law.nd rfl (Or.inl rfl) (pe_call G_L_text (hr.mono (by first | decide | (first | lia | omega))) rfl T.M_L_text T.F_L_text.kp T.B_L_text .nil pass0 (pa_cons (pv 7) pa_nil)))
    (pss_cons (ps_set (i := 9) sc_law.nd rfl (Or.inl rfl) (pv 7))
    (pss_cons (ps_if (pt_cmpR op_eq (pv 3) pe_int (nomark _)) (pss_one (ps_set (i := 9) sc_law.nd rfl (Or.inl rfl) (pe_callTy call_tuple_of0 rfl T.tuple PyProof.Rows.boot_tuple (pa_cons (pe_comp [] (fun _ _ h => h) rfl (pi_tup0 (pv 7)) (fun _ _ _ _ => pts_nil) (fun _ _ _ _ => (pe_callTy call_tuple_of0 rfl T.tuple PyProof.Rows.boot_tuple (pa_cons (pv 0) pa_nil))) rfl (show ∀ j ∈ ([] : List Nat), j < 12 by decide) (show (["_law_some"] : List Str).Nodup by decide +kernel)) pa_nil)))) pss_nil)
    (pss_cons (ps_set (i := 10) sc_law.nd rfl (Or.inl rfl) (pe_callB (call_repr hu64) rfl T.repr PyProof.Rows.boot_repr (pa_cons (pv 9) pa_nil)))
    (pss_cons (ps_set (i := 11) sc_law.nd rfl (Or.inl rfl) (pe_call G_paper_text (hr.mono (by first | decide | (first | lia | omega))) rfl T.M_paper_text T.F_paper_text.kp T.B_paper_text .nil pass0 (pa_cons (pv 9) pa_nil)))
    (pss_cons (ps_if (PW.pt (pw_or (pt_not (pt_truth0 (pe_callB (call_isinst (T := "str")) rfl T.isinstance PyProof.Rows.boot_isinstance (pa_cons (pv 11) (pa_cons (pe_bltn (v := .ty "str") rfl T.str PyProof.Rows.boot_str rfl) pa_nil))) (fun _ => rfl))) (pw_or (pt_cmpR op_ne (pv 11) (pv 8) (nomark _)) (pw_or1 (pt_cmpR op_ne (pe_callB (call_repr hu64) rfl T.repr PyProof.Rows.boot_repr (pa_cons (pv 9) pa_nil)) (pv 10) (nomark _)))))) (pss_one (ps_ret pe_bl)) pss_nil)
    (pss_cons (ps_if (PW.pt (pw_or (pt_not (pt_truth0 (pe_call G_L_read (hr.mono (by first | decide | (first | lia | omega))) rfl T.M_L_read T.F_L_read.kp T.B_L_read .nil pass0 (pa_cons (pv 7) (pa_cons (pv 8) pa_nil))) (fun _ => rfl))) (pw_or (pt_cmpR (op_neD hu64) (pe_call G_read_paper (hr.mono (by first | decide | (first | lia | omega))) rfl T.M_read_paper T.F_read_paper.kp T.B_read_paper .nil pass0 (pa_cons pe_str pa_nil)) (pe_tup (pa_cons (pe_lst pa_nil) (pa_cons (pe_lst pa_nil) (pa_cons (pe_lst pa_nil) (pa_cons (pe_lst pa_nil) pa_nil))))) (nomark _)) (pw_or1 (pt_not (pt_truth0 (pe_call G_L_read (hr.mono (by first | decide | (first | lia | omega))) rfl T.M_L_read T.F_L_read.kp T.B_L_read .nil pass0 (pa_cons (pv 7) (pa_cons (pv 8) pa_nil))) (fun _ => rfl))))))) (pss_one (ps_ret pe_bl)) pss_nil)
    (pss_one (ps_ret (pe_cmpR op_eq (pe_call G_paper_text (hr.mono (by first | decide | (first | lia | omega))) rfl T.M_paper_text T.F_paper_text.kp T.B_paper_text .nil pass0 (pa_cons (pe_call G_read_paper (hr.mono (by first | decide | (first | lia | omega))) rfl T.M_read_paper T.F_read_paper.kp T.B_read_paper .nil pass0 (pa_cons (pv 8) pa_nil)) pa_nil)) (pv 8) (nomark _)))))))))))))))))), ?_⟩
  refine ⟨_, rfl, a, ns, 0, rfl, hS, by decide, by decide, fun l b0 b1 hl hb0 => ?_⟩
  have B1 : Bag (upd H l (.lst [.int b0, .int b1])) l := ⟨b0, b1, upd_same, hb0⟩
  have s1 := same_new hl (.lst [.int b0, .int b1])
  show tSeq _ _ _ _ (upd H l (.lst [.int b0, .int b1]))
  generalize upd H l (.lst [.int b0, .int b1]) = H1 at B1 s1 ⊢
  refine ⟨_, rfl, by decide, by decide, comp_range (lo := 0) (fun i ys H' => ∃ ds : List Nat, ys = nV ds ∧ Bg l H1 H' ∧ ds.length = i ∧ ∀ d ∈ ds, d < 7) ⟨[], rfl, Bg.refl B1, rfl, by simp⟩ ?_ ?_ ?_⟩
  · rintro i ys H' hi ⟨ds, rfl, _, hd, _⟩
    rw [nV_len]
    exact smallL (by have : i < 4 := hi; (first | lia | omega))
  · rintro i ys H' hi ⟨ds, rfl, g', hd, hds⟩
    unfold tYes
    refine iteT ⟨_, rfl, l, 7, rfl, g'.2, by decide, by decide, fun y H2 y0 y1 g2 => ?_⟩
    obtain ⟨yn, rfl⟩ := Int.eq_ofNat_of_zero_le y0
    refine ⟨ds ++ [yn], by unfold nV; rw [List.map_append]; rfl, g'.trans g2, by rw [List.length_append, hd]; rfl, fun n hn => ?_⟩
    rcases List.mem_append.mp hn with h | h
    · exact hds n h
    · rw [List.mem_singleton.mp h]; (first | lia | omega)
  rintro ys H2 ⟨ds, rfl, g2, hdl, hds⟩ ps hps
  obtain ⟨d0, d1, d2, d3, rfl⟩ : ∃ d0 d1 d2 d3, ds = [d0, d1, d2, d3] := by
    match ds, (show ds.length = 4 from hdl) with
    | [a, b, c, d], _ => exact ⟨a, b, c, d, rfl⟩
  have h0 : d0 < 7 := hds _ (by simp)
  have h1 : d1 < 7 := hds _ (by simp)
  have h2 : d2 < 7 := hds _ (by simp)
  have h3 : d3 < 7 := hds _ (by simp)
  have S2 := Bg.same hl s1 g2
  have nps := g2.2.ne hps
  have hpsH := S2.free hps
  have S3 := sameUpd S2 hpsH (.lst (nV [d0, d1, d2, d3]))
  have B3 := g2.2.set nps (.lst (nV [d0, d1, d2, d3]))
  have f3 := upd_same (H := H2) (a := ps) (o := .lst (nV [d0, d1, d2, d3]))
  show tSeq _ _ _ _ (upd H2 ps (.lst (nV [d0, d1, d2, d3])))
  generalize upd H2 ps (.lst (nV [d0, d1, d2, d3])) = H3 at S3 B3 f3 ⊢
  refine ⟨_, rfl, l, 2, rfl, B3, by decide, by decide, fun way H4 _ _ g4 => ?_⟩
  have S4 := Bg.same hl S3 g4
  have f4 := g4.1 _ _ nps f3
  clear g4 B3 S3 f3 g2 S2 hps B1 s1
  refine ⟨_, rfl, a, ns, 1, rfl, S4.seq hS, by decide, by decide, fun l2 c0 c1 hl2 hc0 => ?_⟩
  have B5 : Bag (upd H4 l2 (.lst [.int c0, .int c1])) l2 := ⟨c0, c1, upd_same, hc0⟩
  have s5 := same_new hl2 (.lst [.int c0, .int c1])
  have S5 := S4.trans s5
  have f5 := s5 _ _ f4
  have hl2H : H l2 = none := S4.free hl2
  have nl2 : ps ≠ l2 := fun e => by rw [e, hl2] at f4; cases f4
  show tSeq _ _ _ _ (upd H4 l2 (.lst [.int c0, .int c1]))
  generalize upd H4 l2 (.lst [.int c0, .int c1]) = H5 at B5 s5 S5 f5 ⊢
  clear s5 hl2 f4 S4
  refine ⟨(by show 0 ≤ sizeLine; decide), fun pk hpk => ?_⟩
  have npk := B5.ne hpk
  have hpkH := S5.free hpk
  have G6 := Bg.new B5 hpk (.lst [])
  have TB : ∀ {H1 H2 : Hp} {rs : List Addr} {rows : List (List Nat)}, Bag H1 l2 → Bg l2 H1 H2 → TNs H1 pk rs rows → TNs H2 pk rs rows := fun hB g h => ⟨g.1 _ _ npk h.1, pairedMono (fun r ns e => g.1 _ _ (hB.neT e) e) h.2⟩
  have fr : ∀ {H' : Hp} {t : Addr}, Bg l2 H5 H' → H' t = none → H5 t = none := fun {H' t} g ht => by
    cases e : H5 t with
    | none => rfl
    | some u => rw [g.1 t u (g.2.ne ht) e] at ht; cases ht
  have f6 := G6.1 _ _ nl2 f5
  refine ⟨_, rfl, ps, _, _, _, rfl, rfl, SqL.of f6, rfl, _, rfl, by (first | lia | omega), by (first | lia | omega), for_range (lo := 0) (fun i σ H' => ∃ (x5 x6 : Option V) (rs : List Addr) (rows : List (List Nat)), σ = [some (.ref a), some (.ref l2), some (.ref ps), some (.int way), some (.ref pk), x5, x6, none, none, none, none, none] ∧ Bg l2 H5 H' ∧ TNs H' pk rs rows ∧ rows.length = i ∧ ∀ r ∈ rows, ∃ x y, r = [x, y] ∧ x < 10 ^ 9 ∧ y < 10 ^ 9) ⟨_, _, [], [], rfl, G6, ⟨upd_same, .nil⟩, rfl, by simp⟩ ?_ ?_⟩
  · rintro i σ H7 hi ⟨x5, x6, rs, rows, rfl, G7, T7, hlr, hrow⟩
    refine ⟨_, rfl, l2, rfl, G7.2, fun x H8 hx g8 => ?_⟩
    have T8 := TB G7.2 g8 T7
    have G8 := G7.trans g8
    refine ⟨_, rfl, .inl ⟨rfl, _, SqL.of T8.1⟩, _, rfl, _, rfl, l2, rfl, G8.2, fun y H9 hy g9 => ?_⟩
    have T9 := TB G8.2 g9 T8
    have G9 := G8.trans g9
    refine ⟨(by show 2 ≤ sizeLine; decide), fun t ht => ?_⟩
    have st := same_new ht (.tup [.int (x : Int), .int (y : Int)])
    have ntl := G9.2.ne ht
    have htH := fr G9 ht
    refine ⟨pk, _, _, rfl, rfl, st _ _ T9.1, smallL (by rw [List.length_map, T9.len]; (first | lia | omega)), ?_⟩
    have npt : pk ≠ t := fun e => by rw [← e, T9.1] at ht; cases ht
    have G10 := (G9.set htH ntl (.tup [.int (x : Int), .int (y : Int)])).set hpk npk (.lst (rs.map V.ref ++ [.ref t]))
    refine ⟨some (.int (0 + (i : Int))), some (.int (x : Int)), rs ++ [t], rows ++ [[x, y]], rfl, G10, ⟨by rw [upd_same, List.map_append]; rfl, ?_⟩, by rw [List.length_append, hlr]; rfl, fun r hr' => ?_⟩
    · refine pairedSnoc (by rw [upd_ne (Ne.symm npt), upd_same]; rfl) (pairedMono (fun r ns e => ?_) T9.2)
      rw [upd_ne (fun z => by rw [z, T9.1] at e; cases e)]
      exact st _ _ e
    · rcases List.mem_append.mp hr' with h | h
      · exact hrow r h
      · rw [List.mem_singleton.mp h]
        exact ⟨x, y, rfl, hx, hy⟩
  rintro σ H7 ⟨x5, x6, ks, rows, rfl, G7, T7, hlr, hrow⟩
  rw [Int.toNat_natCast] at hlr
  have S7 := Bg.same hl2H S5 G7
  have f7 := G7.1 _ _ nl2 f5
  clear G6 f6 TB fr G7 B5 S5 f5 hpk
  refine ⟨_, rfl, (by show 1 ≤ sizeLine; decide), fun pt hpt => ?_⟩
  have s8 := same_new hpt (.tup [.ref pk])
  have f8 := upd_same (H := H7) (a := pt) (o := .tup [.ref pk])
  have S8 := S7.trans s8
  have T8 := T7.same s8
  have z8 := s8 _ _ f7
  generalize upd H7 pt (.tup [.ref pk]) = H8 at s8 f8 S8 T8 z8 ⊢
  clear s8 hpt T7 f7 S7
  refine ⟨_, _, rfl, ⟨by decide, by decide, by decide, by decide⟩, comp_range (lo := 1) (fun i ys H' => ∃ L : List (Addr × List Addr × List Stp), ys = L.map (fun z => V.ref z.1) ∧ Same H8 H' ∧ L.length = i ∧ ∀ z ∈ L, SLs false H' z.1 z.2.1 z.2.2 ∧ z.2.2.length ≤ 6 ∧ ∀ S ∈ z.2.2, S.Ok) ⟨[], rfl, Same.refl _, rfl, by simp⟩ ?_ ?_ ?_⟩
  · rintro i ys H' hi ⟨L, rfl, _, hL, _⟩
    rw [List.length_map]
    exact smallL (by have : i < 3 := hi; (first | lia | omega))
  · rintro i ys H' hi ⟨L, rfl, s', hL, hz⟩
    have hi3 : i < 3 := hi
    unfold tYes
    refine iteT ⟨_, rfl, _, rfl, _, _, rfl, rfl, a, ns, _, rfl, (S8.trans s').seq hS, by (first | lia | omega), by (first | lia | omega), fun l3 e0 e1 hl3 he0 => ?_⟩
    have B9 : Bag (upd H' l3 (.lst [.int e0, .int e1])) l3 := ⟨e0, e1, upd_same, he0⟩
    have s9 := same_new hl3 (.lst [.int e0, .int e1])
    have z9 := (s'.trans s9) _ _ z8
    obtain ⟨n, hat, hn⟩ : ∃ n : Nat, atI (nV [d0, d1, d2, d3]) (1 + (i : Int)) = some (.int (n : Int)) ∧ n ≤ 6 := by
      match i, hi3 with
      | 0, _ => exact ⟨d1, rfl, by (first | lia | omega)⟩
      | 1, _ => exact ⟨d2, rfl, by (first | lia | omega)⟩
      | 2, _ => exact ⟨d3, rfl, by (first | lia | omega)⟩
    refine ⟨_, rfl, _, rfl, ps, _, _, _, rfl, rfl, SqL.of z9, hat, l3, n, rfl, B9, hn, fun p rs Ss H10 G10 hp Q10 hSl okS => ?_⟩
    have S10 := Bg.same hl3 s9 G10
    refine ⟨L ++ [(p, rs, Ss)], by rw [List.map_append]; rfl, s'.trans S10, by rw [List.length_append, hL]; rfl, fun z hz' => ?_⟩
    rcases List.mem_append.mp hz' with h | h
    · obtain ⟨h1, h2⟩ := hz z h
      exact ⟨h1.same S10, h2⟩
    · rw [List.mem_singleton.mp h]
      exact ⟨Q10, by show Ss.length ≤ 6; (first | lia | omega), okS⟩
  rintro ys H9 ⟨L, rfl, s9, hL, hz⟩ pl hpl
  obtain ⟨⟨p1, r1, S1⟩, ⟨p2, r2, S2⟩, ⟨p3, r3, S3⟩, rfl⟩ : ∃ x y z, L = [x, y, z] := by
    match L, (show L.length = 3 from hL) with
    | [x, y, z], _ => exact ⟨x, y, z, rfl⟩
  obtain ⟨q1, n1, k1⟩ := hz (p1, r1, S1) (by simp)
  obtain ⟨q2, n2, k2⟩ := hz (p2, r2, S2) (by simp)
  obtain ⟨q3, n3, k3⟩ := hz (p3, r3, S3) (by simp)
  have s10 := same_new hpl (.lst [.ref p1, .ref p2, .ref p3])
  refine ⟨pl, _, rfl, .inl ⟨SqL.of upd_same, fun pv hpv => ?_⟩⟩
  have s11 := s10.trans (same_new hpv (.tup [.ref p1, .ref p2, .ref p3]))
  refine ⟨pt, pv, _, _, rfl, rfl, SqT.of (s11 _ _ (s9 _ _ f8)), SqT.of upd_same, by simp, (by show 1 + 3 ≤ sizeLine; decide), (fun z => absurd z (by simp)), fun _ w hw => ?_⟩
  have sw := same_new hw (.tup [.ref pk, .ref p1, .ref p2, .ref p3])
  have S12 := s11.trans sw
  have ok : Pp.Ok ⟨rows, S1, S2, S3⟩ := ⟨by show rows.length ≤ 6; (first | lia | omega), n1, n2, n3, hrow, k1, k2, k3⟩
  have hA : PpA false (upd (upd (upd H9 pl (.lst [.ref p1, .ref p2, .ref p3])) pv (.tup [.ref p1, .ref p2, .ref p3])) w (.tup [.ref pk, .ref p1, .ref p2, .ref p3])) w pk p1 p2 p3 ks r1 r2 r3 ⟨rows, S1, S2, S3⟩ := ⟨upd_same, (show KLs false H8 pk ks rows from T8).same (s9.trans S12), q1.same S12, q2.same S12, q3.same S12⟩
  have SA := S8.trans (s9.trans S12)
  show tSeq _ _ _ _ (upd (upd (upd H9 pl (.lst [.ref p1, .ref p2, .ref p3])) pv (.tup [.ref p1, .ref p2, .ref p3])) w (.tup [.ref pk, .ref p1, .ref p2, .ref p3]))
  generalize upd (upd (upd H9 pl (.lst [.ref p1, .ref p2, .ref p3])) pv (.tup [.ref p1, .ref p2, .ref p3])) w (.tup [.ref pk, .ref p1, .ref p2, .ref p3]) = HA at hA SA ⊢
  generalize hP : (⟨rows, S1, S2, S3⟩ : Pp) = P at hA ok
  clear hz q1 q2 q3 s10 s11 sw S12 hrow T8 f8 z8 S8 s9 hw hpv hpl hP hlr
  refine ⟨_, rfl, w, pk, p1, p2, p3, ks, r1, r2, r3, P, rfl, hA, ok, fun HB sB => ?_⟩
  have hB := hA.same sB
  refine ⟨_, rfl, ?_⟩
  dsimp only [gName]
  refine seq_pre (s := tIfS _ _ _) (fun σ H' => ∃ (x5 x6 : Option V) (t : Bool) (w' k' a1 a2 a3 : Addr) (ks' v1 v2 v3 : List Addr), σ = [some (.ref a), some (.ref l2), some (.ref ps), some (.int way), some (.ref pk), x5, x6, some (.ref w), some (.str (txt (pRows P))), some (.ref w'), none, none] ∧ Same HB H' ∧ PpA t H' w' k' a1 a2 a3 ks' v1 v2 v3 P) ?_ fun hn => ?_
  · rintro σ HC ⟨y5, y6, t, w', k', a1, a2, a3, ks', v1, v2, v3, rfl, sC, hC⟩
    have hAC := hB.same sC
    have sh := sh_pp (t := t) ok
    refine ⟨_, rfl, w', dPp t P, rfl, hC.rd, sh.1, sh.2.1, sh.2.2.1, sh.2.2.2, ?_⟩
    refine ⟨_, rfl, t, w', k', a1, a2, a3, ks', v1, v2, v3, P, rfl, hC, ok, fun HD sD => ?_⟩
    refine ⟨_, rfl, _, _, true, rfl, TyOf.str _, rfl, _, rfl, ?_⟩
    refine ite_f rfl ⟨_, rfl, _, rfl, rfl, _, rfl, ?_⟩
    refine ite_f (by rw [decide_eq_true rfl]; rfl) ⟨_, rfl, w', dPp t P, rfl, (hC.same sD).rd, sh.1, sh.2.1, sh.2.2.1, sh.2.2.2, _, rfl, rfl, _, rfl, ?_⟩
    refine ite_f (by rw [decide_eq_true rfl]; rfl) ?_
    refine ⟨_, rfl, _, rfl, w, pk, p1, p2, p3, ks, r1, r2, r3, P, rfl, hAC.same sD, ok, fun HE sE => ⟨_, rfl, ?_⟩⟩
    have SE := sD.trans sE
    refine ite_f rfl ?_
    refine ⟨⟨[], [], [], []⟩, (by rw [show pRows ⟨[], [], [], []⟩ = [] from rfl, txt_nil]; rfl), ⟨by decide, by decide, by decide, by decide, by simp, by simp, by simp, by simp⟩, fun u0 u1 u2 u3 u4 us us1 us2 us3 HF _ _ _ _ _ _ sF hF => ?_⟩
    refine ⟨(by show 0 ≤ sizeLine; decide), fun e1 he1 => ⟨(by show 0 ≤ sizeLine; decide), fun e2 he2 => ⟨(by show 0 ≤ sizeLine; decide), fun e3 he3 => ⟨(by show 0 ≤ sizeLine; decide), fun e4 he4 => ⟨(by show 4 ≤ sizeLine; decide), fun e5 he5 => ?_⟩⟩⟩⟩⟩
    have m1 := same_new he1 (.lst [])
    have m2 := same_new he2 (.lst [])
    have m3 := same_new he3 (.lst [])
    have m4 := same_new he4 (.lst [])
    have m5 := same_new he5 (.tup [.ref e1, .ref e2, .ref e3, .ref e4])
    have M := m1.trans (m2.trans (m3.trans (m4.trans m5)))
    refine rEqD.eq (dPp false ⟨[], [], [], []⟩) (hF.same M).rd ?_ ((cmp_pp false (P := ⟨[], [], [], []⟩) ⟨by decide, by decide, by decide, by decide, by simp, by simp, by simp, by simp⟩).mono (by decide)) ⟨_, rfl, ?_⟩
    · refine RdD.tup (SqT.of upd_same) (RdDs.cons (RdD.lst (SqL.of ((m2.trans (m3.trans (m4.trans m5))) _ _ upd_same)) RdDs.nil) (RdDs.cons (RdD.lst (SqL.of ((m3.trans (m4.trans m5)) _ _ upd_same)) RdDs.nil) (RdDs.cons (RdD.lst (SqL.of ((m4.trans m5) _ _ upd_same)) RdDs.nil) (RdDs.cons (RdD.lst (SqL.of (m5 _ _ upd_same)) RdDs.nil) .nil))))
    refine ite_f rfl ?_
    have SF := (SE.trans sF).trans M
    refine ⟨_, rfl, _, rfl, w, pk, p1, p2, p3, ks, r1, r2, r3, P, rfl, hAC.same SF, ok, fun HG sG => ⟨_, rfl, ?_⟩⟩
    refine ite_f rfl ?_
    refine ⟨_, rfl, P, rfl, ok, fun w2 k2 b1 b2 b3 ks2 c1 c2 c3 HH _ _ _ _ _ _ _ V2 => ⟨false, w2, k2, b1, b2, b3, ks2, c1, c2, c3, P, rfl, V2, ok, fun HI _ => ⟨_, rfl, rfl, ?_⟩⟩⟩
    dsimp only
    rw [decide_eq_true rfl]
    exact q _
  · refine ⟨_, rfl, rfl, _, rfl, ?_⟩
    refine ite2 (fun c => ?_) (fun c => ?_)
    · refine ⟨_, rfl, w, rfl, ⟨_, SqT.of hB.w⟩, comp_newRT [(pk, ks), (p1, r1), (p2, r2), (p3, r3)] (fun H r z => H r = some (.tup (z.2.map V.ref))) (fun _ _ _ _ s h => s _ _ h) (SqT.of hB.w) rfl (by show 4 ≤ 100000; decide) (fun i x z H' hx hz s' N hN => ?_) fun rs HC sC _ pr y hy => ?_⟩
      · obtain ⟨rfl, hl0⟩ : x = .ref z.1 ∧ HB z.1 = some (.lst (z.2.map V.ref)) := by
          match i, hx, hz with
          | 0, hx, hz => cases hx; cases hz; exact ⟨rfl, hB.k.1⟩
          | 1, hx, hz => cases hx; cases hz; exact ⟨rfl, hB.q1.1⟩
          | 2, hx, hz => cases hx; cases hz; exact ⟨rfl, hB.q2.1⟩
          | 3, hx, hz => cases hx; cases hz; exact ⟨rfl, hB.q3.1⟩
          | i + 4, hx, hz => simp at hx
        exact ⟨_, rfl, z.1, _, rfl, .inl ⟨SqL.of (s' _ _ hl0), fun u hu => hN u _ hu (same_new hu _) upd_same⟩⟩
      obtain ⟨t0, t1, t2, t3, rfl, g0, g1, g2, g3⟩ : ∃ t0 t1 t2 t3, rs = [t0, t1, t2, t3] ∧ HC t0 = some (.tup (ks.map V.ref)) ∧ HC t1 = some (.tup (r1.map V.ref)) ∧ HC t2 = some (.tup (r2.map V.ref)) ∧ HC t3 = some (.tup (r3.map V.ref)) := by
        cases pr with
        | cons h1 pr => cases pr with
          | cons h2 pr => cases pr with
            | cons h3 pr => cases pr with
              | cons h4 pr =>
                cases pr
                exact ⟨_, _, _, _, rfl, h1, h2, h3, h4⟩
      have sy := same_new hy (.lst [.ref t0, .ref t1, .ref t2, .ref t3])
      refine ⟨y, _, rfl, .inl ⟨SqL.of upd_same, fun w' hw' => ?_⟩⟩
      have s2 := sy.trans (same_new hw' (.tup [.ref t0, .ref t1, .ref t2, .ref t3]))
      have hC := hB.same sC
      exact hn _ _ ⟨_, _, true, w', t0, t1, t2, t3, ks, r1, r2, r3, rfl, sC.trans s2, upd_same, ⟨s2 _ _ g0, (hC.same s2).k.2⟩, ⟨s2 _ _ g1, (hC.same s2).q1.2⟩, ⟨s2 _ _ g2, (hC.same s2).q2.2⟩, ⟨s2 _ _ g3, (hC.same s2).q3.2⟩⟩
    · exact hn _ _ ⟨_, _, false, w, pk, p1, p2, p3, ks, r1, r2, r3, rfl, Same.refl _, hB⟩
end

theorem all_ok {P : Program} {w : World} {K : PySem.W.Frag} {mg : Str → Option Value} {base : Heap} {A : Ad} (T : Tx w K mg A) : FnOk P w K mg base CX0 7 A.a_law A.d_law ["_law_script"] (sp_law K) := by
  have G_is_figures := ok_is_figures (P := P) (base := base) T
  have G_number_of := ok_number_of (P := P) (base := base) T G_is_figures
  have G_numbers_of := ok_numbers_of (P := P) (base := base) T G_number_of
  have G_words_of := ok_words_of (P := P) (base := base) T
  have G_rows_of := ok_rows_of (P := P) (base := base) T
  have G_text_of := ok_text_of (P := P) (base := base) T
  have G_sections_of := ok_sections_of (P := P) (base := base) T
  have G_whole_sections := ok_whole_sections (P := P) (base := base) T G_sections_of
  have G_words_behind := ok_words_behind (P := P) (base := base) T
  have G_numbers_behind := ok_numbers_behind (P := P) (base := base) T G_numbers_of G_words_behind
  have G_read_step := ok_read_step (P := P) (base := base) T G_number_of G_numbers_of
  have G_read_paper := ok_read_paper (P := P) (base := base) T G_whole_sections G_rows_of G_numbers_behind G_read_step
  have G_paper_text := ok_paper_text (P := P) (base := base) T G_text_of G_words_of
  have G_L_cell_at := ok_L_cell_at (P := P) (base := base) T
  have G_L_bag := ok_L_bag (P := P) (base := base) T G_L_cell_at
  have G_L_take := ok_L_take (P := P) (base := base) T
  have G_L_whole := ok_L_whole (P := P) (base := base) T
  have G_L_number := ok_L_number (P := P) (base := base) T G_L_take
  have G_L_steps := ok_L_steps (P := P) (base := base) T G_L_number G_L_take
  have G_L_step_text := ok_L_step_text (P := P) (base := base) T
  have G_L_text := ok_L_text (P := P) (base := base) T G_L_step_text
  have G_L_numbers := ok_L_numbers (P := P) (base := base) T G_L_whole
  have G_L_read := ok_L_read (P := P) (base := base) T G_read_paper G_L_numbers
  exact ok_law T G_L_bag G_L_take G_L_text G_paper_text G_L_number G_L_read G_read_paper G_L_steps
theorem of_len1 {fd : FuncData} {ns : List Str} (h : ∀ a0, bindArgs fd ⟨[a0], []⟩ = pure (ns.zip [a0])) : ∀ us : List Value, us.length = 1 → bindArgs fd ⟨us, []⟩ = pure (ns.zip us) := fun us hl => by
  exact l_cons (P := fun us => bindArgs fd ⟨us, []⟩ = pure (ns.zip (us))) (fun a0 => l_nil (h a0)) us hl
theorem of_len2 {fd : FuncData} {ns : List Str} (h : ∀ a0 a1, bindArgs fd ⟨[a0, a1], []⟩ = pure (ns.zip [a0, a1])) : ∀ us : List Value, us.length = 2 → bindArgs fd ⟨us, []⟩ = pure (ns.zip us) := fun us hl => by
  exact l_cons (P := fun us => bindArgs fd ⟨us, []⟩ = pure (ns.zip (us))) (fun a0 => l_cons (P := fun us => bindArgs fd ⟨a0 :: us, []⟩ = pure (ns.zip (a0 :: us))) (fun a1 => l_nil (h a0 a1))) us hl
theorem all_mk {w : World} {K : PySem.W.Frag} {h : Heap} {mg : Str → Option Value} {fa : Addr} (X : K.In h) (G : h.Ns mainGlobals mg) (hfa : mg "law" = some (.ref fa))
    {f0 f1 f2 f3 f4 f5 f6 f7 f8 f9 f10 f11 f12 f13 f14 f15 f16 f17 f18 f19 f20 f21 f22 f23 : Addr} {od0 an0 od1 an1 od2 an2 od3 an3 od4 an4 od5 an5 od6 an6 od7 an7 od8 an8 od9 an9 od10 an10 od11 an11 od12 an12 od13 an13 od14 an14 od15 an15 od16 an16 od17 an17 od18 an18 od19 an19 od20 an20 od21 an21 od22 an22 od23 an23 : Option Addr} {sl0 sl1 sl2 sl3 sl4 sl5 sl6 sl7 sl8 sl9 sl10 sl11 sl12 sl13 sl14 sl15 sl16 sl17 sl18 sl19 sl20 sl21 sl22 sl23 : Array (Option Value)} {oc0 kV0 dc0 pm0 cd0 ct0 oc1 kV1 dc1 pm1 cd1 ct1 oc2 kV2 dc2 pm2 cd2 ct2 oc3 kV3 dc3 pm3 cd3 ct3 oc4 kV4 dc4 pm4 cd4 ct4 oc5 kV5 dc5 pm5 cd5 ct5 oc6 kV6 dc6 pm6 cd6 ct6 oc7 kV7 dc7 pm7 cd7 ct7 oc8 kV8 dc8 pm8 cd8 ct8 oc9 kV9 dc9 pm9 cd9 ct9 oc10 kV10 dc10 pm10 cd10 ct10 oc11 kV11 dc11 pm11 cd11 ct11 oc12 kV12 dc12 pm12 cd12 ct12 oc13 kV13 dc13 pm13 cd13 ct13 oc14 kV14 dc14 pm14 cd14 ct14 oc15 kV15 dc15 pm15 cd15 ct15 oc16 kV16 dc16 pm16 cd16 ct16 oc17 kV17 dc17 pm17 cd17 ct17 oc18 kV18 dc18 pm18 cd18 ct18 oc19 kV19 dc19 pm19 cd19 ct19 oc20 kV20 dc20 pm20 cd20 ct20 oc21 kV21 dc21 pm21 cd21 ct21 oc22 kV22 dc22 pm22 cd22 ct22 oc23 kV23 dc23 pm23 cd23 ct23 : Value}
    (a0 : PySem.W.nsIn K mainGlobals "is_figures" = some (some (.ref f0))) (l0 : K.lookup f0 = some ⟨oc0, od0, .func (PySem.W.fnOf "is_figures" "is_figures" (defArgs s_is_figures) (defBody s_is_figures) (defScope s_is_figures) .none kV0 dc0 pm0 an0 cd0 ct0), sl0⟩) (c0 : PySem.W.codeIn K cd0 "is_figures" = true) (k0 : PySem.W.keepIn K (.ref f0) = true)
    (a1 : PySem.W.nsIn K mainGlobals "number_of" = some (some (.ref f1))) (l1 : K.lookup f1 = some ⟨oc1, od1, .func (PySem.W.fnOf "number_of" "number_of" (defArgs s_number_of) (defBody s_number_of) (defScope s_number_of) .none kV1 dc1 pm1 an1 cd1 ct1), sl1⟩) (c1 : PySem.W.codeIn K cd1 "number_of" = true) (k1 : PySem.W.keepIn K (.ref f1) = true)
    (a2 : PySem.W.nsIn K mainGlobals "numbers_of" = some (some (.ref f2))) (l2 : K.lookup f2 = some ⟨oc2, od2, .func (PySem.W.fnOf "numbers_of" "numbers_of" (defArgs s_numbers_of) (defBody s_numbers_of) (defScope s_numbers_of) .none kV2 dc2 pm2 an2 cd2 ct2), sl2⟩) (c2 : PySem.W.codeIn K cd2 "numbers_of" = true) (k2 : PySem.W.keepIn K (.ref f2) = true)
    (a3 : PySem.W.nsIn K mainGlobals "words_of" = some (some (.ref f3))) (l3 : K.lookup f3 = some ⟨oc3, od3, .func (PySem.W.fnOf "words_of" "words_of" (defArgs s_words_of) (defBody s_words_of) (defScope s_words_of) .none kV3 dc3 pm3 an3 cd3 ct3), sl3⟩) (c3 : PySem.W.codeIn K cd3 "words_of" = true) (k3 : PySem.W.keepIn K (.ref f3) = true)
    (a4 : PySem.W.nsIn K mainGlobals "rows_of" = some (some (.ref f4))) (l4 : K.lookup f4 = some ⟨oc4, od4, .func (PySem.W.fnOf "rows_of" "rows_of" (defArgs s_rows_of) (defBody s_rows_of) (defScope s_rows_of) .none kV4 dc4 pm4 an4 cd4 ct4), sl4⟩) (c4 : PySem.W.codeIn K cd4 "rows_of" = true) (k4 : PySem.W.keepIn K (.ref f4) = true)
    (a5 : PySem.W.nsIn K mainGlobals "text_of" = some (some (.ref f5))) (l5 : K.lookup f5 = some ⟨oc5, od5, .func (PySem.W.fnOf "text_of" "text_of" (defArgs s_text_of) (defBody s_text_of) (defScope s_text_of) .none kV5 dc5 pm5 an5 cd5 ct5), sl5⟩) (c5 : PySem.W.codeIn K cd5 "text_of" = true) (k5 : PySem.W.keepIn K (.ref f5) = true)
    (a6 : PySem.W.nsIn K mainGlobals "sections_of" = some (some (.ref f6))) (l6 : K.lookup f6 = some ⟨oc6, od6, .func (PySem.W.fnOf "sections_of" "sections_of" (defArgs s_sections_of) (defBody s_sections_of) (defScope s_sections_of) .none kV6 dc6 pm6 an6 cd6 ct6), sl6⟩) (c6 : PySem.W.codeIn K cd6 "sections_of" = true) (k6 : PySem.W.keepIn K (.ref f6) = true)
    (a7 : PySem.W.nsIn K mainGlobals "whole_sections" = some (some (.ref f7))) (l7 : K.lookup f7 = some ⟨oc7, od7, .func (PySem.W.fnOf "whole_sections" "whole_sections" (defArgs s_whole_sections) (defBody s_whole_sections) (defScope s_whole_sections) .none kV7 dc7 pm7 an7 cd7 ct7), sl7⟩) (c7 : PySem.W.codeIn K cd7 "whole_sections" = true) (k7 : PySem.W.keepIn K (.ref f7) = true)
    (a8 : PySem.W.nsIn K mainGlobals "words_behind" = some (some (.ref f8))) (l8 : K.lookup f8 = some ⟨oc8, od8, .func (PySem.W.fnOf "words_behind" "words_behind" (defArgs s_words_behind) (defBody s_words_behind) (defScope s_words_behind) .none kV8 dc8 pm8 an8 cd8 ct8), sl8⟩) (c8 : PySem.W.codeIn K cd8 "words_behind" = true) (k8 : PySem.W.keepIn K (.ref f8) = true)
    (a9 : PySem.W.nsIn K mainGlobals "numbers_behind" = some (some (.ref f9))) (l9 : K.lookup f9 = some ⟨oc9, od9, .func (PySem.W.fnOf "numbers_behind" "numbers_behind" (defArgs s_numbers_behind) (defBody s_numbers_behind) (defScope s_numbers_behind) .none kV9 dc9 pm9 an9 cd9 ct9), sl9⟩) (c9 : PySem.W.codeIn K cd9 "numbers_behind" = true) (k9 : PySem.W.keepIn K (.ref f9) = true)
    (a10 : PySem.W.nsIn K mainGlobals "read_paper" = some (some (.ref f10))) (l10 : K.lookup f10 = some ⟨oc10, od10, .func (PySem.W.fnOf "read_paper" "read_paper" (defArgs s_read_paper) (defBody s_read_paper) (defScope s_read_paper) .none kV10 dc10 pm10 an10 cd10 ct10), sl10⟩) (c10 : PySem.W.codeIn K cd10 "read_paper" = true) (k10 : PySem.W.keepIn K (.ref f10) = true)
    (a11 : PySem.W.nsIn K mainGlobals "read_step" = some (some (.ref f11))) (l11 : K.lookup f11 = some ⟨oc11, od11, .func (PySem.W.fnOf "read_step" "read_step" (defArgs s_read_step) (defBody s_read_step) (defScope s_read_step) .none kV11 dc11 pm11 an11 cd11 ct11), sl11⟩) (c11 : PySem.W.codeIn K cd11 "read_step" = true) (k11 : PySem.W.keepIn K (.ref f11) = true)
    (a12 : PySem.W.nsIn K mainGlobals "paper_text" = some (some (.ref f12))) (l12 : K.lookup f12 = some ⟨oc12, od12, .func (PySem.W.fnOf "paper_text" "paper_text" (defArgs s_paper_text) (defBody s_paper_text) (defScope s_paper_text) .none kV12 dc12 pm12 an12 cd12 ct12), sl12⟩) (c12 : PySem.W.codeIn K cd12 "paper_text" = true) (k12 : PySem.W.keepIn K (.ref f12) = true)
    (a13 : PySem.W.nsIn K mainGlobals "_law_cell_at" = some (some (.ref f13))) (l13 : K.lookup f13 = some ⟨oc13, od13, .func (PySem.W.fnOf "_law_cell_at" "_law_cell_at" (defArgs s_L_cell_at) (defBody s_L_cell_at) (defScope s_L_cell_at) .none kV13 dc13 pm13 an13 cd13 ct13), sl13⟩) (c13 : PySem.W.codeIn K cd13 "_law_cell_at" = true) (k13 : PySem.W.keepIn K (.ref f13) = true)
    (a14 : PySem.W.nsIn K mainGlobals "_law_bag" = some (some (.ref f14))) (l14 : K.lookup f14 = some ⟨oc14, od14, .func (PySem.W.fnOf "_law_bag" "_law_bag" (defArgs s_L_bag) (defBody s_L_bag) (defScope s_L_bag) .none kV14 dc14 pm14 an14 cd14 ct14), sl14⟩) (c14 : PySem.W.codeIn K cd14 "_law_bag" = true) (k14 : PySem.W.keepIn K (.ref f14) = true)
    (a15 : PySem.W.nsIn K mainGlobals "_law_take" = some (some (.ref f15))) (l15 : K.lookup f15 = some ⟨oc15, od15, .func (PySem.W.fnOf "_law_take" "_law_take" (defArgs s_L_take) (defBody s_L_take) (defScope s_L_take) .none kV15 dc15 pm15 an15 cd15 ct15), sl15⟩) (c15 : PySem.W.codeIn K cd15 "_law_take" = true) (k15 : PySem.W.keepIn K (.ref f15) = true)
    (a16 : PySem.W.nsIn K mainGlobals "_law_whole" = some (some (.ref f16))) (l16 : K.lookup f16 = some ⟨oc16, od16, .func (PySem.W.fnOf "_law_whole" "_law_whole" (defArgs s_L_whole) (defBody s_L_whole) (defScope s_L_whole) .none kV16 dc16 pm16 an16 cd16 ct16), sl16⟩) (c16 : PySem.W.codeIn K cd16 "_law_whole" = true) (k16 : PySem.W.keepIn K (.ref f16) = true)
    (a17 : PySem.W.nsIn K mainGlobals "_law_number" = some (some (.ref f17))) (l17 : K.lookup f17 = some ⟨oc17, od17, .func (PySem.W.fnOf "_law_number" "_law_number" (defArgs s_L_number) (defBody s_L_number) (defScope s_L_number) .none kV17 dc17 pm17 an17 cd17 ct17), sl17⟩) (c17 : PySem.W.codeIn K cd17 "_law_number" = true) (k17 : PySem.W.keepIn K (.ref f17) = true)
    (a18 : PySem.W.nsIn K mainGlobals "_law_steps" = some (some (.ref f18))) (l18 : K.lookup f18 = some ⟨oc18, od18, .func (PySem.W.fnOf "_law_steps" "_law_steps" (defArgs s_L_steps) (defBody s_L_steps) (defScope s_L_steps) .none kV18 dc18 pm18 an18 cd18 ct18), sl18⟩) (c18 : PySem.W.codeIn K cd18 "_law_steps" = true) (k18 : PySem.W.keepIn K (.ref f18) = true)
    (a19 : PySem.W.nsIn K mainGlobals "_law_step_text" = some (some (.ref f19))) (l19 : K.lookup f19 = some ⟨oc19, od19, .func (PySem.W.fnOf "_law_step_text" "_law_step_text" (defArgs s_L_step_text) (defBody s_L_step_text) (defScope s_L_step_text) .none kV19 dc19 pm19 an19 cd19 ct19), sl19⟩) (c19 : PySem.W.codeIn K cd19 "_law_step_text" = true) (k19 : PySem.W.keepIn K (.ref f19) = true)
    (a20 : PySem.W.nsIn K mainGlobals "_law_text" = some (some (.ref f20))) (l20 : K.lookup f20 = some ⟨oc20, od20, .func (PySem.W.fnOf "_law_text" "_law_text" (defArgs s_L_text) (defBody s_L_text) (defScope s_L_text) .none kV20 dc20 pm20 an20 cd20 ct20), sl20⟩) (c20 : PySem.W.codeIn K cd20 "_law_text" = true) (k20 : PySem.W.keepIn K (.ref f20) = true)
    (a21 : PySem.W.nsIn K mainGlobals "_law_numbers" = some (some (.ref f21))) (l21 : K.lookup f21 = some ⟨oc21, od21, .func (PySem.W.fnOf "_law_numbers" "_law_numbers" (defArgs s_L_numbers) (defBody s_L_numbers) (defScope s_L_numbers) .none kV21 dc21 pm21 an21 cd21 ct21), sl21⟩) (c21 : PySem.W.codeIn K cd21 "_law_numbers" = true) (k21 : PySem.W.keepIn K (.ref f21) = true)
    (a22 : PySem.W.nsIn K mainGlobals "_law_read" = some (some (.ref f22))) (l22 : K.lookup f22 = some ⟨oc22, od22, .func (PySem.W.fnOf "_law_read" "_law_read" (defArgs s_L_read) (defBody s_L_read) (defScope s_L_read) .none kV22 dc22 pm22 an22 cd22 ct22), sl22⟩) (c22 : PySem.W.codeIn K cd22 "_law_read" = true) (k22 : PySem.W.keepIn K (.ref f22) = true)
    (a23 : PySem.W.nsIn K mainGlobals "law" = some (some (.ref f23))) (l23 : K.lookup f23 = some ⟨oc23, od23, .func (PySem.W.fnOf "law" "law" (defArgs s_law) (defBody s_law) (defScope s_law) .none kV23 dc23 pm23 an23 cd23 ct23), sl23⟩) (c23 : PySem.W.codeIn K cd23 "law" = true) (k23 : PySem.W.keepIn K (.ref f23) = true)
    (z0 : PySem.W.nsIn K mainGlobals "all" = some none)
    (z1 : PySem.W.nsIn K mainGlobals "bool" = some none)
    (z2 : PySem.W.nsIn K mainGlobals "int" = some none)
    (z3 : PySem.W.nsIn K mainGlobals "isinstance" = some none)
    (z4 : PySem.W.nsIn K mainGlobals "len" = some none)
    (z5 : PySem.W.nsIn K mainGlobals "list" = some none)
    (z6 : PySem.W.nsIn K mainGlobals "range" = some none)
    (z7 : PySem.W.nsIn K mainGlobals "repr" = some none)
    (z8 : PySem.W.nsIn K mainGlobals "str" = some none)
    (z9 : PySem.W.nsIn K mainGlobals "tuple" = some none)
    (z10 : PySem.W.nsIn K mainGlobals "zip" = some none)
    {t_MOST_FIGURES : Tok} (g_MOST_FIGURES : PySem.W.nsIn K mainGlobals "MOST_FIGURES" = some (some (.int 9 t_MOST_FIGURES)))
    : ∃ A : Ad, A.a_law = fa ∧ (∀ (s : Shared) (v : Value), BindsTo s A.d_law ⟨[v], []⟩ [("_law_script", v)]) ∧ Tx w K mg A := by
  have e := hfa.symm.trans (PySem.W.mg_of X G a23)
  cases e
  have F0 := fun_mk (st := s_is_figures) l0 c0 k0
  have F1 := fun_mk (st := s_number_of) l1 c1 k1
  have F2 := fun_mk (st := s_numbers_of) l2 c2 k2
  have F3 := fun_mk (st := s_words_of) l3 c3 k3
  have F4 := fun_mk (st := s_rows_of) l4 c4 k4
  have F5 := fun_mk (st := s_text_of) l5 c5 k5
  have F6 := fun_mk (st := s_sections_of) l6 c6 k6
  have F7 := fun_mk (st := s_whole_sections) l7 c7 k7
  have F8 := fun_mk (st := s_words_behind) l8 c8 k8
  have F9 := fun_mk (st := s_numbers_behind) l9 c9 k9
  have F10 := fun_mk (st := s_read_paper) l10 c10 k10
  have F11 := fun_mk (st := s_read_step) l11 c11 k11
  have F12 := fun_mk (st := s_paper_text) l12 c12 k12
  have F13 := fun_mk (st := s_L_cell_at) l13 c13 k13
  have F14 := fun_mk (st := s_L_bag) l14 c14 k14
  have F15 := fun_mk (st := s_L_take) l15 c15 k15
  have F16 := fun_mk (st := s_L_whole) l16 c16 k16
  have F17 := fun_mk (st := s_L_number) l17 c17 k17
  have F18 := fun_mk (st := s_L_steps) l18 c18 k18
  have F19 := fun_mk (st := s_L_step_text) l19 c19 k19
  have F20 := fun_mk (st := s_L_text) l20 c20 k20
  have F21 := fun_mk (st := s_L_numbers) l21 c21 k21
  have F22 := fun_mk (st := s_L_read) l22 c22 k22
  have F23 := fun_mk (st := s_law) l23 c23 k23
  refine ⟨⟨f0, PySem.W.fnOf "is_figures" "is_figures" (defArgs s_is_figures) (defBody s_is_figures) (defScope s_is_figures) .none kV0 dc0 pm0 an0 cd0 ct0, f1, PySem.W.fnOf "number_of" "number_of" (defArgs s_number_of) (defBody s_number_of) (defScope s_number_of) .none kV1 dc1 pm1 an1 cd1 ct1, f2, PySem.W.fnOf "numbers_of" "numbers_of" (defArgs s_numbers_of) (defBody s_numbers_of) (defScope s_numbers_of) .none kV2 dc2 pm2 an2 cd2 ct2, f3, PySem.W.fnOf "words_of" "words_of" (defArgs s_words_of) (defBody s_words_of) (defScope s_words_of) .none kV3 dc3 pm3 an3 cd3 ct3, f4, PySem.W.fnOf "rows_of" "rows_of" (defArgs s_rows_of) (defBody s_rows_of) (defScope s_rows_of) .none kV4 dc4 pm4 an4 cd4 ct4, f5, PySem.W.fnOf "text_of" "text_of" (defArgs s_text_of) (defBody s_text_of) (defScope s_text_of) .none kV5 dc5 pm5 an5 cd5 ct5, f6, PySem.W.fnOf "sections_of" "sections_of" (defArgs s_sections_of) (defBody s_sections_of) (defScope s_sections_of) .none kV6 dc6 pm6 an6 cd6 ct6, f7, PySem.W.fnOf "whole_sections" "whole_sections" (defArgs s_whole_sections) (defBody s_whole_sections) (defScope s_whole_sections) .none kV7 dc7 pm7 an7 cd7 ct7, f8, PySem.W.fnOf "words_behind" "words_behind" (defArgs s_words_behind) (defBody s_words_behind) (defScope s_words_behind) .none kV8 dc8 pm8 an8 cd8 ct8, f9, PySem.W.fnOf "numbers_behind" "numbers_behind" (defArgs s_numbers_behind) (defBody s_numbers_behind) (defScope s_numbers_behind) .none kV9 dc9 pm9 an9 cd9 ct9, f10, PySem.W.fnOf "read_paper" "read_paper" (defArgs s_read_paper) (defBody s_read_paper) (defScope s_read_paper) .none kV10 dc10 pm10 an10 cd10 ct10, f11, PySem.W.fnOf "read_step" "read_step" (defArgs s_read_step) (defBody s_read_step) (defScope s_read_step) .none kV11 dc11 pm11 an11 cd11 ct11, f12, PySem.W.fnOf "paper_text" "paper_text" (defArgs s_paper_text) (defBody s_paper_text) (defScope s_paper_text) .none kV12 dc12 pm12 an12 cd12 ct12, f13, PySem.W.fnOf "_law_cell_at" "_law_cell_at" (defArgs s_L_cell_at) (defBody s_L_cell_at) (defScope s_L_cell_at) .none kV13 dc13 pm13 an13 cd13 ct13, f14, PySem.W.fnOf "_law_bag" "_law_bag" (defArgs s_L_bag) (defBody s_L_bag) (defScope s_L_bag) .none kV14 dc14 pm14 an14 cd14 ct14, f15, PySem.W.fnOf "_law_take" "_law_take" (defArgs s_L_take) (defBody s_L_take) (defScope s_L_take) .none kV15 dc15 pm15 an15 cd15 ct15, f16, PySem.W.fnOf "_law_whole" "_law_whole" (defArgs s_L_whole) (defBody s_L_whole) (defScope s_L_whole) .none kV16 dc16 pm16 an16 cd16 ct16, f17, PySem.W.fnOf "_law_number" "_law_number" (defArgs s_L_number) (defBody s_L_number) (defScope s_L_number) .none kV17 dc17 pm17 an17 cd17 ct17, f18, PySem.W.fnOf "_law_steps" "_law_steps" (defArgs s_L_steps) (defBody s_L_steps) (defScope s_L_steps) .none kV18 dc18 pm18 an18 cd18 ct18, f19, PySem.W.fnOf "_law_step_text" "_law_step_text" (defArgs s_L_step_text) (defBody s_L_step_text) (defScope s_L_step_text) .none kV19 dc19 pm19 an19 cd19 ct19, f20, PySem.W.fnOf "_law_text" "_law_text" (defArgs s_L_text) (defBody s_L_text) (defScope s_L_text) .none kV20 dc20 pm20 an20 cd20 ct20, f21, PySem.W.fnOf "_law_numbers" "_law_numbers" (defArgs s_L_numbers) (defBody s_L_numbers) (defScope s_L_numbers) .none kV21 dc21 pm21 an21 cd21 ct21, f22, PySem.W.fnOf "_law_read" "_law_read" (defArgs s_L_read) (defBody s_L_read) (defScope s_L_read) .none kV22 dc22 pm22 an22 cd22 ct22, fa, PySem.W.fnOf "law" "law" (defArgs s_law) (defBody s_law) (defScope s_law) .none kV23 dc23 pm23 an23 cd23 ct23⟩, rfl, fun s v => .of_eq rfl, ?_⟩
  exact ⟨PySem.W.mg_none_of X G z0, PySem.W.mg_none_of X G z1, PySem.W.mg_none_of X G z2, PySem.W.mg_none_of X G z3, PySem.W.mg_none_of X G z4, PySem.W.mg_none_of X G z5, PySem.W.mg_none_of X G z6, PySem.W.mg_none_of X G z7, PySem.W.mg_none_of X G z8, PySem.W.mg_none_of X G z9, PySem.W.mg_none_of X G z10, ⟨_, PySem.W.mg_of X G g_MOST_FIGURES⟩, F0, F0.binds fun _ _ _ _ _ _ us hl => of_len1 (fun _ => rfl) us hl, PySem.W.mg_of X G a0, F1, F1.binds fun _ _ _ _ _ _ us hl => of_len1 (fun _ => rfl) us hl, PySem.W.mg_of X G a1, F2, F2.binds fun _ _ _ _ _ _ us hl => of_len1 (fun _ => rfl) us hl, PySem.W.mg_of X G a2, F3, F3.binds fun _ _ _ _ _ _ us hl => of_len1 (fun _ => rfl) us hl, PySem.W.mg_of X G a3, F4, F4.binds fun _ _ _ _ _ _ us hl => of_len1 (fun _ => rfl) us hl, PySem.W.mg_of X G a4, F5, F5.binds fun _ _ _ _ _ _ us hl => of_len1 (fun _ => rfl) us hl, PySem.W.mg_of X G a5, F6, F6.binds fun _ _ _ _ _ _ us hl => of_len2 (fun _ _ => rfl) us hl, PySem.W.mg_of X G a6, F7, F7.binds fun _ _ _ _ _ _ us hl => of_len2 (fun _ _ => rfl) us hl, PySem.W.mg_of X G a7, F8, F8.binds fun _ _ _ _ _ _ us hl => of_len2 (fun _ _ => rfl) us hl, PySem.W.mg_of X G a8, F9, F9.binds fun _ _ _ _ _ _ us hl => of_len2 (fun _ _ => rfl) us hl, PySem.W.mg_of X G a9, F10, F10.binds fun _ _ _ _ _ _ us hl => of_len1 (fun _ => rfl) us hl, PySem.W.mg_of X G a10, F11, F11.binds fun _ _ _ _ _ _ us hl => of_len1 (fun _ => rfl) us hl, PySem.W.mg_of X G a11, F12, F12.binds fun _ _ _ _ _ _ us hl => of_len1 (fun _ => rfl) us hl, PySem.W.mg_of X G a12, F13, F13.binds fun _ _ _ _ _ _ us hl => of_len2 (fun _ _ => rfl) us hl, PySem.W.mg_of X G a13, F14, F14.binds fun _ _ _ _ _ _ us hl => of_len2 (fun _ _ => rfl) us hl, PySem.W.mg_of X G a14, F15, F15.binds fun _ _ _ _ _ _ us hl => of_len2 (fun _ _ => rfl) us hl, PySem.W.mg_of X G a15, F16, F16.binds fun _ _ _ _ _ _ us hl => of_len1 (fun _ => rfl) us hl, PySem.W.mg_of X G a16, F17, F17.binds fun _ _ _ _ _ _ us hl => of_len1 (fun _ => rfl) us hl, PySem.W.mg_of X G a17, F18, F18.binds fun _ _ _ _ _ _ us hl => of_len2 (fun _ _ => rfl) us hl, PySem.W.mg_of X G a18, F19, F19.binds fun _ _ _ _ _ _ us hl => of_len2 (fun _ _ => rfl) us hl, PySem.W.mg_of X G a19, F20, F20.binds fun _ _ _ _ _ _ us hl => of_len1 (fun _ => rfl) us hl, PySem.W.mg_of X G a20, F21, F21.binds fun _ _ _ _ _ _ us hl => of_len1 (fun _ => rfl) us hl, PySem.W.mg_of X G a21, F22, F22.binds fun _ _ _ _ _ _ us hl => of_len2 (fun _ _ => rfl) us hl, PySem.W.mg_of X G a22, F23, F23.binds fun _ _ _ _ _ _ us hl => of_len1 (fun _ => rfl) us hl, PySem.W.mg_of X G a23⟩
theorem walk {l : PySem.W.OpenLaw} {q : Program} {loose : List Str} {XP : (Str → Option Value) → Heap → Prop} {YP : World → Heap → Prop} {d : DefRec} {K : Params → PySem.W.Frag} (hn : l.most = some 63) (hdf : d.params.defaults = []) (hnm : d.name = "law")
    (hY : ∀ (w : World) (h : Heap), YP w h → (K w.params).In h)
    (F : ∀ (w : World) (mg : Str → Option Value) (fa : Addr) (h : Heap), (K w.params).In h → h.Ns mainGlobals mg → mg "law" = some (.ref fa) →
      ∃ A : Ad, A.a_law = fa ∧ (∀ (s : Shared) (v : Value), BindsTo s A.d_law ⟨[v], []⟩ [("_law_script", v)]) ∧ Tx w (K w.params) mg A) :
    PySem.W.WalkO q loose XP YP l.row.toRowW d [] (fun f vs => PySem.call f vs) := by
  refine L2.walk_of (n := 63) (k := 7) (x := "_law_script") (CX := fun _ => CX0) (sp := fun w => sp_law (K w.params)) hn (by decide) hdf ⟨rfl, by decide, by decide⟩ hY (fun w mg fa h k1 k2 k3 => ?_) (fun _ _ a ns hl _ hS => ⟨a, ns, rfl, hS, hl, fun _ => rfl⟩) fun _ _ _ _ _ z => z
  obtain ⟨A, rfl, hb, T⟩ := F w mg fa h k1 k2 (by rw [← hnm]; exact k3)
  exact ⟨A.d_law, hb, fun base _ _ => all_ok T⟩
end K66
open PySem PySem.W PyProof.Rows
set_option maxRecDepth 100000 in
set_option maxHeartbeats 0 in
theorem PySem.Challenge.cw_lampforge_k66_papers_written_and_read_holds : PySem.Challenge.rw_lampforge_k66_papers_written_and_read.Holds := by
  w_on; o_law; k_head; (case hw => w_witness2)
  k_fill
  refine K66.walk (l := PySem.Challenge.rw_lampforge_k66_papers_written_and_read) rfl rfl rfl (fun w h Y => PySem.W.kIn_of Y) ?F
  case F =>
    intro w mg fa h KX G hmg
    refine' K66.all_mk KX G hmg ?a0 ?l0 ?c0 ?k0 ?a1 ?l1 ?c1 ?k1 ?a2 ?l2 ?c2 ?k2 ?a3 ?l3 ?c3 ?k3 ?a4 ?l4 ?c4 ?k4 ?a5 ?l5 ?c5 ?k5 ?a6 ?l6 ?c6 ?k6 ?a7 ?l7 ?c7 ?k7 ?a8 ?l8 ?c8 ?k8 ?a9 ?l9 ?c9 ?k9 ?a10 ?l10 ?c10 ?k10 ?a11 ?l11 ?c11 ?k11 ?a12 ?l12 ?c12 ?k12 ?a13 ?l13 ?c13 ?k13 ?a14 ?l14 ?c14 ?k14 ?a15 ?l15 ?c15 ?k15 ?a16 ?l16 ?c16 ?k16 ?a17 ?l17 ?c17 ?k17 ?a18 ?l18 ?c18 ?k18 ?a19 ?l19 ?c19 ?k19 ?a20 ?l20 ?c20 ?k20 ?a21 ?l21 ?c21 ?k21 ?a22 ?l22 ?c22 ?k22 ?a23 ?l23 ?c23 ?k23 ?z0 ?z1 ?z2 ?z3 ?z4 ?z5 ?z6 ?z7 ?z8 ?z9 ?z10 ?g_MOST_FIGURES
    (case a0 => k_is)
    (case l0 => k_is)
    (case c0 => k_is)
    (case k0 => k_is)
    (case a1 => k_is)
    (case l1 => k_is)
    (case c1 => k_is)
    (case k1 => k_is)
    (case a2 => k_is)
    (case l2 => k_is)
    (case c2 => k_is)
    (case k2 => k_is)
    (case a3 => k_is)
    (case l3 => k_is)
    (case c3 => k_is)
    (case k3 => k_is)
    (case a4 => k_is)
    (case l4 => k_is)
    (case c4 => k_is)
    (case k4 => k_is)
    (case a5 => k_is)
    (case l5 => k_is)
    (case c5 => k_is)
    (case k5 => k_is)
    (case a6 => k_is)
    (case l6 => k_is)
    (case c6 => k_is)
    (case k6 => k_is)
    (case a7 => k_is)
    (case l7 => k_is)
    (case c7 => k_is)
    (case k7 => k_is)
    (case a8 => k_is)
    (case l8 => k_is)
    (case c8 => k_is)
    (case k8 => k_is)
    (case a9 => k_is)
    (case l9 => k_is)
    (case c9 => k_is)
    (case k9 => k_is)
    (case a10 => k_is)
    (case l10 => k_is)
    (case c10 => k_is)
    (case k10 => k_is)
    (case a11 => k_is)
    (case l11 => k_is)
    (case c11 => k_is)
    (case k11 => k_is)
    (case a12 => k_is)
    (case l12 => k_is)
    (case c12 => k_is)
    (case k12 => k_is)
    (case a13 => k_is)
    (case l13 => k_is)
    (case c13 => k_is)
    (case k13 => k_is)
    (case a14 => k_is)
    (case l14 => k_is)
    (case c14 => k_is)
    (case k14 => k_is)
    (case a15 => k_is)
    (case l15 => k_is)
    (case c15 => k_is)
    (case k15 => k_is)
    (case a16 => k_is)
    (case l16 => k_is)
    (case c16 => k_is)
    (case k16 => k_is)
    (case a17 => k_is)
    (case l17 => k_is)
    (case c17 => k_is)
    (case k17 => k_is)
    (case a18 => k_is)
    (case l18 => k_is)
    (case c18 => k_is)
    (case k18 => k_is)
    (case a19 => k_is)
    (case l19 => k_is)
    (case c19 => k_is)
    (case k19 => k_is)
    (case a20 => k_is)
    (case l20 => k_is)
    (case c20 => k_is)
    (case k20 => k_is)
    (case a21 => k_is)
    (case l21 => k_is)
    (case c21 => k_is)
    (case k21 => k_is)
    (case a22 => k_is)
    (case l22 => k_is)
    (case c22 => k_is)
    (case k22 => k_is)
    (case a23 => k_is)
    (case l23 => k_is)
    (case c23 => k_is)
    (case k23 => k_is)
    (case z0 => k_is)
    (case z1 => k_is)
    (case z2 => k_is)
    (case z3 => k_is)
    (case z4 => k_is)
    (case z5 => k_is)
    (case z6 => k_is)
    (case z7 => k_is)
    (case z8 => k_is)
    (case z9 => k_is)
    (case z10 => k_is)
    (case g_MOST_FIGURES => k_is)

