import PyProof.Rows.All
import Wide.All
import OpenK.AllK
import Wide.FinOn
import Lean
import PyProof.EqAt
import PyProof.EqKinds
import PyProof.TupleCall
import PySem.Challenge.RW_letterform_k01_forms
set_option Elab.async false
set_option linter.all false
set_option maxRecDepth 100000
/-! THE HAND LAYER, for ints, bools, texts, own classes, LISTS and tuples (index, slices, in, append, pop ..), calls, loops. Paste it whole ahead of your own text; what your proof does not reach may be deleted. -/
namespace L2
open PySem PySem.Spec PyProof.Rows

/-- a key: an int or a str -/
abbrev Key := Sum Int Str
def keyIs : Key → Value → Bool
  | .inl k, v => Value.isInt k v
  | .inr x, v => Value.isStrOf x v
def keyH (w : World) : Key → Int
  | .inl k => hashInt k
  | .inr x => hashStr w x
theorem keyIs_shape : ∀ {k : Key} {v : Value}, keyIs k v = true → (∃ i t, k = Sum.inl i ∧ v = Value.int i t) ∨ (∃ x t, k = Sum.inr x ∧ v = Value.str x t)
  | .inl i, v, h => by
    obtain ⟨t, e⟩ := Value.isInt_shape (k := i) (v := v) h
    exact .inl ⟨i, t, rfl, e⟩
  | .inr x, v, h => by
    obtain ⟨t, e⟩ := Value.isStrOf_shape (x := x) (v := v) h
    exact .inr ⟨x, t, rfl, e⟩
theorem keyIs_int (i : Int) (t : Tok) : keyIs (.inl i) (.int i t) = true := by simp [keyIs, Value.isInt]
theorem keyIs_str (x : Str) (t : Tok) : keyIs (.inr x) (.str x t) = true := by simp [keyIs, Value.isStrOf]
theorem key_ll (a b : Int) : decide ((Sum.inl a : Key) = Sum.inl b) = (a == b) := by
  by_cases e : a = b
  · subst e; simp
  · have h : ¬ (Sum.inl a : Key) = Sum.inl b := fun q => e (Sum.inl.inj q)
    rw [decide_eq_false h]
    exact (beq_eq_false_iff_ne.mpr e).symm
theorem key_rr (a b : Str) : decide ((Sum.inr a : Key) = Sum.inr b) = decide (a = b) := by
  by_cases e : a = b
  · subst e; simp
  · have h : ¬ (Sum.inr a : Key) = Sum.inr b := fun q => e (Sum.inr.inj q)
    rw [decide_eq_false h, decide_eq_false e]
theorem key_lr (a : Int) (b : Str) : decide ((Sum.inl a : Key) = Sum.inr b) = false := decide_eq_false (fun q => nomatch q)
theorem key_rl (a : Str) (b : Int) : decide ((Sum.inr a : Key) = Sum.inl b) = false := decide_eq_false (fun q => nomatch q)

def mixKind (prog : Program) (w : World) : PySem.KeyKind prog w Key where
  is := keyIs
  hash := keyH w
  inj := fun v a b ha hb => by
    rcases keyIs_shape ha with ⟨i, t, rfl, rfl⟩ | ⟨x, t, rfl, rfl⟩
    · rcases keyIs_shape hb with ⟨j, u, rfl, e⟩ | ⟨y, u, rfl, e⟩
      · injection e with e1 _; rw [e1]
      · exact nomatch e
    · rcases keyIs_shape hb with ⟨j, u, rfl, e⟩ | ⟨y, u, rfl, e⟩
      · exact nomatch e
      · injection e with e1 _; rw [e1]
  byValue := fun k v h => by
    rcases keyIs_shape h with ⟨i, t, rfl, rfl⟩ | ⟨x, t, rfl, rfl⟩ <;> rfl
  pyHash := fun hv h => by
    rcases keyIs_shape hv with ⟨i, t, rfl, rfl⟩ | ⟨x, t, rfl, rfl⟩
    · exact wpAny_pyHash_int h
    · exact wpAny_pyHash_str h
  eqBool := fun hu hv h => by
    rcases keyIs_shape hu with ⟨i, t, rfl, rfl⟩ | ⟨x, t, rfl, rfl⟩
    · rcases keyIs_shape hv with ⟨j, u, rfl, rfl⟩ | ⟨y, u, rfl, rfl⟩
      · rw [key_ll] at h; exact wpAny_eqBool_int h
      · rw [key_lr] at h; exact SeqAt.EqAt.int_str i t y u _ _ _ _ h
    · rcases keyIs_shape hv with ⟨j, u, rfl, rfl⟩ | ⟨y, u, rfl, rfl⟩
      · rw [key_rl] at h; exact SeqAt.EqAt.str_int x t j u _ _ _ _ h
      · rw [key_rr] at h; exact wpAny_eqBool_str h
  «strs» := fun k x t v h => by
    rcases keyIs_shape h with ⟨i, u, rfl, e⟩ | ⟨y, u, rfl, e⟩
    · exact nomatch e
    · injection e with e1 _
      subst e1
      cases v <;> rfl

theorem mixKind_int (prog : Program) (w : World) (i : Int) (t : Tok) : (mixKind prog w).is (.inl i) (.int i t) = true := keyIs_int i t
theorem mixKind_str (prog : Program) (w : World) (x : Str) (t : Tok) : (mixKind prog w).is (.inr x) (.str x t) = true := keyIs_str x t
end L2

namespace L2
open PySem PySem.Spec PyProof.Rows

/-- a value, without the heap -/
inductive V where
  | non | bl (b : Bool) | int (i : Int) | str (x : Str) | byt (b : Array UInt8) | flt (b : UInt64) | ref (a : Addr) | ty (n : String)
  deriving DecidableEq

def RelV : V → Value → Prop
  | .non, u => u = Value.none
  | .bl b, u => u = Value.bool b
  | .int i, u => ∃ t, u = Value.int i t
  | .str x, u => ∃ t, u = Value.str x t
  | .byt b, u => ∃ t, u = Value.bytes b t
  | .flt b, u => ∃ t, u = Value.float b t
  | .ref a, u => u = Value.ref a
  | .ty n, u => u = Value.type n

abbrev Vals : List V → List Value → Prop := Paired RelV
theorem Vals.length {xs : List V} {us : List Value} (r : Vals xs us) : xs.length = us.length := Paired.length r
theorem Vals.get : ∀ {xs : List V} {us : List Value} {i : Nat} {x : V}, Vals xs us → xs[i]? = some x → ∃ u, us[i]? = some u ∧ RelV x u
  | _, _, _, _, .nil, e => by simp at e
  | _, _, 0, _, .cons r _, e => by simp at e; subst e; exact ⟨_, rfl, r⟩
  | _, _, i + 1, x, .cons _ t, e => by
    obtain ⟨u, h1, h2⟩ := Vals.get (i := i) (x := x) t (by simpa using e)
    exact ⟨u, by simpa using h1, h2⟩
theorem Vals.set {x : V} {u : Value} (r : RelV x u) : ∀ {xs : List V} {us : List Value} (i : Nat), Vals xs us → Vals (xs.set i x) (us.set i u)
  | _, _, _, .nil => .nil
  | _, _, 0, .cons _ t => .cons r t
  | _, _, i + 1, .cons q t => .cons q (Vals.set r i t)
theorem Vals.append : ∀ {xs ys : List V} {us ws : List Value}, Vals xs us → Vals ys ws → Vals (xs ++ ys) (us ++ ws)
  | _, _, _, _, .nil, s => s
  | _, _, _, _, .cons r t, s => .cons r (Vals.append t s)
theorem Vals.take : ∀ {xs : List V} {us : List Value} (n : Nat), Vals xs us → Vals (xs.take n) (us.take n)
  | _, _, 0, _ => .nil
  | _, _, _ + 1, .nil => .nil
  | _, _, n + 1, .cons r t => .cons r (Vals.take n t)
theorem Vals.drop : ∀ {xs : List V} {us : List Value} (n : Nat), Vals xs us → Vals (xs.drop n) (us.drop n)
  | _, _, 0, r => r
  | _, _, _ + 1, .nil => .nil
  | _, _, n + 1, .cons _ t => Vals.drop n t
def RelO : Option V → Option Value → Prop
  | some v, some u => RelV v u
  | none, none => True
  | _, _ => False
def KV {κ : Type} : List (κ × V) → List (κ × Value) → Prop := Paired fun (p : κ × V) (q : κ × Value) => p.1 = q.1 ∧ RelV p.2 q.2

/-- a key of a dict (00_mix): an int or a text -/
def kV : Key → V
  | .inl i => .int i
  | .inr x => .str x

/-- what stands at a tracked address -/
inductive HO where
  /-- a list -/
  | lst (xs : List V)
  /-- a tuple (never changes) -/
  | tup (xs : List V)
  /-- a dict whose keys are ints and texts; one whose keys are tuples of ints and texts (the empty one is both) -/
  | dK (kvs : List (Key × V)) | dT (kvs : List (List Key × V))
  /-- a set of ints: its members, its size -/
  | set (S : Int → Bool) (n : Nat)
  /-- an instance of the class at C, its dict at dx, its attributes -/
  | ins (C dx : Addr) (fs : List (Str × V))
  /-- the dict of the instance at x -/
  | own (x : Addr)
  /-- the dict of an exception -/
  | xd (fs : List (Str × V))
  /-- a bound method, f of x -/
  | met (f x : Addr)
  /-- a range object lo, lo + 1, .. below hi -/
  | rng (lo hi : Int)
  /-- a thing that is known to the object (the script; a dict while a loop walks it): read, never written while it is so -/
  | frz (o : Obj) (u : HO)
  /-- a code object's table -/
  | tbl (ps : Array Value)
  /-- any other thing, by what is true of its one object (a def of one's own: SetO a S n := HO.ext fun h => ..) -/
  | ext (φ : Heap → Prop)

abbrev Hp := Addr → Option HO
def upd (H : Hp) (a : Addr) (o : HO) : Hp := fun b => if b = a then some o else H b
theorem upd_same {H : Hp} {a : Addr} {o : HO} : upd H a o a = some o := by unfold upd; rw [if_pos rfl]
theorem upd_ne {H : Hp} {a b : Addr} {o : HO} (h : b ≠ a) : upd H a o b = H b := by unfold upd; rw [if_neg h]
/-- two objects of different content stand apart -/
theorem ne_of {H : Hp} {a b : Addr} {o u : HO} (h : H a = some o) (h' : H b = some u) (d : o ≠ u) : a ≠ b := by
  intro e; subst e; rw [h] at h'; exact d (Option.some.inj h')
theorem ne_of_none {H : Hp} {a b : Addr} {o : HO} (h : H a = some o) (h' : H b = none) : a ≠ b := by
  intro e; subst e; rw [h] at h'; cases h'

section
variable (P : Program) (w : World)
def ObjOk (H : Hp) (h : Heap) (a : Addr) : HO → Prop
  | .lst xs => xs.length ≤ sizeLine ∧ ∃ (its : List Value) (n : Nat), Vals xs its ∧ h.get? a = some { cls := .type "list", data := .seq its.toArray n }
  | .tup xs => xs.length ≤ sizeLine ∧ ∃ its : List Value, Vals xs its ∧ IsTup h a its.toArray
  | .dK kvs => kvs.length ≤ sizeLine ∧ (a == sysModules) = false ∧ ∃ vs, KV kvs vs ∧ h.DictOf (mixKind P w) a vs
  | .dT kvs => kvs.length ≤ sizeLine ∧ (a == sysModules) = false ∧ ∃ xs : List (List Key × Addr × Value),
      Paired (fun (p : List Key × V) (q : List Key × Addr × Value) => p.1 = q.1 ∧ H q.2.1 = some (.tup (p.1.map kV)) ∧ RelV p.2 q.2.2) kvs xs ∧
      ∃ o es ep, h.get? a = some o ∧ o.ExactDict ∧ o.data = .dict es ep ∧ es.toList = xs.map (entryOfKey (tupleKind (mixKind P w))) ∧ (xs.map (·.1)).Nodup
  | .set S n => h.SetOf (intKind P w) a S n
  | .ins C dx fs => H dx = some (.own a) ∧ fs.length ≤ 1000 ∧ dx ≠ a ∧ h.get? a = some (PySem.W.instObj C dx) ∧
      ∃ mA, h.Ns1 dx mA ∧ (∀ f, RelO (fs.lookup f) (mA f)) ∧ PySem.Within mA (fs.map (·.1))
  | .own _ => ∃ o, h.get? a = some o
  | .xd fs => ∃ mA, h.Ns1 a mA ∧ ∀ f, RelO (fs.lookup f) (mA f)
  | .rng lo hi => ∃ t u v, h.get? a = some { cls := .type "range", data := .fields #[.int lo t, .int hi u, .int 1 v] }
  | .frz o u => h.get? a = some o ∧ ObjOk H h a u
  | .tbl ps => h.get? a = some { cls := .none, data := .fields ps }
  | .met f x => h.get? a = some (PySem.W.methodObj (.ref f) (.ref x))
  | .ext φ => φ h ∧ (∃ o, h.get? a = some o) ∧ ∀ h1 h2 : Heap, φ h1 → (∀ o, h1.get? a = some o → h2.get? a = some o) → φ h2
/-- the abstract heap is held -/
def HOk (H : Hp) (h : Heap) : Prop := ∀ a o, H a = some o → ObjOk P w H h a o
end

section
variable {P : Program} {w : World} {H H' : Hp} {h h' : Heap} {a : Addr} {o : HO}
theorem ObjOk.lt (x : ObjOk P w H h a o) : a < h.objs.size := by
  cases o with
  | lst xs => obtain ⟨_, _, _, _, e⟩ := x; exact Heap.lt_size e
  | tup xs => obtain ⟨_, _, _, p⟩ := x; exact p.lt
  | dK kvs => obtain ⟨_, _, _, _, o, _, _, e, _⟩ := x; exact Heap.lt_size e
  | dT kvs => obtain ⟨_, _, _, _, o, _, _, e, _⟩ := x; exact Heap.lt_size e
  | set S n => obtain ⟨o, _, _, _, e, _⟩ := x; exact Heap.lt_size e
  | ins C dx fs => obtain ⟨_, _, _, e, _⟩ := x; exact Heap.lt_size e
  | own y => obtain ⟨_, e⟩ := x; exact Heap.lt_size e
  | xd fs => obtain ⟨_, ⟨_, _, _, e, _⟩, _⟩ := x; exact Heap.lt_size e
  | rng lo hi => obtain ⟨_, _, _, e⟩ := x; exact Heap.lt_size e
  | frz ob u => obtain ⟨e, _⟩ := x; exact Heap.lt_size e
  | tbl ps => exact Heap.lt_size (show h.get? a = some _ from x)
  | met f y => exact Heap.lt_size (show h.get? a = some _ from x)
  | ext φ => obtain ⟨_, ⟨_, e⟩, _⟩ := x; exact Heap.lt_size e
theorem Paired.mapP {α β : Type} {F G : α → β → Prop} : ∀ {l₁ : List α} {l₂ : List β}, Paired F l₁ l₂ → (∀ a b, F a b → G a b) → Paired G l₁ l₂
  | _, _, .nil, _ => .nil
  | _, _, .cons r t, f => .cons (f _ _ r) (Paired.mapP t f)
/-- what an object's description leans on: its own object, its own dict, the tuples -/
theorem ObjOk.stay (x : ObjOk P w H h a o) (k : ∀ b u, (b = a ∨ H b = some (.own a)) → h.get? b = some u → h'.get? b = some u)
    (ho : ∀ b, H b = some (.own a) → H' b = some (.own a)) (ht : ∀ b xs, H b = some (.tup xs) → H' b = some (.tup xs)) : ObjOk P w H' h' a o := by
  induction o with
  | lst xs => obtain ⟨z, its, n, r, e⟩ := x; exact ⟨z, its, n, r, k _ _ (.inl rfl) e⟩
  | tup xs => obtain ⟨z, its, r, ob, e, c⟩ := x; exact ⟨z, its, r, ob, k _ _ (.inl rfl) e, c⟩
  | dK kvs => obtain ⟨z, y, vs, r, ob, es, ep, e, c⟩ := x; exact ⟨z, y, vs, r, ob, es, ep, k _ _ (.inl rfl) e, c⟩
  | dT kvs =>
    obtain ⟨z, y, xs, r, ob, es, ep, e, c⟩ := x
    exact ⟨z, y, xs, Paired.mapP r fun p q z => ⟨z.1, ht _ _ z.2.1, z.2.2⟩, ob, es, ep, k _ _ (.inl rfl) e, c⟩
  | set S n => obtain ⟨ob, es, ep, t, e, c⟩ := x; exact ⟨ob, es, ep, t, k _ _ (.inl rfl) e, c⟩
  | ins C dx fs =>
    obtain ⟨d, z, ne, e, mA, ⟨od, es, ep, e2, c⟩, r⟩ := x
    exact ⟨ho _ d, z, ne, k _ _ (.inl rfl) e, mA, ⟨od, es, ep, k _ _ (.inr d) e2, c⟩, r⟩
  | own y => obtain ⟨ob, e⟩ := x; exact ⟨ob, k _ _ (.inl rfl) e⟩
  | xd fs => obtain ⟨mA, ⟨od, es, ep, e, c⟩, r⟩ := x; exact ⟨mA, ⟨od, es, ep, k _ _ (.inl rfl) e, c⟩, r⟩
  | rng lo hi => obtain ⟨t, u, v, e⟩ := x; exact ⟨t, u, v, k _ _ (.inl rfl) e⟩
  | frz ob u ih => obtain ⟨e, q⟩ := x; exact ⟨k _ _ (.inl rfl) e, ih q⟩
  | tbl ps =>
    have e : h.get? a = some { cls := .none, data := .fields ps } := x
    show h'.get? a = some { cls := .none, data := .fields ps }
    exact k a _ (.inl rfl) e
  | met f y =>
    have e : h.get? a = some (PySem.W.methodObj (.ref f) (.ref y)) := x
    show h'.get? a = some (PySem.W.methodObj (.ref f) (.ref y))
    exact k a _ (.inl rfl) e
  | ext φ => obtain ⟨p, ⟨o, e⟩, st⟩ := x; exact ⟨st _ _ p fun o q => k _ _ (.inl rfl) q, ⟨o, k _ _ (.inl rfl) e⟩, st⟩
theorem HOk.lt (x : HOk P w H h) (e : H a = some o) : a < h.objs.size := (x a o e).lt
theorem HOk.fresh (x : HOk P w H h) (e : h.objs.size ≤ a) : H a = none := by
  cases q : H a with
  | none => rfl
  | some u => exact absurd (Nat.lt_of_lt_of_le (x.lt q) e) (Nat.lt_irrefl _)
/-- every object of the heap is kept -/
theorem HOk.kept (x : HOk P w H h) (k : ∀ b u, h.get? b = some u → h'.get? b = some u) : HOk P w H h' := fun a o e =>
  (x a o e).stay (fun b u _ q => k b u q) (fun _ q => q) fun _ _ q => q
/-- a new object is laid and tracked -/
theorem HOk.laid (x : HOk P w H h) (k : ∀ b u, h.get? b = some u → h'.get? b = some u) (hp : h.objs.size ≤ a) (new : ObjOk P w (upd H a o) h' a o) : HOk P w (upd H a o) h' := fun b u e => by
  have hn := x.fresh hp
  by_cases hb : b = a
  · subst hb; rw [upd_same] at e; cases e; exact new
  · rw [upd_ne hb] at e
    exact (x b u e).stay (fun c v _ q => k c v q) (fun c q => by rw [upd_ne (ne_of_none q hn)]; exact q) fun c xs q => by rw [upd_ne (ne_of_none q hn)]; exact q
end

/-- what may be read as u: it is u, or a known u -/
def Rd (H : Hp) (a : Addr) (u : HO) : Prop := H a = some u ∨ ∃ o, H a = some (.frz o u)
theorem Rd.ok {P : Program} {w : World} {H : Hp} {h : Heap} {a : Addr} {u : HO} (r : Rd H a u) (x : HOk P w H h) : ObjOk P w H h a u := by
  rcases r with r | ⟨o, r⟩
  · exact x a u r
  · obtain ⟨_, q⟩ := x a _ r
    exact q
/-- what may be written -/
def Mut : Option HO → Prop
  | some (.lst _) => True
  | some (.dK _) => True
  | some (.dT _) => True
  | some (.set _ _) => True
  | some (.ins _ _ _) => True
  | some (.ext _) => True
  | _ => False
section
variable {P : Program} {w : World} {H : Hp} {h h' : Heap} {x e : Addr} {o' : HO}
/-- the object at e is changed: x itself, or the dict of the instance x -/
theorem HOk.write (ok : HOk P w H h) (mu : Mut (H x)) (he : e = x ∨ H e = some (.own x)) (k : ∀ b u, b ≠ e → h.get? b = some u → h'.get? b = some u) (heo : ∃ u, h'.get? e = some u)
    (new : ObjOk P w (upd H x o') h' x o') : HOk P w (upd H x o') h' := fun b u q => by
  have nown : ∀ c y, H c = some (.own y) → c ≠ x := fun c y r z => by subst z; rw [r] at mu; exact mu
  have ntup : ∀ c xs, H c = some (.tup xs) → c ≠ x := fun c xs r z => by subst z; rw [r] at mu; exact mu
  by_cases hb : b = x
  · subst hb; rw [upd_same] at q; cases q; exact new
  · rw [upd_ne hb] at q
    by_cases hbe : b = e
    · have q' : H b = some (.own x) := by
        rcases he with z | z
        · exact absurd (hbe.trans z) hb
        · rw [hbe]; exact z
      rw [q] at q'; cases q'
      obtain ⟨v, hv⟩ := heo
      exact ⟨v, by rw [hbe]; exact hv⟩
    · refine (ok b u q).stay (fun c v hc r => k c v ?_ r) (fun c r => by rw [upd_ne (nown c b r)]; exact r) fun c xs r => by rw [upd_ne (ntup c xs r)]; exact r
      rcases hc with rfl | hc
      · exact hbe
      · rintro rfl
        rcases he with z | z
        · exact nown c b hc z
        · rw [hc] at z; cases z; exact hb rfl
end

/-! ### kept unless tracked; of the frames at fs (the callers') the slots may change (an exception that passes writes there); of the records at ex (iterators) nothing is said -/
structure Un (fs ex : List Addr) (H H' : Hp) (h h' : Heap) : Prop where
  keep : ∀ b o, h.get? b = some o → H b = none → b ∉ fs → b ∉ ex → h'.get? b = some o
  slot : ∀ b o, h.get? b = some o → H b = none → b ∈ fs → b ∉ ex → ∃ sl, h'.get? b = some { o with slots := sl }
  free : ∀ b o, h.get? b = some o → H b = none → b ∉ ex → H' b = none
  there : ∀ b o, h.get? b = some o → b ∉ ex → ∃ o', h'.get? b = some o'
  tups : ∀ b xs, H b = some (.tup xs) → H' b = some (.tup xs)
  frzs : ∀ b o u, H b = some (.frz o u) → H' b = some (.frz o u)
  tbls : ∀ b ps, H b = some (.tbl ps) → ∃ more, H' b = some (.tbl (ps ++ more))
section
variable {fs fs' ex ex' : List Addr} {H H1 H2 : Hp} {h h1 h2 h' : Heap} {a x e : Addr} {o : HO}
theorem Un.any (u : Un fs ex H H1 h h1) {b : Addr} {ob : Obj} (q : h.get? b = some ob) (n : H b = none) (hx : b ∉ ex) : ∃ sl, h1.get? b = some { ob with slots := sl } := by
  by_cases hb : b ∈ fs
  · exact u.slot b ob q n hb hx
  · exact ⟨ob.slots, u.keep b ob q n hb hx⟩
theorem Un.kept (k : ∀ b u, h.get? b = some u → h'.get? b = some u) : Un fs ex H H h h' :=
  ⟨fun b ob q _ _ _ => k b ob q, fun b ob q _ _ _ => ⟨ob.slots, k b ob q⟩, fun _ _ _ n _ => n, fun b ob q _ => ⟨ob, k b ob q⟩, fun _ _ q => q, fun _ _ _ q => q, fun _ ps q => ⟨#[], by rw [q]; simp⟩⟩
theorem Un.refl : Un fs ex H H h h := Un.kept fun _ _ q => q
theorem Un.laid (k : ∀ b u, h.get? b = some u → h'.get? b = some u) (hp : h.objs.size ≤ a) (hn : H a = none) : Un fs ex H (upd H a o) h h' where
  keep := fun b u q _ _ _ => k b u q
  slot := fun b u q _ _ _ => ⟨u.slots, k b u q⟩
  free := fun b u q n _ => by rw [upd_ne (Nat.ne_of_lt (Nat.lt_of_lt_of_le (Heap.lt_size q) hp))]; exact n
  there := fun b u q _ => ⟨u, k b u q⟩
  tups := fun b xs q => by rw [upd_ne (ne_of_none q hn)]; exact q
  frzs := fun b u xs q => by rw [upd_ne (ne_of_none q hn)]; exact q
  tbls := fun b ps q => ⟨#[], by rw [upd_ne (ne_of_none q hn), q]; simp⟩
theorem Un.write (mu : Mut (H x)) (he : e = x ∨ H e = some (.own x)) (k : ∀ b u, b ≠ e → h.get? b = some u → h'.get? b = some u) (heo : ∃ u, h'.get? e = some u) : Un fs ex H (upd H x o) h h' := by
  have hx : ∀ b, H b = none → b ≠ x := fun b n z => by subst z; rw [n] at mu; exact mu
  have hb : ∀ b, H b = none → b ≠ e := fun b n z => by
    subst z
    rcases he with r | r
    · exact hx b n r
    · rw [n] at r; cases r
  have hm : ∀ b u, H b = some u → ¬ Mut (some u) → b ≠ x := fun b u q nm z => by subst z; rw [q] at mu; exact nm mu
  refine ⟨fun b u q n _ _ => k b u (hb b n) q, fun b u q n _ _ => ⟨u.slots, k b u (hb b n) q⟩, fun b u q n _ => by rw [upd_ne (hx b n)]; exact n, fun b u q _ => ?_,
    fun b xs q => by rw [upd_ne (hm b _ q fun z => z)]; exact q, fun b u xs q => by rw [upd_ne (hm b _ q fun z => z)]; exact q, fun b ps q => ⟨#[], by rw [upd_ne (hm b _ q fun z => z), q]; simp⟩⟩
  by_cases hbe : b = e
  · subst hbe; exact heo
  · exact ⟨u, k b u hbe q⟩
end

/-! ### the heap without what is tracked -/
def trk (h : Heap) (H : Hp) : List Addr := (List.range h.objs.size).filter fun a => (H a).isSome
def hidT (h : Heap) (H : Hp) : Heap := PySem.W.hideAll h (trk h H)
theorem hidT_size (h : Heap) (H : Hp) : (hidT h H).objs.size = h.objs.size := PySem.W.hideAll_size _ _
theorem hidT_get {h : Heap} {H : Hp} {b : Addr} {o : Obj} (e : h.get? b = some o) (n : H b = none) : (hidT h H).get? b = some o :=
  PySem.W.hideAll_get _ e fun hm => by
    have q : (H b).isSome = true := (List.mem_filter.mp hm).2
    rw [n] at q; simp at q
theorem of_hidT {h : Heap} {H : Hp} {b : Addr} {o : Obj} (e : (hidT h H).get? b = some o) : h.get? b = some o ∧ H b = none := by
  have e' : h.get? b = some o := PySem.W.of_hideAll (trk h H) e
  refine ⟨e', ?_⟩
  cases q : H b with
  | none => rfl
  | some x =>
    have hm : b ∈ trk h H := List.mem_filter.mpr ⟨List.mem_range.mpr (Heap.lt_size e'), by simp [q]⟩
    have z : (hidT h H).get? b = none := PySem.W.hideAll_none (trk h H) hm
    rw [z] at e; cases e

/-! ### OpenK's ledger, filled with every new object but one -/
end L2

namespace L2
open PySem PySem.Spec PyProof.Rows

/-- the module's facts, over the base: the heap at the law's entry without what is tracked there -/
structure Mod (K : PySem.W.Frag) (mg : Str → Option Value) (base : Heap) : Prop where
  kin : K.In base
  glob : base.Ns mainGlobals mg
  blt : ∃ mb, base.Ns builtinsNs mb ∧ ∀ x : Str, x ≠ "__name__" → mb x = bootBuiltins x
  nolimit : base.NoLimit

/-- the context: a def's body (or a comprehension's block) running. base: fixed through the whole law; s₀, H₀: the entry; outer: the frames whose slots others may change (a def's callers); stack: all frames that run;
   ex: iterators that were made ahead of the entry and are walked here (a comprehension's); fn: the names whose cells were made at the entry (a def: all; a comprehension's block: its own); calm: not within an except suite; pn: pins that every state bears; xe: what is wanted of an exception that leaves the code -/
structure Cx where
  prog : Program
  w : World
  K : PySem.W.Frag
  mg : Str → Option Value
  base : Heap
  A : Around
  N : List Str
  s₀ : Shared
  H₀ : Hp
  env : Env
  outer : List Env
  stack : List Env
  ex : List Addr
  fn : Str → Bool
  calm : Bool
  pn : List (Addr × Obj)
  xe : Value → Shared → Prop
/-- the callers' frames -/
def frs (l : List Env) : List Addr := l.filterMap (·.frame)
abbrev Cx.fs (X : Cx) : List Addr := frs X.outer

def Vis (sc : Scope) (x : Str) : Prop := sc.names.lookup x = some .local ∨ sc.names.lookup x = some .cell ∨ sc.names.lookup x = some .free
def Loc (sc : Scope) (x : Str) : Prop := sc.names.lookup x = some .local ∨ sc.names.lookup x = some .cell
def Look (env : Env) (h : Heap) (m : Str → Option Value) (x : Str) (u : Value) : Prop :=
  (env.kindOf x = some .local ∧ m x = some u) ∨ ((env.kindOf x = some .cell ∨ env.kindOf x = some .free) ∧ ∃ c, env.cells.lookup x = some c ∧ h.IsCell c (some u))

structure Cx.Ok (X : Cx) : Prop where
  mod : Mod X.K X.mg X.base
  kind : X.env.scope.kind = .function
  glob : X.env.globals = mainGlobals
  blt : X.env.builtins = builtinsNs
  above : X.s₀.heap.objs.size ≤ X.env.locals
  inj : ∀ x y c, X.env.cells.lookup x = some c → X.env.cells.lookup y = some c → x = y
  has : ∀ x, (X.env.kindOf x = some .cell ∨ X.env.kindOf x = some .free) → ∃ c, X.env.cells.lookup x = some c
  cab : ∀ x c, X.fn x = true → X.env.cells.lookup x = some c → X.s₀.heap.objs.size ≤ c
  hd : X.calm = true → X.A.handled = none
  frames : X.A.frames = some X.stack
  stk : X.stack = X.outer ∨ (X.stack = X.env :: X.outer ∧ X.env.frame = some X.env.locals)
  exf : ∀ b ∈ X.ex, b ≠ X.env.locals ∧ ∀ x c, X.env.cells.lookup x = some c → c ≠ b
  bs : ∀ b o, X.base.get? b = some o → X.s₀.heap.get? b = some o ∧ X.H₀ b = none
  bsz : X.base.objs.size ≤ X.s₀.heap.objs.size
  noex : ∀ b o, X.base.get? b = some o → b ∉ X.ex
  exfs : ∀ b ∈ X.ex, b ∉ X.fs
  funs : X.s₀.heap.FunFrames X.base X.outer
  frf : ∀ b ∈ X.fs, X.H₀ b = none

structure Inv (X : Cx) (pins : List (Addr × Obj)) (σ : List (Option V)) (H : Hp) (s : Shared) : Prop where
  ok : X.Ok
  os : s.os = X.s₀.os
  bare : AllBare s.gens
  base : Un X.fs X.ex X.H₀ H X.s₀.heap s.heap
  loc : ∃ m, s.heap.Ns X.env.locals m ∧ ∀ (i : Nat) (x : Str) (v : V), X.N[i]? = some x → σ[i]? = some (some v) → Vis X.env.scope x → ∃ u, RelV v u ∧ Look X.env s.heap m x u
  cell : ∀ x c, X.env.cells.lookup x = some c → ∃ v, s.heap.IsCell c v
  free : H X.env.locals = none
  freeC : ∀ x c, X.env.cells.lookup x = some c → H c = none
  pin : ∀ p ∈ X.pn ++ pins, s.heap.get? p.1 = some p.2 ∧ H p.1 = none ∧ p.1 ≠ X.env.locals ∧ p.1 ∉ X.fs ∧ ∀ v, p.2.data ≠ .cell v
  hok : HOk X.prog X.w H s.heap
  len : σ.length = X.N.length

section
variable {X : Cx} {pins : List (Addr × Obj)} {σ : List (Option V)} {H H' : Hp} {s : Shared} {h' : Heap}

theorem Cx.Ok.nofr (ok : X.Ok) {b : Addr} {o : Obj} (e : X.base.get? b = some o) : b ∉ X.fs := fun hb => by
  have := (ok.funs.mem hb).1
  rw [e] at this; cases this
theorem Inv.bs (I : Inv X pins σ H s) : ∀ b o, X.base.get? b = some o → s.heap.get? b = some o ∧ H b = none := fun b o e =>
  ⟨I.base.keep b o (I.ok.bs b o e).1 (I.ok.bs b o e).2 (I.ok.nofr e) (I.ok.noex b o e), I.base.free b o (I.ok.bs b o e).1 (I.ok.bs b o e).2 (I.ok.noex b o e)⟩
theorem Inv.bk (I : Inv X pins σ H s) : ∀ b o, X.base.get? b = some o → s.heap.get? b = some o := fun b o e => (I.bs b o e).1
theorem Inv.mod (I : Inv X pins σ H s) : Mod X.K X.mg X.base := I.ok.mod
theorem Inv.kIn (I : Inv X pins σ H s) : X.K.In s.heap := I.ok.mod.kin.keeps I.bk
theorem Inv.lt (I : Inv X pins σ H s) : X.env.locals < s.heap.objs.size := let ⟨_, hn, _⟩ := I.loc; hn.lt
theorem Inv.sz (I : Inv X pins σ H s) : X.s₀.heap.objs.size ≤ s.heap.objs.size := Nat.le_trans I.ok.above (Nat.le_of_lt I.lt)
theorem Inv.nofs (I : Inv X pins σ H s) {a : Addr} (h : s.heap.objs.size ≤ a) : a ∉ X.fs := fun hb => by
  obtain ⟨_, o, ho, _⟩ := I.ok.funs.mem hb
  exact absurd (Nat.lt_of_lt_of_le (Heap.lt_size ho) (Nat.le_trans I.sz h)) (Nat.lt_irrefl _)
theorem Inv.cne (I : Inv X pins σ H s) : ∀ x c, X.env.cells.lookup x = some c → c ≠ X.env.locals := fun x c e z => by
  obtain ⟨v, o, ho, hd⟩ := I.cell x c e
  obtain ⟨m, ⟨o', es, ep, ho', hd', _⟩, _⟩ := I.loc
  rw [z, ho'] at ho; cases ho; rw [hd'] at hd; cases hd
theorem Inv.funs (I : Inv X pins σ H s) : s.heap.FunFrames X.base X.outer := by
  have all : ∀ (l : List Env), (∀ b ∈ frs l, b ∈ X.fs) → X.s₀.heap.FunFrames X.base l → s.heap.FunFrames X.base l := by
    intro l
    induction l with
    | nil => intro _ _; trivial
    | cons env r ih =>
      intro hs hl
      obtain ⟨hk, ⟨L, o, hf, hn, ho, hd⟩, hr⟩ := hl
      have hL : L ∈ X.fs := hs L (by unfold frs; rw [List.filterMap_cons, hf]; exact List.mem_cons_self)
      obtain ⟨sl, e⟩ := I.base.slot L o ho (I.ok.frf L hL) hL fun z => I.ok.exfs L z hL
      exact ⟨hk, ⟨L, _, hf, hn, e, hd⟩, ih (fun b hb => hs b (by unfold frs; rw [List.filterMap_cons, hf]; exact List.mem_cons_of_mem _ hb)) hr⟩
  exact all X.outer (fun _ hb => hb) I.ok.funs

/-- the frames that run, for a call -/
theorem Inv.stack (I : Inv X pins σ H s) : s.heap.FunFrames X.base X.stack := by
  rcases I.ok.stk with e | ⟨e, hf⟩
  · rw [e]; exact I.funs
  · rw [e]
    obtain ⟨m, hn, _⟩ := I.loc
    refine .cons (by rw [I.ok.kind]; decide) hf hn ?_ I.funs
    exact Heap.get?_none_of_le (Nat.le_trans I.ok.bsz I.ok.above)
theorem Inv.stkSub (I : Inv X pins σ H s) : ∀ b ∈ frs X.stack, b ∈ X.env.locals :: X.fs := fun b hb => by
  rcases I.ok.stk with e | ⟨e, hf⟩
  · rw [e] at hb; exact List.mem_cons_of_mem _ hb
  · rw [e] at hb
    unfold frs at hb
    rw [List.filterMap_cons, hf] at hb
    exact hb
theorem Inv.stkFree (I : Inv X pins σ H s) : ∀ b ∈ frs X.stack, H b = none := fun b hb => by
  rcases List.mem_cons.mp (I.stkSub b hb) with e | hb
  · rw [e]; exact I.free
  · obtain ⟨_, o, ho, _⟩ := I.ok.funs.mem hb
    exact I.base.free b o ho (I.ok.frf b hb) fun z => I.ok.exfs b z hb

/-- THE STEP: the untracked objects but the frame and the records at ch are kept (the callers' frames up to slots), the frame's map is kept, the new abstract heap is held -/
theorem Inv.step {g' : Array GenState} {t' : Nat} {d' : Drawn} {ch : List Addr} (I : Inv X pins σ H s)
    (hch : ∀ b ∈ ch, (b ∈ X.ex ∨ X.s₀.heap.objs.size ≤ b) ∧ b ≠ X.env.locals ∧ (∀ x c, X.env.cells.lookup x = some c → c ≠ b) ∧ ∀ p ∈ X.pn ++ pins, p.1 ≠ b)
    (keep : ∀ b o, b ≠ X.env.locals → b ∉ X.fs → b ∉ ch → s.heap.get? b = some o → H b = none → h'.get? b = some o)
    (slot : ∀ b o, b ≠ X.env.locals → b ∈ X.fs → b ∉ ch → s.heap.get? b = some o → H b = none → ∃ sl, h'.get? b = some { o with slots := sl }) (free : ∀ b o, b ∉ ch → s.heap.get? b = some o → H b = none → H' b = none)
    (there : ∀ b o, b ∉ ch → s.heap.get? b = some o → ∃ o', h'.get? b = some o')
    (tups : ∀ b xs, H b = some (.tup xs) → H' b = some (.tup xs)) (frzs : ∀ b o u, H b = some (.frz o u) → H' b = some (.frz o u)) (tbls : ∀ b ps, H b = some (.tbl ps) → ∃ more, H' b = some (.tbl (ps ++ more)))
    (ns : ∀ m, s.heap.Ns X.env.locals m → h'.Ns X.env.locals m) (hok : HOk X.prog X.w H' h') (hg : AllBare g') :
    Inv X pins σ H' { s with heap := h', gens := g', drawn := d', toks := t' } := by
  have neL : ∀ b o, X.s₀.heap.get? b = some o → b ≠ X.env.locals := fun b o e => Nat.ne_of_lt (Nat.lt_of_lt_of_le (Heap.lt_size e) I.ok.above)
  have neC : ∀ b o, X.s₀.heap.get? b = some o → b ∉ X.ex → b ∉ ch := fun b o e hx hb => by
    rcases (hch b hb).1 with z | z
    · exact hx z
    · exact absurd (Nat.lt_of_lt_of_le (Heap.lt_size e) z) (Nat.lt_irrefl _)
  have cellK : ∀ x c, X.env.cells.lookup x = some c → ∀ v, s.heap.IsCell c v → h'.IsCell c v := fun x c e v ⟨o, ho, hd⟩ => by
    have nch : c ∉ ch := fun z => (hch c z).2.2.1 x c e rfl
    by_cases hc : c ∈ X.fs
    · obtain ⟨sl, q⟩ := slot c o (I.cne x c e) hc nch ho (I.freeC x c e)
      exact ⟨_, q, hd⟩
    · exact ⟨o, keep c o (I.cne x c e) hc nch ho (I.freeC x c e), hd⟩
  refine ⟨I.ok, I.os, hg, ⟨fun b o e n hb hx => ?_, fun b o e n hb hx => ?_, fun b o e n hx => ?_, fun b o e hx => ?_, fun b xs e => tups b xs (I.base.tups b xs e), fun b o xs e => frzs b o xs (I.base.frzs b o xs e), fun b ps e => ?_⟩, ?_, fun x c e => ?_, ?_, fun x c e => ?_, fun p hp => ?_, hok, I.len⟩
  · exact keep b o (neL b o e) hb (neC b o e hx) (I.base.keep b o e n hb hx) (I.base.free b o e n hx)
  · obtain ⟨sl, e1⟩ := I.base.slot b o e n hb hx
    obtain ⟨sl', e2⟩ := slot b _ (neL b o e) hb (neC b o e hx) e1 (I.base.free b o e n hx)
    exact ⟨sl', e2⟩
  · obtain ⟨o', e1⟩ := I.base.there b o e hx
    exact free b o' (neC b o e hx) e1 (I.base.free b o e n hx)
  · obtain ⟨o', e1⟩ := I.base.there b o e hx
    exact there b o' (neC b o e hx) e1
  · obtain ⟨m1, e1⟩ := I.base.tbls b ps e
    obtain ⟨m2, e2⟩ := tbls b _ e1
    exact ⟨m1 ++ m2, by rw [e2, Array.append_assoc]⟩
  · obtain ⟨m, hn, hl⟩ := I.loc
    refine ⟨m, ns m hn, fun i x v e1 e2 e3 => ?_⟩
    obtain ⟨u, r, l⟩ := hl i x v e1 e2 e3
    refine ⟨u, r, ?_⟩
    rcases l with l | ⟨k, c, e, z⟩
    · exact .inl l
    · exact .inr ⟨k, c, e, cellK x c e _ z⟩
  · obtain ⟨v, z⟩ := I.cell x c e
    exact ⟨v, cellK x c e v z⟩
  · obtain ⟨m, ⟨o, _, _, ho, _⟩, _⟩ := I.loc
    exact free _ o (fun z => (hch _ z).2.1 rfl) ho I.free
  · obtain ⟨v, o, ho, hd⟩ := I.cell x c e
    exact free c o (fun z => (hch c z).2.2.1 x c e rfl) ho (I.freeC x c e)
  · obtain ⟨e, n, ne, nf, d⟩ := I.pin p hp
    have nch : p.1 ∉ ch := fun z => (hch p.1 z).2.2.2 p hp rfl
    exact ⟨keep p.1 p.2 ne nf nch e n, free p.1 p.2 nch e n, ne, nf, d⟩
/-- .. where the frame's own object is kept too -/
theorem Inv.un {t' : Nat} (I : Inv X pins σ H s) (u : Un X.fs [] H H' s.heap h') (hok : HOk X.prog X.w H' h') : Inv X pins σ H' { s with heap := h', toks := t' } := by
  obtain ⟨m, ⟨o, es, ep, ho, r⟩, _⟩ := id I.loc
  obtain ⟨sl, hL⟩ := u.any ho I.free (by simp)
  exact I.step (g' := s.gens) (d' := s.drawn) (ch := []) (fun _ z => nomatch z) (fun b o _ hb _ e n => u.keep b o e n hb (by simp)) (fun b o _ hb _ e n => u.slot b o e n hb (by simp)) (fun b o _ e n => u.free b o e n (by simp)) (fun b o _ e => u.there b o e (by simp)) u.tups u.frzs u.tbls (fun m' hm => by
    obtain ⟨o', es', ep', ho', r'⟩ := hm
    rw [ho] at ho'; cases ho'
    exact ⟨_, es', ep', hL, r'⟩) hok I.bare
/-- behind a call (or a comprehension's block): the slots of this frame may have changed too, the records at ch may have turned -/
theorem Inv.call {g' : Array GenState} {t' : Nat} {d' : Drawn} {ch : List Addr} (I : Inv X pins σ H s) (u : Un (frs X.stack) ch H H' s.heap h') (hok : HOk X.prog X.w H' h') (hg : AllBare g')
    (hch : ∀ b ∈ ch, (b ∈ X.ex ∨ X.s₀.heap.objs.size ≤ b) ∧ b ≠ X.env.locals ∧ (∀ x c, X.env.cells.lookup x = some c → c ≠ b) ∧ ∀ p ∈ X.pn ++ pins, p.1 ≠ b) :
    Inv X pins σ H' { s with heap := h', gens := g', drawn := d', toks := t' } := by
  obtain ⟨m, ⟨o, es, ep, ho, r⟩, _⟩ := id I.loc
  obtain ⟨sl, hL⟩ := u.any ho I.free fun z => (hch _ z).2.1 rfl
  exact I.step (ch := ch) hch (fun b o hL hb hc e n => u.keep b o e n (fun z => (List.mem_cons.mp (I.stkSub b z)).elim hL hb) hc) (fun b o _ _ hc e n => u.any e n hc) (fun b o hc e n => u.free b o e n hc) (fun b o hc e => u.there b o e hc) u.tups u.frzs u.tbls (fun m' hm => by
    obtain ⟨o', es', ep', ho', r'⟩ := hm
    rw [ho] at ho'; cases ho'
    exact ⟨_, es', ep', hL, r'⟩) hok hg
/-- an untracked record of ours (an iterator) has turned -/
theorem Inv.turned {t' : Nat} {it : Addr} (I : Inv X pins σ H s) (k : ∀ b o, b ≠ it → s.heap.get? b = some o → h'.get? b = some o) (hn : H it = none) (hL : it ≠ X.env.locals)
    (h1 : it ∈ X.ex ∨ X.s₀.heap.objs.size ≤ it) (h2 : ∀ x c, X.env.cells.lookup x = some c → c ≠ it) (h3 : ∀ p ∈ X.pn ++ pins, p.1 ≠ it) : Inv X pins σ H { s with heap := h', toks := t' } := by
  have nit : ∀ b u, H b = some u → b ≠ it := fun b u e z => by rw [z, hn] at e; cases e
  refine I.step (g' := s.gens) (d' := s.drawn) (ch := [it]) (fun b hb => ?_) (fun b o _ _ hc e _ => k b o (fun z => hc (by simp [z])) e) (fun b o _ _ hc e _ => ⟨o.slots, k b o (fun z => hc (by simp [z])) e⟩) (fun _ _ _ _ n => n)
    (fun b o hc e => ⟨o, k b o (fun z => hc (by simp [z])) e⟩) (fun _ _ e => e) (fun _ _ _ e => e) (fun b ps e => ⟨#[], by rw [e]; simp⟩) (fun m hm => ?_) (fun b u e => ?_) I.bare
  · have e : b = it := by simpa using hb
    subst e
    exact ⟨h1, hL, h2, h3⟩
  · obtain ⟨o, es, ep, ho, r⟩ := hm
    exact ⟨o, es, ep, k _ o (Ne.symm hL) ho, r⟩
  · refine (I.hok b u e).stay (fun c v hc q => k c v ?_ q) (fun _ q => q) fun _ _ q => q
    rcases hc with z | z
    · rw [z]; exact nit b u e
    · exact nit c _ z
theorem Inv.tok (I : Inv X pins σ H s) (t : Nat) : Inv X pins σ H { s with toks := t } := I.un (h' := s.heap) (t' := t) Un.refl I.hok
/-- all objects kept -/
theorem Inv.kept {t' : Nat} (I : Inv X pins σ H s) (k : ∀ b u, s.heap.get? b = some u → h'.get? b = some u) : Inv X pins σ H { s with heap := h', toks := t' } := I.un (Un.kept k) (I.hok.kept k)
/-- a new object laid and tracked -/
theorem Inv.laid {a : Addr} {o : HO} {t' : Nat} (I : Inv X pins σ H s) (k : ∀ b u, s.heap.get? b = some u → h'.get? b = some u) (hp : s.heap.objs.size ≤ a) (new : ObjOk X.prog X.w (upd H a o) h' a o) :
    Inv X pins σ (upd H a o) { s with heap := h', toks := t' } := I.un (Un.laid k hp (I.hok.fresh hp)) (I.hok.laid k hp new)
/-- an object written -/
theorem Inv.write {x e : Addr} {o : HO} {t' : Nat} (I : Inv X pins σ H s) (mu : Mut (H x)) (he : e = x ∨ H e = some (.own x)) (k : ∀ b u, b ≠ e → s.heap.get? b = some u → h'.get? b = some u) (heo : ∃ u, h'.get? e = some u)
    (new : ObjOk X.prog X.w (upd H x o) h' x o) : Inv X pins σ (upd H x o) { s with heap := h', toks := t' } := I.un (Un.write mu he k heo) (I.hok.write mu he k heo new)
theorem Inv.pins_of {pins' : List (Addr × Obj)} (I : Inv X pins σ H s) (h : ∀ p ∈ pins', s.heap.get? p.1 = some p.2 ∧ H p.1 = none ∧ p.1 ≠ X.env.locals ∧ p.1 ∉ X.fs ∧ ∀ v, p.2.data ≠ .cell v) : Inv X pins' σ H s :=
  ⟨I.ok, I.os, I.bare, I.base, I.loc, I.cell, I.free, I.freeC, fun p hp => (List.mem_append.mp hp).elim (fun z => I.pin p (List.mem_append_left _ z)) (h p), I.hok, I.len⟩

theorem nodup_ix {N : List Str} (hN : N.Nodup) {i j : Nat} {x : Str} (a : N[i]? = some x) (b : N[j]? = some x) : i = j := by
  obtain ⟨h1, e1⟩ := List.getElem?_eq_some_iff.mp a
  obtain ⟨h2, e2⟩ := List.getElem?_eq_some_iff.mp b
  exact (List.getElem_inj hN).mp (e1.trans e2.symm)

/-- a name is stored; what changed -/
theorem store_ok2 {M : Model} {A : Around} {E : Value → Shared → Prop} {i : Nat} {x : Str} {v : V} {u : Value} {Q : Unit → Shared → Prop} (I : Inv X pins σ H s) (hN : X.N.Nodup) (hi : X.N[i]? = some x) (hx : Loc X.env.scope x) (r : RelV v u)
    (h : ∀ s', Inv X pins (σ.set i (some v)) H s' → (∃ a, Heap.SameBut a s.heap s'.heap ∧ (a = X.env.locals ∨ X.env.cells.lookup x = some a)) → Q () s') (hf : X.fn x = true ∨ X.env.scope.names.lookup x = some .local := by first | exact .inl rfl | exact .inr rfl | assumption) : wpAny M A (storeName X.env x u) Q E s := by
  obtain ⟨m, hn, hl⟩ := id I.loc
  have hcls : (X.env.scope.kind == .class || (X.env.scope.kind == .module && X.env.locals != X.env.globals)) = false := by rw [I.ok.kind]; rfl
  have hiσ : i < σ.length := by rw [I.len]; exact (List.getElem?_eq_some_iff.mp hi).1
  have cne := I.cne
  have tracked : ∀ {a : Addr} {h' : Heap}, (∃ o, s.heap.get? a = some o ∧ H a = none) → Heap.SameBut a s.heap h' → HOk X.prog X.w H h' := fun {a h'} ha hs b ob e => by
    obtain ⟨_, _, hfree⟩ := ha
    refine (I.hok b ob e).stay (fun c w' hc q => (hs.2 c ?_).trans q) (fun _ q => q) fun _ _ q => q
    rintro rfl
    rcases hc with rfl | hc
    · rw [hfree] at e; cases e
    · rw [hfree] at hc; cases hc
  rcases hx with hk | hk
  · refine wpAny_storeName_local hk hn (fun h' hn' hs => ?_) hcls
    obtain ⟨oL, _, _, hoL, _⟩ := id hn
    refine h _ ⟨I.ok, I.os, I.bare, ⟨fun b o e n hb hx => ?_, fun b o e n hb hx => ?_, I.base.free, fun b o e hx => ?_, I.base.tups, I.base.frzs, I.base.tbls⟩, ⟨_, hn', fun j y v' e1 e2 e3 => ?_⟩, fun y c e => ?_, I.free, I.freeC, fun p hp => ?_, tracked ⟨oL, hoL, I.free⟩ hs, by simpa using I.len⟩ ⟨_, hs, .inl rfl⟩
    · exact (hs.2 b (Nat.ne_of_lt (Nat.lt_of_lt_of_le (Heap.lt_size e) I.ok.above))).trans (I.base.keep b o e n hb hx)
    · obtain ⟨sl, e1⟩ := I.base.slot b o e n hb hx
      exact ⟨sl, (hs.2 b (Nat.ne_of_lt (Nat.lt_of_lt_of_le (Heap.lt_size e) I.ok.above))).trans e1⟩
    · obtain ⟨o', e1⟩ := I.base.there b o e hx
      exact ⟨o', (hs.2 b (Nat.ne_of_lt (Nat.lt_of_lt_of_le (Heap.lt_size e) I.ok.above))).trans e1⟩
    · by_cases hj : j = i
      · subst hj
        rw [hi] at e1; cases e1
        rw [List.getElem?_set_self hiσ] at e2
        cases e2
        exact ⟨u, r, .inl ⟨hk, by simp⟩⟩
      · rw [List.getElem?_set_ne (Ne.symm hj)] at e2
        obtain ⟨u', r', q⟩ := hl j y v' e1 e2 e3
        refine ⟨u', r', ?_⟩
        rcases q with ⟨k, e⟩ | ⟨k, c, e, z⟩
        · refine .inl ⟨k, ?_⟩
          have : y ≠ x := fun e => hj (nodup_ix hN e1 (e ▸ hi))
          simp [this, e]
        · exact .inr ⟨k, c, e, z.sameBut hs (cne y c e)⟩
    · obtain ⟨w', z⟩ := I.cell y c e
      exact ⟨w', z.sameBut hs (cne y c e)⟩
    · obtain ⟨e, n, ne, nf, d⟩ := I.pin p hp
      exact ⟨(hs.2 p.1 ne).trans e, n, ne, nf, d⟩
  · have hfn : X.fn x = true := by
      rcases hf with z | z
      · exact z
      · rw [z] at hk; cases hk
    obtain ⟨c, hc⟩ := I.ok.has x (.inl hk)
    obtain ⟨w', z⟩ := I.cell x c hc
    refine wpAny_storeName_cell I.ok.kind hk hc z (fun h' hc' hs => ?_)
    obtain ⟨oc, hoc, hocd⟩ := id z
    refine h { s with heap := h' } ⟨I.ok, I.os, I.bare, ⟨fun b o e n hb hx => ?_, fun b o e n hb hx => ?_, I.base.free, fun b o e hx => ?_, I.base.tups, I.base.frzs, I.base.tbls⟩, ⟨m, hn.sameBut hs (Ne.symm (cne x c hc)), fun j y v' e1 e2 e3 => ?_⟩, fun y c' e => ?_, I.free, I.freeC, fun p hp => ?_, tracked ⟨oc, hoc, I.freeC x c hc⟩ hs, by simpa using I.len⟩ ⟨c, hs, .inr hc⟩
    · exact (hs.2 b (Nat.ne_of_lt (Nat.lt_of_lt_of_le (Heap.lt_size e) (I.ok.cab x c hfn hc)))).trans (I.base.keep b o e n hb hx)
    · obtain ⟨sl, e1⟩ := I.base.slot b o e n hb hx
      exact ⟨sl, (hs.2 b (Nat.ne_of_lt (Nat.lt_of_lt_of_le (Heap.lt_size e) (I.ok.cab x c hfn hc)))).trans e1⟩
    · obtain ⟨o', e1⟩ := I.base.there b o e hx
      exact ⟨o', (hs.2 b (Nat.ne_of_lt (Nat.lt_of_lt_of_le (Heap.lt_size e) (I.ok.cab x c hfn hc)))).trans e1⟩
    · by_cases hj : j = i
      · subst hj
        rw [hi] at e1; cases e1
        rw [List.getElem?_set_self hiσ] at e2
        cases e2
        exact ⟨u, r, .inr ⟨.inl hk, c, hc, hc'⟩⟩
      · rw [List.getElem?_set_ne (Ne.symm hj)] at e2
        obtain ⟨u', r', q⟩ := hl j y v' e1 e2 e3
        refine ⟨u', r', ?_⟩
        rcases q with q | ⟨k, c', e, z'⟩
        · exact .inl q
        · refine .inr ⟨k, c', e, z'.sameBut hs ?_⟩
          rintro rfl
          exact hj (nodup_ix hN e1 (I.ok.inj _ _ _ e hc ▸ hi))
    · by_cases hcc : c' = c
      · subst hcc; exact ⟨_, hc'⟩
      · obtain ⟨w2, z2⟩ := I.cell y c' e
        exact ⟨w2, z2.sameBut hs hcc⟩
    · obtain ⟨e, n, ne, nf, d⟩ := I.pin p hp
      refine ⟨(hs.2 p.1 ?_).trans e, n, ne, nf, d⟩
      intro q
      rw [q, hoc] at e
      have q' : oc = p.2 := Option.some.inj e
      exact d w' (by rw [← q']; exact hocd)
theorem store_ok {M : Model} {A : Around} {E : Value → Shared → Prop} {i : Nat} {x : Str} {v : V} {u : Value} {Q : Unit → Shared → Prop} (I : Inv X pins σ H s) (hN : X.N.Nodup) (hi : X.N[i]? = some x) (hx : Loc X.env.scope x) (r : RelV v u)
    (h : ∀ s', Inv X pins (σ.set i (some v)) H s' → Q () s') (hf : X.fn x = true ∨ X.env.scope.names.lookup x = some .local := by first | exact .inl rfl | exact .inr rfl | assumption) : wpAny M A (storeName X.env x u) Q E s :=
  store_ok2 I hN hi hx r (fun s' I' _ => h s' I') hf
/-- behind a call or a block, the state as it is -/
theorem Inv.call' {s' : Shared} {ch : List Addr} (I : Inv X pins σ H s) (ho : s'.os = s.os) (u : Un (frs X.stack) ch H H' s.heap s'.heap) (hok : HOk X.prog X.w H' s'.heap) (hg : AllBare s'.gens)
    (hch : ∀ b ∈ ch, (b ∈ X.ex ∨ X.s₀.heap.objs.size ≤ b) ∧ b ≠ X.env.locals ∧ (∀ x c, X.env.cells.lookup x = some c → c ≠ b) ∧ ∀ p ∈ X.pn ++ pins, p.1 ≠ b) : Inv X pins σ H' s' := by
  obtain ⟨h', g', d', t', o'⟩ := s'
  have e : o' = s.os := ho
  subst e
  exact I.call (g' := g') (t' := t') (d' := d') u hok hg hch
end

/-! ### the judgements -/
/-- an exception: its class, its own dict's address (where it has one), the abstract heap behind it -/
abbrev XK := Value → Option Addr → Hp → Prop
abbrev St := List (Option V)
abbrev VK := V → Hp → Prop
/-- an expression's reading; a test's; an argument list's -/
abbrev TE := St → Hp → VK → Prop
abbrev TT := St → Hp → (Bool → Hp → Prop) → Prop
abbrev TA := St → Hp → (List V → Hp → Prop) → Prop
/-- what is wanted behind a statement -/
structure Ends where
  nx : St → Hp → Prop
  rt : VK
  bk : St → Hp → Prop := fun _ _ => False
  ct : St → Hp → Prop := fun _ _ => False
abbrev TS := Ends → St → Hp → Prop

def EP (X : Cx) (pins : List (Addr × Obj)) (σ : St) (Q : VK) (u : Value) (s' : Shared) : Prop := ∃ v H', Inv X pins σ H' s' ∧ RelV v u ∧ Q v H'
def TP (X : Cx) (pins : List (Addr × Obj)) (σ : St) (Q : Bool → Hp → Prop) (b : Bool) (s' : Shared) : Prop := ∃ H', Inv X pins σ H' s' ∧ Q b H'
def AP (X : Cx) (pins : List (Addr × Obj)) (σ : St) (Q : List V → Hp → Prop) (us : List Value) (s' : Shared) : Prop := ∃ vs H', Inv X pins σ H' s' ∧ Vals vs us ∧ Q vs H'
def SP (X : Cx) (pins : List (Addr × Obj)) (D : Ends) (f : Flow) (s' : Shared) : Prop :=
  match f with
  | .next => ∃ σ' H', Inv X pins σ' H' s' ∧ D.nx σ' H'
  | .brk => ∃ σ' H', Inv X pins σ' H' s' ∧ D.bk σ' H'
  | .cont => ∃ σ' H', Inv X pins σ' H' s' ∧ D.ct σ' H'
  | .ret u => ∃ v σ' H', Inv X pins σ' H' s' ∧ RelV v u ∧ D.rt v H'

def PE (X : Cx) (e : Expr) (t : TE) : Prop :=
  ∀ (pins : List (Addr × Obj)) (s : Shared) (σ : St) (H : Hp) (Q : VK), Inv X pins σ H s → t σ H Q → wpAny (model X.prog X.w) X.A (eval e X.env) (EP X pins σ Q) X.xe s
def PT (X : Cx) (e : Expr) (t : TT) : Prop :=
  ∀ (pins : List (Addr × Obj)) (s : Shared) (σ : St) (H : Hp) (Q : Bool → Hp → Prop), Inv X pins σ H s → t σ H Q → wpAny (model X.prog X.w) X.A (isTrue e X.env (eval e X.env)) (TP X pins σ Q) X.xe s
/-- a test whatever its 'whole' is (and, or) -/
def PW (X : Cx) (e : Expr) (t : TT) : Prop :=
  ∀ (whole : Sem Value) (pins : List (Addr × Obj)) (s : Shared) (σ : St) (H : Hp) (Q : Bool → Hp → Prop), Inv X pins σ H s → t σ H Q → wpAny (model X.prog X.w) X.A (isTrue e X.env whole) (TP X pins σ Q) X.xe s
theorem PW.pt {X : Cx} {e : Expr} {t : TT} (h : PW X e t) : PT X e t := h _
/-- an argument list (no star), from the left -/
def PA (X : Cx) (es : List Expr) (t : TA) : Prop :=
  ∀ (pos : Pos) (pins : List (Addr × Obj)) (s : Shared) (σ : St) (H : Hp) (Q : List V → Hp → Prop), Inv X pins σ H s → t σ H Q → wpAny (model X.prog X.w) X.A (spliced (backTo pos (starEach es X.env))) (AP X pins σ Q) X.xe s
def PS (X : Cx) (st : Stmt) (t : TS) : Prop :=
  ∀ (pins : List (Addr × Obj)) (s : Shared) (σ : St) (H : Hp) (D : Ends), Inv X pins σ H s → t D σ H → wpAny (model X.prog X.w) X.A (exec st X.env) (SP X pins D) X.xe s
def PSs (X : Cx) (st : List Stmt) (t : TS) : Prop :=
  ∀ (pins : List (Addr × Obj)) (s : Shared) (σ : St) (H : Hp) (D : Ends), Inv X pins σ H s → t D σ H → wpAny (model X.prog X.w) X.A (execs st X.env) (SP X pins D) X.xe s
/-- weaken the end -/
theorem thn {α : Type} {t : Sem α} {Q Q' : α → Shared → Prop} {M : Model} {A : Around} {E : Value → Shared → Prop} {s : Shared} (h : wpAny M A t Q E s) (hQ : ∀ a s, Q a s → Q' a s) : wpAny M A t Q' E s := wpAny_mono h hQ fun _ _ x => x
end L2

namespace L2
open PySem PySem.Spec PyProof.Rows
section
variable {X : Cx}

/-! ### names and constants -/
def tVar (i : Nat) : TE := fun σ H Q => ∃ v, σ[i]? = some (some v) ∧ Q v H
def tC (v : V) : TE := fun _ H Q => Q v H
theorem pe_var {i : Nat} {x : Str} {pos : Pos} (hN : X.N[i]? = some x) (hv : Vis X.env.scope x) (hd : (x == ("__debug__" : Str)) = false := by decide) (hcd : (x == ("__classdict__" : Str)) = false := by decide) : PE X (.Name x pos) (tVar i) := by
  intro pins s σ H Q I h
  obtain ⟨v, e, h⟩ := h
  obtain ⟨m, hn, hl⟩ := I.loc
  obtain ⟨u, r, l⟩ := hl i x v hN e hv
  have fin : EP X pins σ Q u s := ⟨v, H, I, r, h⟩
  rcases l with ⟨hk, hm⟩ | ⟨hk, c, hc, hcell⟩
  · exact wpAny_Name (wpAny_loadName_local I.ok.kind hk hn hm fin) hd
  · rcases hk with hk | hk
    · exact wpAny_Name (wpAny_loadName_cell I.ok.kind hk hc hcell fin) hd
    · exact wpAny_Name (wpAny_loadName_free I.ok.kind hk hc hcell fin hcd) hd
theorem pe_int {i j pos} : PE X (.Constant (.int i) j pos) (tC (.int i)) := fun _ _ _ H _ I h => wpAny_Constant_int ⟨.int i, H, I.tok _, ⟨_, rfl⟩, h⟩
theorem pe_bl {b j pos} : PE X (.Constant (.bool b) j pos) (tC (.bl b)) := fun _ _ _ H _ I h => Constant_bool ⟨.bl b, H, I, rfl, h⟩
theorem pe_str {x j pos} : PE X (.Constant (.str x) j pos) (tC (.str x)) := fun _ _ _ H _ I h => Calls.Constant_str ⟨.str x, H, I.tok _, ⟨_, rfl⟩, h⟩

/-- a global name of the def -/
def Gl (X : Cx) (x : Str) : Prop := X.env.kindOf x = some .globalImplicit
theorem ld_glob {E : Value → Shared → Prop} {pins : List (Addr × Obj)} {s : Shared} {σ : St} {H : Hp} {x : Str} {u : Value} {pos : Pos} {Q : Value → Shared → Prop} (I : Inv X pins σ H s) (hg : Gl X x) (hm : X.mg x = some u) (h : Q u s)
    (hd : (x == ("__debug__" : Str)) = false := by decide) : wpAny (model X.prog X.w) X.A (eval (.Name x pos) X.env) Q E s :=
  Calls.Name_function_global I.ok.kind hg (Calls.loadGlobal_global (by rw [I.ok.glob]; exact I.mod.glob.keeps I.bk) hm h) hd
theorem ld_blt {E : Value → Shared → Prop} {pins : List (Addr × Obj)} {s : Shared} {σ : St} {H : Hp} {x : Str} {u : Value} {pos : Pos} {Q : Value → Shared → Prop} (I : Inv X pins σ H s) (hg : Gl X x) (hm : X.mg x = none) (hv : bootBuiltins x = some u) (h : Q u s)
    (hn : x ≠ "__name__" := by decide) (hd : (x == ("__debug__" : Str)) = false := by decide) : wpAny (model X.prog X.w) X.A (eval (.Name x pos) X.env) Q E s := by
  obtain ⟨mb, h1, h2⟩ := I.mod.blt
  exact Calls.Name_function_global I.ok.kind hg (Calls.loadGlobal_builtin (by rw [I.ok.glob]; exact I.mod.glob.keeps I.bk) hm (by rw [I.ok.blt]; exact h1.keeps I.bk) ((h2 x hn).trans hv) h) hd
/-- a module's constant, a class, a function, as a value -/
theorem pe_glob {x : Str} {v : V} {u : Value} {pos : Pos} (hg : Gl X x) (hm : X.mg x = some u) (r : RelV v u) (hd : (x == ("__debug__" : Str)) = false := by decide) : PE X (.Name x pos) (tC v) :=
  fun _ _ _ H _ I h => ld_glob I hg hm ⟨v, H, I, r, h⟩ hd
theorem pe_bltn {x : Str} {v : V} {u : Value} {pos : Pos} (hg : Gl X x) (hm : X.mg x = none) (hv : bootBuiltins x = some u) (r : RelV v u) (hn : x ≠ "__name__" := by decide) (hd : (x == ("__debug__" : Str)) = false := by decide) : PE X (.Name x pos) (tC v) :=
  fun _ _ _ H _ I h => ld_blt I hg hm hv ⟨v, H, I, r, h⟩ hn hd

/-! ### arithmetic -/
variable {a b : Expr} {ta tb : TE} {pos : Pos}
/-! ### comparisons -/
def PC (X : Cx) (op : CmpOp) (a b : Expr) (t : TE) : Prop :=
  ∀ (pins : List (Addr × Obj)) (s : Shared) (σ : St) (H : Hp) (Q : VK), Inv X pins σ H s → t σ H Q →
    wpAny (model X.prog X.w) X.A (eval a X.env) (fun v s₁ => wpAny (model X.prog X.w) X.A (eval b X.env) (fun u s₂ => wpAny (model X.prog X.w) X.A (compareOp op v u) (EP X pins σ Q) X.xe s₂) X.xe s₁) X.xe s
/-- a comparison as a value, as a test -/
def tB (t : TE) : TT := fun σ H Q => t σ H fun x H1 => ∃ c, x = .bl c ∧ Q c H1
theorem pt_cmp {op : CmpOp} {t : TE} (h : PC X op a b t) (h1 : behindInMarks op b = false := by first | exact nobehind _ (by decide) (by decide) | rfl) : PT X (.Compare a [op] [b] pos) (tB t) := by
  intro pins s σ H Q I hw
  refine wpAny_isTrue_Compare1 (thn (h pins s σ H _ I hw) fun v s1 h1 => thn h1 fun u s2 h2 => thn h2 fun c s3 ⟨x, H1, I1, r1, q1⟩ => ?_) h1
  obtain ⟨d, rfl, q⟩ := q1
  cases r1
  exact wpAny_truthy_bool ⟨H1, I1, q⟩
/-- an expression whose value is a bool, as a test -/
theorem pt_val {e : Expr} {t : TE} (h : PE X e t) (he : ∀ whole, isTrue e X.env whole = (do let v ← whole; standAt e.pos; holding [v] (truthy v)) := by intro _; rfl) : PT X e (tB t) := by
  intro pins s σ H Q I hw
  refine isTrue_plain (thn (h pins s σ H _ I hw) fun v s1 ⟨x, H1, I1, r1, q1⟩ => ?_) (he _)
  obtain ⟨d, rfl, q⟩ := q1
  cases r1
  exact wpAny_truthy_bool ⟨H1, I1, q⟩

/-! ### and, or, not -/
variable {tA tB' : TT} {rest : List Expr}
def tOr (t u : TT) : TT := fun σ H Q => t σ H fun c H1 => if c = true then Q true H1 else u σ H1 Q
def tNot (t : TT) : TT := fun σ H Q => t σ H fun c H1 => Q (!c) H1
theorem pw_or1 (ha : PT X a tA) : PW X (.BoolOp .Or [a] pos) tA := by
  intro wh pins s σ H Q I h
  refine isTrue_or (thn (ha pins s σ H Q I h) fun c s1 e => ?_)
  cases c with
  | false => exact isTrue_or_nil e
  | true => exact e
theorem pw_or (ha : PT X a tA) (hb : PW X (.BoolOp .Or (b :: rest) pos) tB') : PW X (.BoolOp .Or (a :: b :: rest) pos) (tOr tA tB') := by
  intro wh pins s σ H Q I h
  refine isTrue_or (thn (ha pins s σ H _ I h) fun c s1 ⟨H1, I1, q1⟩ => ?_)
  cases c with
  | true => exact ⟨H1, I1, q1⟩
  | false => exact hb wh pins s1 σ H1 Q I1 q1
theorem pt_not (ha : PT X a tA) : PT X (.UnaryOp .Not a pos) (tNot tA) := by
  intro pins s σ H Q I h
  exact isTrue_not (ha pins s σ H (fun c H1 => Q (!c) H1) I h)
/-- .. as values (bools) -/
def tAndV (ta tb : TE) : TE := fun σ H Q => ta σ H fun x H1 => ∃ c, x = .bl c ∧ if c = true then tb σ H1 Q else Q (.bl false) H1
theorem pe_one {op} {t : TE} (h : PE X a t) : PE X (.BoolOp op [a] pos) t := fun pins s σ H Q I hw => BoolOp_one (h pins s σ H Q I hw)
theorem pe_and (ha : PE X a ta) (hb : PE X (.BoolOp .And (b :: rest) pos) tb) : PE X (.BoolOp .And (a :: b :: rest) pos) (tAndV ta tb) := by
  intro pins s σ H Q I h
  refine BoolOp_and (thn (ha pins s σ H _ I h) fun v s1 ⟨x, H1, I1, r1, q1⟩ => ?_)
  obtain ⟨c, rfl, q1⟩ := q1
  cases r1
  refine wpAny_truthy_bool ?_
  cases c with
  | true => exact hb pins s1 σ H1 Q I1 q1
  | false => exact ⟨.bl false, H1, I1, rfl, q1⟩
end
end L2

namespace L2
open PySem PySem.Spec PyProof.Rows

/-! ### a list, a tuple that is read: tracked, frozen, or an object of the module -/
def SqL (K : PySem.W.Frag) (H : Hp) (a : Addr) (xs : List V) : Prop :=
  Rd H a (.lst xs) ∨
    ∃ (o : Obj) (its : Array Value) (n : Nat), K.lookup a = some o ∧ o.cls = .type "list" ∧ o.dict = none ∧ o.data = .seq its n ∧ its.size ≤ sizeLine ∧ Vals xs its.toList
def SqT (K : PySem.W.Frag) (H : Hp) (a : Addr) (xs : List V) : Prop :=
  Rd H a (.tup xs) ∨
    ∃ (o : Obj) (its : Array Value) (n : Nat), K.lookup a = some o ∧ o.cls = .type "tuple" ∧ o.data = .seq its n ∧ its.size ≤ sizeLine ∧ Vals xs its.toList
def absV : Value → Option V
  | .none => some .non
  | .bool b => some (.bl b)
  | .int i _ => some (.int i)
  | .str x _ => some (.str x)
  | .bytes b _ => some (.byt b)
  | .float b _ => some (.flt b)
  | .ref a => some (.ref a)
  | .type n => some (.ty n)
  | _ => none
theorem RelV.abs {x : V} {u : Value} (r : RelV x u) : absV u = some x := by
  cases x with
  | non => cases r; rfl
  | bl _ => cases r; rfl
  | int _ => obtain ⟨t, rfl⟩ := r; rfl
  | str _ => obtain ⟨t, rfl⟩ := r; rfl
  | byt _ => obtain ⟨t, rfl⟩ := r; rfl
  | flt _ => obtain ⟨t, rfl⟩ := r; rfl
  | ref _ => cases r; rfl
  | ty _ => cases r; rfl
theorem RelV.inj {x y : V} {u : Value} (r : RelV x u) (q : RelV y u) : x = y := Option.some.inj (r.abs.symm.trans q.abs)
theorem Vals.inj : ∀ {xs ys : List V} {us : List Value}, Vals xs us → Vals ys us → xs = ys
  | _, _, _, .nil, .nil => rfl
  | _, _, _, .cons r t, .cons r' t' => by rw [r.inj r', Vals.inj t t']
section
variable {X : Cx} {pins : List (Addr × Obj)} {σ : St} {H : Hp} {s : Shared} {a : Addr} {xs ys : List V}
theorem SqL.of {K : PySem.W.Frag} (h : H a = some (.lst xs)) : SqL K H a xs := .inl (.inl h)
theorem SqT.of {K : PySem.W.Frag} (h : H a = some (.tup xs)) : SqT K H a xs := .inl (.inl h)
theorem Inv.list (I : Inv X pins σ H s) (h : SqL X.K H a xs) : ∃ its : List Value, Vals xs its ∧ PlainL s.heap a its.toArray ∧ xs.length ≤ sizeLine := by
  rcases h with h | ⟨o, its, n, hk, hc, hd, hs, hz, r⟩
  · obtain ⟨z, its, n, r, e⟩ := h.ok I.hok
    exact ⟨its, r, ⟨_, n, e, rfl, rfl, rfl⟩, z⟩
  · refine ⟨its.toList, r, ⟨o, n, I.kIn a o hk, hc, hd, by simpa using hs⟩, ?_⟩
    have e := r.length
    simp only [Array.length_toList] at e
    omega
theorem Inv.tuple (I : Inv X pins σ H s) (h : SqT X.K H a xs) : ∃ its : List Value, Vals xs its ∧ IsTup s.heap a its.toArray ∧ xs.length ≤ sizeLine := by
  rcases h with h | ⟨o, its, n, hk, hc, hs, hz, r⟩
  · obtain ⟨z, its, r, p⟩ := h.ok I.hok
    exact ⟨its, r, p, z⟩
  · refine ⟨its.toList, r, ⟨o, I.kIn a o hk, hc, n, by simpa using hs⟩, ?_⟩
    have e := r.length
    simp only [Array.length_toList] at e
    omega
theorem Inv.list_inj (I : Inv X pins σ H s) (h : SqL X.K H a xs) (h' : SqL X.K H a ys) : xs = ys := by
  obtain ⟨its, r, ⟨o, n, e, _, _, d⟩, _⟩ := I.list h
  obtain ⟨its', r', ⟨o', n', e', _, _, d'⟩, _⟩ := I.list h'
  rw [e] at e'; cases e'
  rw [d] at d'
  injection d' with d1 _
  have : its = its' := by simpa using congrArg Array.toList d1
  subst this
  exact r.inj r'
end

/-! ### another wish about exceptions -/
abbrev Cx.wish (X : Cx) (E : Value → Shared → Prop) : Cx := { X with xe := E }
/-- no exception leaves -/
abbrev Cx.nox (X : Cx) : Cx := X.wish fun _ _ => False
theorem Cx.Ok.wish {X : Cx} (ok : X.Ok) (E : Value → Shared → Prop) : (X.wish E).Ok :=
  ⟨ok.mod, ok.kind, ok.glob, ok.blt, ok.above, ok.inj, ok.has, ok.cab, ok.hd, ok.frames, ok.stk, ok.exf, ok.bs, ok.bsz, ok.noex, ok.exfs, ok.funs, ok.frf⟩
theorem Cx.Ok.unwish {X : Cx} {E : Value → Shared → Prop} (ok : (X.wish E).Ok) : X.Ok :=
  ⟨ok.mod, ok.kind, ok.glob, ok.blt, ok.above, ok.inj, ok.has, ok.cab, ok.hd, ok.frames, ok.stk, ok.exf, ok.bs, ok.bsz, ok.noex, ok.exfs, ok.funs, ok.frf⟩
section
variable {X : Cx} {pins : List (Addr × Obj)} {σ : St} {H : Hp} {s : Shared} {E : Value → Shared → Prop}
theorem Inv.wish (I : Inv X pins σ H s) (E : Value → Shared → Prop) : Inv (X.wish E) pins σ H s := ⟨I.ok.wish E, I.os, I.bare, I.base, I.loc, I.cell, I.free, I.freeC, I.pin, I.hok, I.len⟩
theorem Inv.unwish (I : Inv (X.wish E) pins σ H s) : Inv X pins σ H s := ⟨I.ok.unwish, I.os, I.bare, I.base, I.loc, I.cell, I.free, I.freeC, I.pin, I.hok, I.len⟩
theorem SP.unwish {D : Ends} {f : Flow} {s' : Shared} (h : SP (X.wish E) pins D f s') : SP X pins D f s' := by
  cases f with
  | next => obtain ⟨σ', H', I, q⟩ := h; exact ⟨σ', H', I.unwish, q⟩
  | brk => obtain ⟨σ', H', I, q⟩ := h; exact ⟨σ', H', I.unwish, q⟩
  | cont => obtain ⟨σ', H', I, q⟩ := h; exact ⟨σ', H', I.unwish, q⟩
  | ret u => obtain ⟨v, σ', H', I, r, q⟩ := h; exact ⟨v, σ', H', I.unwish, r, q⟩
theorem PSs.nox {st : List Stmt} {t : TS} (h : PSs X.nox st t) : PSs X st t := fun pins s σ H D I hw =>
  wpAny_mono (h pins s σ H D (I.wish _) hw) (fun _ _ q => q.unwish) fun _ _ z => False.elim z
end

/-! ### blocks and small statements -/
section
variable {X : Cx} {st : Stmt} {rest : List Stmt} {t u : TS} {e : Expr} {te : TE} {pos : Pos}
def tNext : TS := fun D σ H => D.nx σ H
def tSeq (t u : TS) : TS := fun D σ H => t { D with nx := u D } σ H
theorem pss_nil : PSs X [] tNext := fun _ _ σ H _ I h => wpAny_execs_nil ⟨σ, H, I, h⟩
theorem pss_cons (h1 : PS X st t) (h2 : PSs X rest u) : PSs X (st :: rest) (tSeq t u) := by
  intro pins s σ H D I h
  refine wpAny_execs_cons (thn (h1 pins s σ H { D with nx := u D } I h) fun f s1 q => ?_)
  cases f with
  | next =>
    obtain ⟨σ', H', I', q⟩ := q
    exact h2 pins s1 σ' H' D I' q
  | ret v => exact q
  | brk => exact q
  | cont => exact q
theorem pss_one (h1 : PS X st t) : PSs X [st] t := by
  intro pins s σ H D I h
  refine wpAny_execs_cons (thn (h1 pins s σ H D I h) fun f s1 q => ?_)
  cases f with
  | next => exact wpAny_execs_nil q
  | ret v => exact q
  | brk => exact q
  | cont => exact q
/-- in a def's body nothing is shown -/
theorem Inv.quiet {pins : List (Addr × Obj)} {σ : St} {H : Hp} {s : Shared} (I : Inv X pins σ H s) : interactive X.env = false := by simp [interactive, I.ok.kind]
/-- an expression whose value is dropped -/
def tDrop (te : TE) : TS := fun D σ H => te σ H fun _ H1 => D.nx σ H1
theorem ps_expr (he : PE X e te) (hs : swapsWith e none pos.line X.env = pure false := by rfl) : PS X (.Expr e pos) (tDrop te) := by
  intro pins s σ H D I h
  exact wpAny_Expr_any (thn (he pins s σ H _ I h) fun v s1 ⟨x, H1, I1, r1, q1⟩ => ⟨σ, H1, I1, q1⟩) I.quiet hs
def tRet (te : TE) : TS := fun D σ H => te σ H D.rt
theorem ps_ret (he : PE X e te) : PS X (.Return (some e) pos) (tRet te) := by
  intro pins s σ H D I h
  exact wpAny_Return_some (thn (he pins s σ H _ I h) fun v s1 ⟨x, H1, I1, r1, q1⟩ => ⟨x, σ, H1, I1, r1, q1⟩)
def tIfS (c : TT) (t u : TS) : TS := fun D σ H => c σ H fun b H1 => if b = true then t D σ H1 else u D σ H1
theorem ps_if {c : Expr} {a b : List Stmt} {tc : TT} (hc : PT X c tc) (ha : PSs X a t) (hb : PSs X b u) : PS X (.If c a b pos) (tIfS tc t u) := by
  intro pins s σ H D I h
  refine wpAny_If (thn (hc pins s σ H _ I h) fun d s1 ⟨H1, I1, q1⟩ => ?_)
  cases d with
  | true => exact ha pins s1 σ H1 D I1 q1
  | false => exact hb pins s1 σ H1 D I1 q1
/-- code that the proof never comes to -/
def tNever : TS := fun _ _ _ => False
theorem ps_never : PS X st tNever := fun _ _ _ _ _ _ h => h.elim
theorem pss_never {sts : List Stmt} : PSs X sts tNever := fun _ _ _ _ _ _ h => h.elim
end

/-! ### targets -/
abbrev TG := V → St → Hp → (St → Hp → Prop) → Prop
def PG (X : Cx) (target : Expr) (t : TG) : Prop :=
  ∀ (pins : List (Addr × Obj)) (s : Shared) (σ : St) (H : Hp) (v : V) (u : Value) (Q : St → Hp → Prop), Inv X pins σ H s → RelV v u → t v σ H Q →
    wpAny (model X.prog X.w) X.A (assign target X.env u) (fun _ s' => ∃ σ' H', Inv X pins σ' H' s' ∧ Q σ' H') X.xe s
/-- o[i] = v, by values -/
abbrev TSet := V → V → V → Hp → (Hp → Prop) → Prop
def PSet (X : Cx) (t : TSet) : Prop :=
  ∀ (pins : List (Addr × Obj)) (s : Shared) (σ : St) (H : Hp) (o i v : V) (ov iv u : Value) (Q : Hp → Prop), Inv X pins σ H s → RelV o ov → RelV i iv → RelV v u → t o i v H Q →
    wpAny (model X.prog X.w) X.A (setItem ov iv u) (fun _ s' => ∃ H', Inv X pins σ H' s' ∧ Q H') X.xe s
section
variable {X : Cx} {pos : Pos}
def gName (i : Nat) : TG := fun v σ H Q => Q (σ.set i (some v)) H
theorem pg_name {i : Nat} {x : Str} (hN : X.N.Nodup) (hi : X.N[i]? = some x) (hx : Loc X.env.scope x) (hf : X.fn x = true ∨ X.env.scope.names.lookup x = some .local := by first | exact .inl rfl | exact .inr rfl | assumption) : PG X (.Name x pos) (gName i) := by
  intro pins s σ H v u Q I r h
  exact wpAny_assign_Name (store_ok I hN hi hx r (fun s' I' => ⟨_, H, I', h⟩) hf)
/-- o[i] = .. -/
def gSub (to ti : TE) (t : TSet) : TG := fun v σ H Q => to σ H fun o H1 => ti σ H1 fun i H2 => t o i v H2 fun H3 => Q σ H3
theorem pg_sub {o i : Expr} {to ti : TE} {t : TSet} (ho : PE X o to) (hi : PE X i ti) (hs : PSet X t)
    (ha : ∀ v, assign (.Subscript o i pos) X.env v = (do
      let ov ← holding [v] (eval o X.env)
      let iv ← holding [v, ov] (eval i X.env)
      standAt pos
      holding [v, ov, iv] (setItem ov iv v)
      release [v, ov, iv] []) := by intro _; rfl) : PG X (.Subscript o i pos) (gSub to ti t) := by
  intro pins s σ H v u Q I r h
  rw [ha]
  refine wpAny_bind (wpAny_holding (thn (ho pins s σ H _ I h) fun ov s1 ⟨x, H1, I1, r1, q1⟩ => ?_))
  refine wpAny_bind (wpAny_holding (thn (hi pins s1 σ H1 _ I1 q1) fun iv s2 ⟨y, H2, I2, r2, q2⟩ => ?_))
  refine wpAny_bind (wpAny_standAt (wpAny_bind (wpAny_holding (thn (hs pins s2 σ H2 x y v ov iv u _ I2 r1 r2 r q2) fun _ s3 ⟨H3, I3, q3⟩ => ?_))))
  exact wpAny_release ⟨σ, H3, I3, q3⟩
/-- target = value -/
def tAsg (te : TE) (g : TG) : TS := fun D σ H => te σ H fun x H1 => g x σ H1 D.nx
theorem ps_asg {tg e : Expr} {te : TE} {g : TG} (he : PE X e te) (hg : PG X tg g) (hs : swapsWithSole [tg] e pos.line X.env = pure false := by rfl) (hw : swappedStores [tg] e X.env = pure none := by rfl)
    (h1 : (assignEach [tg] X.env).map (·.2) = [assign tg X.env] := by rfl) : PS X (.Assign [tg] e pos) (tAsg te g) := by
  intro pins s σ H D I h
  refine wpAny_Assign_stores (thn (he pins s σ H _ I h) fun v s1 ⟨x, H1, I1, r1, q1⟩ => ?_) hs hw
  rw [h1]
  exact thn (hg pins s1 σ H1 x v _ I1 r1 q1) fun _ s2 q => q
/-- name = value -/
theorem ps_set {i : Nat} {x : Str} {e : Expr} {te : TE} {pos' : Pos} (hN : X.N.Nodup) (hi : X.N[i]? = some x) (hx : Loc X.env.scope x) (he : PE X e te) (hs : swapsWith e (some (.Name x pos')) pos.line X.env = pure false := by rfl) (hf : X.fn x = true ∨ X.env.scope.names.lookup x = some .local := by first | exact .inl rfl | exact .inr rfl | assumption) :
    PS X (.Assign [.Name x pos'] e pos) (tAsg te (gName i)) := by
  intro pins s σ H D I h
  refine wpAny_Assign_Name (thn (he pins s σ H _ I h) fun v s1 ⟨y, H1, I1, r1, q1⟩ => ?_) hs
  exact store_ok I1 hN hi hx r1 (fun s2 I2 => ⟨_, H1, I2, q1⟩) hf
end

/-! ### while -/
section
variable {X : Cx} {pos : Pos}
end

/-! ### what a loop or a comprehension walks -/
/-- at turn i: it yields x (the heap may grow), or it stops -/
structure It where
  go : Nat → Hp → Prop
  yld : Nat → Hp → V → Hp → Prop
  stop : Nat → Hp → Prop
/-- the iterator's own objects may turn: they are not the frame's, not pinned, younger than the entry (or a comprehension's own) -/
def FpOk (X : Cx) (pins : List (Addr × Obj)) (H : Hp) (b : Addr) : Prop :=
  H b = none ∧ b ≠ X.env.locals ∧ b ∉ X.fs ∧ (b ∈ X.ex ∨ X.s₀.heap.objs.size ≤ b) ∧ (∀ x c, X.env.cells.lookup x = some c → c ≠ b) ∧ ∀ p ∈ X.pn ++ pins, p.1 ≠ b
theorem Inv.fpOk {X : Cx} {pins : List (Addr × Obj)} {σ : St} {H H' : Hp} {s : Shared} {b : Addr} (I : Inv X pins σ H s) (hb : s.heap.objs.size ≤ b) (hn : H' b = none) : FpOk X pins H' b := by
  refine ⟨hn, Nat.ne_of_gt (Nat.lt_of_lt_of_le I.lt hb), I.nofs hb, .inr (Nat.le_trans I.sz hb), fun x c e z => ?_, fun p hp z => ?_⟩
  · obtain ⟨v, q⟩ := I.cell x c e
    exact absurd (Nat.lt_of_lt_of_le q.lt (by rw [z]; exact hb)) (Nat.lt_irrefl _)
  · exact absurd (Nat.lt_of_lt_of_le (Heap.lt_size (I.pin p hp).1) (by rw [z]; exact hb)) (Nat.lt_irrefl _)
structure Turn (P : Program) (w : World) (K : PySem.W.Frag) (tg : Expr) (J : It) (fp : List Addr) (it : Addr) (tn : Nat → Heap → Prop) : Prop where
  mem : it ∈ fp
  obj : ∀ i h, tn i h → ∀ b ∈ fp, ∃ o, h.get? b = some o ∧ ∀ v, o.data ≠ .cell v
  keep : ∀ i h h', tn i h → (∀ b ∈ fp, ∀ o, h.get? b = some o → h'.get? b = some o) → tn i h'
  item : ∀ (X : Cx), X.prog = P → X.w = w → X.K = K → X.calm = true → ∀ (i : Nat) (pins : List (Addr × Obj)) (s : Shared) (σ : St) (H : Hp) (E : Value → Shared → Prop), Inv X pins σ H s → (∀ b ∈ fp, FpOk X pins H b) → tn i s.heap → J.go i H →
    wpAny (model P w) X.A (pyNext (.ref it)) (fun r s1 => ∃ u, r = some u ∧
      wpAny (model P w) X.A (letOwnedTupleGo tg (.ref it) u) (fun _ s2 => ∃ x H', Inv X pins σ H' s2 ∧ RelV x u ∧ J.yld i H x H' ∧ tn (i + 1) s2.heap ∧ ∀ b ∈ fp, H' b = none) E s1) E s
  done : ∀ (X : Cx), X.prog = P → X.w = w → X.K = K → X.calm = true → ∀ (i : Nat) (pins : List (Addr × Obj)) (s : Shared) (σ : St) (H : Hp) (E : Value → Shared → Prop), Inv X pins σ H s → (∀ b ∈ fp, FpOk X pins H b) → tn i s.heap → J.stop i H →
    wpAny (model P w) X.A (pyNext (.ref it)) (fun r s1 => r = none ∧ Inv X pins σ H s1) E s
  self : ∀ (A : Around) (i : Nat) (s : Shared) (Q : Value → Shared → Prop) (E : Value → Shared → Prop), tn i s.heap → Q (.ref it) s → wpAny (model P w) A (pyIter (.ref it)) Q E s
abbrev TI := St → Hp → (It → Hp → Prop) → Prop
/-- an iterator has come -/
def PIE (X : Cx) (pins : List (Addr × Obj)) (σ : St) (tg : Expr) (R : It → Hp → Prop) (itv : Value) (s2 : Shared) : Prop :=
  ∃ (it : Addr) (fp : List Addr) (tn : Nat → Heap → Prop) (J : It) (H' : Hp), itv = .ref it ∧ Inv X pins σ H' s2 ∧ Turn X.prog X.w X.K tg J fp it tn ∧ tn 0 s2.heap ∧ (∀ b ∈ fp, FpOk X pins H' b) ∧ R J H'
def PI (X : Cx) (tg iter : Expr) (wi : TI) : Prop :=
  ∀ (pins : List (Addr × Obj)) (s : Shared) (σ : St) (H : Hp) (R : It → Hp → Prop), Inv X pins σ H s → wi σ H R →
    wpAny (model X.prog X.w) X.A (eval iter X.env) (fun v s1 => wpAny (model X.prog X.w) X.A (pyIter v) (PIE X pins σ tg R) X.xe s1) X.xe s

/-- the step ahead of the store is nothing for an iterator that keeps no tuple -/
theorem go_of {M : Model} {A : Around} {E : Value → Shared → Prop} {s : Shared} {tg : Expr} {it : Addr} {u : Value} {o : Obj} {n : String} {vs : Array Value} {Q : Unit → Shared → Prop} (ho : s.heap.get? it = some o) (hc : o.cls = .type n) (hd : o.data = .fields vs)
    (hn : ["enumerate", "zip", "dict_itemiterator", "dict_reverseitemiterator", "odict_iterator", "itertools.zip_longest", "itertools.pairwise"].contains n = false) (hQ : Q () s) : wpAny M A (letOwnedTupleGo tg (.ref it) u) Q E s := by
  unfold letOwnedTupleGo
  cases tg <;> first
    | exact wpAny_pure hQ
    | (cases u <;> first
        | exact wpAny_pure hQ
        | (refine wpAny_bind (wpAny_load ho ?_)
           rw [hc, hd]
           show wpAny M A (if (["enumerate", "zip", "dict_itemiterator", "dict_reverseitemiterator", "odict_iterator", "itertools.zip_longest", "itertools.pairwise"].contains n && vs[0]? == some (rawInt _)) = true then _ else _) Q E s
           rw [if_neg (by intro h; rw [hn, Bool.false_and] at h; cases h)]
           exact wpAny_pure hQ))

/-- the list at a, as it stands at each turn (a loop may append to it) -/
def Itl (K : PySem.W.Frag) (a : Addr) : It :=
  ⟨fun i H => ∃ xs x, SqL K H a xs ∧ xs[i]? = some x, fun i H x H' => H' = H ∧ ∀ xs, SqL K H a xs → xs[i]? = some x, fun i H => ∃ xs, SqL K H a xs ∧ xs.length ≤ i⟩
/-- lo, lo + 1, .. (n of them) -/
def Itr (lo : Int) (n : Nat) : It := ⟨fun i _ => i < n, fun i H x H' => H' = H ∧ x = .int (lo + i), fun i _ => n ≤ i⟩
theorem turn_list {P : Program} {w : World} {K : PySem.W.Frag} {tg : Expr} (a it : Addr) : Turn P w K tg (Itl K a) [it] it (fun i h => h.IsListIter it a i) where
  mem := by simp
  obj := fun i h st b hb => by
    have e : b = it := by simpa using hb
    subst e
    obtain ⟨o, e, c, d⟩ := st
    exact ⟨o, e, fun v z => by rw [d] at z; cases z⟩
  keep := fun i h h' st k => st.at fun o e => k it (by simp) o e
  item := by
    intro X hP hw hK hc i pins s σ H E I hf st hg
    subst hP hw hK
    obtain ⟨xs, x, hq, hx⟩ := hg
    obtain ⟨its, rv, p, hz⟩ := I.list hq
    obtain ⟨u, hu, ru⟩ := rv.get hx
    obtain ⟨f0, f1, f2, f3, f4, f5⟩ := hf it (by simp)
    refine wpAny_pyNext_list_item st p.isList (x := u) (by simpa using hu) fun h' st' sb => ?_
    have I1 : Inv X pins σ H { s with heap := h' } := I.turned (t' := s.toks) (fun b o hb e => (sb.2 b hb).trans e) f0 f1 f3 f4 f5
    obtain ⟨o, e, c, d⟩ := id st'
    exact ⟨u, rfl, go_of (s := { s with heap := h' }) e c d (by decide) ⟨x, H, I1, ru, ⟨rfl, fun ys hy => by rw [I.list_inj hy hq]; exact hx⟩, st', fun b hb => (hf b hb).1⟩⟩
  done := by
    intro X hP hw hK hc i pins s σ H E I hf st hg
    subst hP hw hK
    obtain ⟨xs, hq, hx⟩ := hg
    obtain ⟨its, rv, p, hz⟩ := I.list hq
    obtain ⟨f0, f1, f2, f3, f4, f5⟩ := hf it (by simp)
    have hl := rv.length
    exact wpAny_pyNext_list_end (I.ok.hd hc) st p.isList (by simp; omega) fun h' eb => ⟨rfl, I.turned (t' := s.toks) (fun b o hb e => eb b o hb e) f0 f1 f3 f4 f5⟩
  self := fun _ _ _ _ _ st h => wpAny_pyIter_listiter st h
theorem turn_range {P : Program} {w : World} {K : PySem.W.Frag} {tg : Expr} (it : Addr) (lo : Int) (n : Nat) : Turn P w K tg (Itr lo n) [it] it (fun i h => IsRangeIter h it (lo + (i : Nat) * 1) ((n : Int) - (i : Nat)) 1) where
  mem := by simp
  obj := fun i h st b hb => by
    have e : b = it := by simpa using hb
    subst e
    exact ⟨_, st, fun v z => by
      have z' : Data.fields _ = Data.cell v := z
      cases z'⟩
  keep := fun i h h' st k => k it (by simp) _ st
  item := by
    intro X hP hw hK hc i pins s σ H E I hf st hg
    subst hP hw hK
    obtain ⟨f0, f1, f2, f3, f4, f5⟩ := hf it (by simp)
    have W := Walks.range (prog := X.prog) (w := X.w) (I.ok.hd hc) it lo 1 n
    refine W.item i s _ _ hg st fun v h' tk hv st' kk => ?_
    obtain ⟨t, rfl⟩ := hv
    have I1 : Inv X pins σ H { s with heap := h', toks := tk } := I.turned (fun b o hb e => kk b o (by simpa using hb) e) f0 f1 f3 f4 f5
    refine ⟨_, rfl, go_of (s := { s with heap := h', toks := tk }) (n := "range_iterator") st' rfl rfl (by decide) ⟨.int (lo + i), H, I1, ⟨t, ?_⟩, ⟨rfl, rfl⟩, st', fun b hb => (hf b hb).1⟩⟩
    rw [Int.mul_one]
  done := by
    intro X hP hw hK hc i pins s σ H E I hf st hg
    subst hP hw hK
    obtain ⟨f0, f1, f2, f3, f4, f5⟩ := hf it (by simp)
    exact wpAny_pyNext_range_end (I.ok.hd hc) st (by have : n ≤ i := hg; omega) fun h' eb => ⟨rfl, I.turned (t' := s.toks) (fun b o hb e => eb b o hb e) f0 f1 f3 f4 f5⟩
  self := fun _ _ _ _ _ st h => wpAny_pyIter_rangeiter st h
end L2

namespace L2
open PySem PySem.Spec PyProof.Rows
section
variable {X : Cx} {tg : Expr}
def iList (K : PySem.W.Frag) (tl : TE) : TI := fun σ H R => tl σ H fun x H1 => ∃ a, x = .ref a ∧ (∃ xs, SqL K H1 a xs) ∧ R (Itl K a) H1
theorem pi_list {l : Expr} {tl : TE} (hl : PE X l tl) : PI X tg l (iList X.K tl) := by
  intro pins s σ H R I h
  refine thn (hl pins s σ H _ I h) fun v s1 ⟨x, H1, I1, r1, q1⟩ => ?_
  obtain ⟨a, e, ⟨xs, hq⟩, q⟩ := q1
  subst e
  cases r1
  obtain ⟨its, rv, p, hz⟩ := I1.list hq
  refine wpAny_pyIter_list p.isList ?_
  refine ⟨s1.heap.objs.size, [s1.heap.objs.size], _, _, H1, rfl, I1.kept (t' := s1.toks) fun b o e => Heap.get?_push_of_some _ e, turn_list a _, ⟨_, Heap.get?_push_size _ rfl, rfl, rfl⟩, fun b hb => ?_, q⟩
  have e : b = s1.heap.objs.size := by simpa using hb
  subst e
  exact I1.fpOk (Nat.le_refl _) (I1.hok.fresh (Nat.le_refl _))
/-- a range object just made, walked -/
theorem range_it {pins : List (Addr × Obj)} {σ : St} {H : Hp} {s : Shared} {R : It → Hp → Prop} {E : Value → Shared → Prop} {lo hi : Int} {t u v : Tok} {tk : Nat} (I : Inv X pins σ H s) (h1 : -(2 ^ 62) ≤ lo) (h2 : lo < 2 ^ 62) (h3 : -(2 ^ 62) ≤ hi) (h4 : hi < 2 ^ 62)
    (q : R (Itr lo (hi - lo).toNat) H) : wpAny (model X.prog X.w) X.A (pyIter (.ref s.heap.objs.size)) (PIE X pins σ tg R) E { s with heap := s.heap.push { cls := .type "range", data := .fields #[.int lo t, .int hi u, .int 1 v] }, toks := tk } := by
  refine wpAny_pyIter_range (IsRange.new ..) (small_one h1 h2 h3 h4) ?_
  have I1 : Inv X pins σ H { s with heap := s.heap.push { cls := .type "range", data := .fields #[.int lo t, .int hi u, .int 1 v] }, toks := tk } := I.kept fun b o e => Heap.get?_push_of_some _ e
  refine ⟨(s.heap.push { cls := .type "range", data := .fields #[.int lo t, .int hi u, .int 1 v] }).objs.size, [(s.heap.push { cls := .type "range", data := .fields #[.int lo t, .int hi u, .int 1 v] }).objs.size], _, _, H, rfl,
    I1.kept (t' := tk) fun b o e => Heap.get?_push_of_some _ e, turn_range _ lo (hi - lo).toNat, ?_, fun b hb => ?_, q⟩
  · have e1 : lo + ((0 : Nat) : Int) * 1 = lo := by simp
    have e2 : (((hi - lo).toNat : Nat) : Int) - ((0 : Nat) : Int) = Builtin.Range.rangeSize lo hi 1 := by rw [rangeSize_one]; split <;> omega
    show IsRangeIter _ _ (lo + ((0 : Nat) : Int) * 1) ((((hi - lo).toNat : Nat) : Int) - ((0 : Nat) : Int)) 1
    rw [e1, e2]
    exact Heap.get?_push_size _ rfl
  · have e : b = (s.heap.push { cls := .type "range", data := .fields #[.int lo t, .int hi u, .int 1 v] }).objs.size := by simpa using hb
    subst e
    exact I1.fpOk (Nat.le_refl _) (I1.hok.fresh (Nat.le_refl _))
def iRng1 (ta : TA) : TI := fun σ H R => ta σ H fun vs H1 => ∃ j : Int, vs = [.int j] ∧ -(2 ^ 62) ≤ j ∧ j < 2 ^ 62 ∧ R (Itr 0 j.toNat) H1
theorem pi_range1 {a : Expr} {ta : TA} {p pos : Pos} (hg : Gl X "range") (hm : X.mg "range" = none) (ha : PA X [a] ta) (hs : starEach [a] X.env = [(false, eval a X.env)] := by rfl) : PI X tg (.Call (.Name "range" p) [a] [] pos) (iRng1 ta) := by
  intro pins s σ H R I h
  refine Call_ (ld_blt I hg hm boot_range (PyProof.Rows.callWith_type1 (thn (ha pos pins s σ H _ I h) fun us s1 ⟨vs, H1, I1, r1, q1⟩ => ?_) hs rfl))
  obtain ⟨j, e, q1, q2, q⟩ := q1
  subst e
  cases r1 with
  | cons r rr =>
    cases rr
    obtain ⟨t, rfl⟩ := r
    exact call_range_1 (range_it I1 (by omega) (by omega) q1 q2 (by simpa using q))
/-! ### for -/
/-- W: the invariant by the turn and a measure; N: what the body is to reach -/
def tFor (wi : TI) (g : TG) (tb : TS) : TS := fun D σ H => wi σ H fun J H1 => ∃ W : Nat → Nat → St → Hp → Prop, (∃ m, W 0 m σ H1) ∧ ∀ i m σ H, W i m σ H →
  (J.stop i H ∧ D.nx σ H) ∨ (J.go i H ∧ ∃ N : St → Hp → Prop, (∀ σ' H', N σ' H' → ∃ m', m' < m ∧ W (i + 1) m' σ' H') ∧ ∀ x H', J.yld i H x H' → g x σ H' fun σ2 H2 => tb { D with nx := N, ct := N, bk := D.nx } σ2 H2)
/-- the records at fp as they stand -/
def pinsAt (fp : List Addr) (h : Heap) : List (Addr × Obj) := fp.filterMap fun b => (h.get? b).map fun o => (b, o)
theorem mem_pinsAt {fp : List Addr} {h : Heap} {b : Addr} {o : Obj} (hb : b ∈ fp) (e : h.get? b = some o) : (b, o) ∈ pinsAt fp h := List.mem_filterMap.mpr ⟨b, hb, by rw [e]; rfl⟩
theorem of_pinsAt {fp : List Addr} {h : Heap} {p : Addr × Obj} (hp : p ∈ pinsAt fp h) : p.1 ∈ fp ∧ h.get? p.1 = some p.2 := by
  obtain ⟨b, hb, e⟩ := List.mem_filterMap.mp hp
  cases q : h.get? b with
  | none => rw [q] at e; cases e
  | some o =>
    rw [q] at e
    have e' : (b, o) = p := Option.some.inj e
    subst e'
    exact ⟨hb, q⟩
theorem Inv.pinned {pins : List (Addr × Obj)} {σ : St} {H : Hp} {s : Shared} {fp : List Addr} (I : Inv X pins σ H s) (hf : ∀ b ∈ fp, FpOk X pins H b) (ho : ∀ b ∈ fp, ∃ o, s.heap.get? b = some o ∧ ∀ v, o.data ≠ .cell v) : Inv X (pins ++ pinsAt fp s.heap) σ H s :=
  I.pins_of fun p hp => (List.mem_append.mp hp).elim (fun z => I.pin p (List.mem_append_right _ z)) fun z => by
    obtain ⟨hb, e⟩ := of_pinsAt z
    obtain ⟨f0, f1, f2, _⟩ := hf p.1 hb
    obtain ⟨o, e', d⟩ := ho p.1 hb
    rw [e] at e'; cases e'
    exact ⟨e, f0, f1, f2, d⟩
theorem Inv.unpinned {pins pl : List (Addr × Obj)} {σ : St} {H : Hp} {s : Shared} (I : Inv X (pins ++ pl) σ H s) : Inv X pins σ H s := I.pins_of fun p hp => I.pin p (List.mem_append_right _ (List.mem_append_left _ hp))
theorem ps_for {iter : Expr} {body : List Stmt} {wi : TI} {g : TG} {tb : TS} {pos : Pos} (hp : PassesOwn (model X.prog X.w) X.A X.env X.xe) (hc : X.calm = true) (hi : PI X tg iter wi) (hg : PG X tg g) (hb : PSs X body tb)
    (hs : ∀ x, foldedSetIterable iter X.env x = pure x := by intro _; rfl) : PS X (.For tg iter body [] pos) (tFor wi g tb) := by
  intro pins s σ H D I h
  refine wpAny_For (thn (hi pins s σ H _ I h) fun v s1 h1 => thn h1 fun itv s2 h2 => ?_) hs
  obtain ⟨it, fp, tn, J, H2, e, I2, T, st2, f2, W, ⟨m0, w0⟩, turn⟩ := h2
  subst e
  -- what stays true of the iterator's objects through the loop
  have stat : ∀ {H' : Hp}, (∀ b ∈ fp, H' b = none) → ∀ b ∈ fp, FpOk X pins H' b := fun hn b hb => ⟨hn b hb, (f2 b hb).2⟩
  refine codeAny_forLoop_any (fun n s' => ∃ i σ' H', Inv X pins σ' H' s' ∧ tn i s'.heap ∧ (∀ b ∈ fp, H' b = none) ∧ W i n σ' H') ?_ m0 ⟨0, σ, H2, I2, st2, fun b hb => (f2 b hb).1, w0⟩
  rintro n s3 ⟨i, σ3, H3, I3, st3, fr3, w3⟩
  rcases turn i n σ3 H3 w3 with ⟨stop, qn⟩ | ⟨go, N, hN, step⟩
  · refine wpAny_passesOwn hp (thn (T.done X rfl rfl rfl hc i pins s3 σ3 H3 X.xe I3 (stat fr3) st3 stop) fun r s4 ⟨hr, I4⟩ => ?_)
    subst hr
    exact wpAny_execs_nil ⟨σ3, H3, I4, qn⟩
  · refine wpAny_passesOwn hp (thn (T.item X rfl rfl rfl hc i pins s3 σ3 H3 X.xe I3 (stat fr3) st3 go) fun r s4 ⟨u, hr, h4⟩ => ?_)
    subst hr
    refine wpAny_passesOwn hp (thn h4 fun _ s5 ⟨x, H5, I5, r5, y5, st5, fr5⟩ => ?_)
    have I5' := I5.pinned (stat fr5) (T.obj _ _ st5)
    refine wpAny_passesOwn hp (thn (hg _ s5 σ3 H5 x u _ I5' r5 (step x H5 y5)) fun _ s6 ⟨σ6, H6, I6, q6⟩ => ?_)
    refine wpAny_passesOwn hp (thn (hb _ s6 σ6 H6 _ I6 q6) fun f s7 q7 => ?_)
    have again : ∀ {σ7 : St} {H7 : Hp}, Inv X (pins ++ pinsAt fp s5.heap) σ7 H7 s7 → N σ7 H7 → ∃ m, m < n ∧ ∃ i σ' H', Inv X pins σ' H' s7 ∧ tn i s7.heap ∧ (∀ b ∈ fp, H' b = none) ∧ W i m σ' H' := fun {σ7 H7} I7 n7 => by
      obtain ⟨m', hm, w7⟩ := hN σ7 H7 n7
      refine ⟨m', hm, i + 1, σ7, H7, I7.unpinned, T.keep _ _ _ st5 fun b hb o e => (I7.pin (b, o) (List.mem_append_right _ (List.mem_append_right _ (mem_pinsAt hb e)))).1, fun b hb => ?_, w7⟩
      obtain ⟨o, e, d⟩ := T.obj _ _ st5 b hb
      exact (I7.pin (b, o) (List.mem_append_right _ (List.mem_append_right _ (mem_pinsAt hb e)))).2.1
    cases f with
    | next => obtain ⟨σ7, H7, I7, n7⟩ := q7; exact again I7 n7
    | cont => obtain ⟨σ7, H7, I7, n7⟩ := q7; exact again I7 n7
    | brk => obtain ⟨σ7, H7, I7, q7⟩ := q7; exact ⟨σ7, H7, I7.unpinned, q7⟩
    | ret v => obtain ⟨x7, σ7, H7, I7, r7, q7⟩ := q7; exact ⟨x7, σ7, H7, I7.unpinned, r7, q7⟩
end

/-! ### the forms one uses -/
/-- over a list that the body leaves as it is -/
theorem for_list {K : PySem.W.Frag} {a : Addr} {xs : List V} {g : TG} {tb : TS} {D : Ends} {σ : St} {H : Hp} (Pv : Nat → St → Hp → Prop) (h0 : Pv 0 σ H) (hl : ∀ i σ H, i ≤ xs.length → Pv i σ H → SqL K H a xs)
    (hs : ∀ i x σ H, xs[i]? = some x → Pv i σ H → g x σ H fun σ2 H2 => tb { D with nx := Pv (i + 1), ct := Pv (i + 1), bk := D.nx } σ2 H2) (hd : ∀ σ H, Pv xs.length σ H → D.nx σ H) :
    ∃ W : Nat → Nat → St → Hp → Prop, (∃ m, W 0 m σ H) ∧ ∀ i m σ H, W i m σ H →
      ((Itl K a).stop i H ∧ D.nx σ H) ∨ ((Itl K a).go i H ∧ ∃ N : St → Hp → Prop, (∀ σ' H', N σ' H' → ∃ m', m' < m ∧ W (i + 1) m' σ' H') ∧ ∀ x H', (Itl K a).yld i H x H' → g x σ H' fun σ2 H2 => tb { D with nx := N, ct := N, bk := D.nx } σ2 H2) := by
  refine ⟨fun i m σ H => m = xs.length - i ∧ i ≤ xs.length ∧ Pv i σ H, ⟨xs.length, by simp, Nat.zero_le _, h0⟩, ?_⟩
  rintro i m σ H ⟨rfl, hi, p⟩
  have q := hl i σ H hi p
  by_cases hlt : i < xs.length
  · refine .inr ⟨⟨xs, xs[i], q, by simp [hlt]⟩, Pv (i + 1), fun σ' H' p' => ⟨xs.length - (i + 1), by omega, rfl, hlt, p'⟩, fun x H' y => ?_⟩
    obtain ⟨e, y⟩ := y
    subst e
    exact hs i x σ _ (y xs q) p
  · have e : i = xs.length := by omega
    subst e
    exact .inl ⟨⟨xs, q, Nat.le_refl _⟩, hd σ H p⟩
theorem for_range {lo : Int} {n : Nat} {g : TG} {tb : TS} {D : Ends} {σ : St} {H : Hp} (Pv : Nat → St → Hp → Prop) (h0 : Pv 0 σ H)
    (hs : ∀ i σ H, i < n → Pv i σ H → g (.int (lo + i)) σ H fun σ2 H2 => tb { D with nx := Pv (i + 1), ct := Pv (i + 1), bk := D.nx } σ2 H2) (hd : ∀ σ H, Pv n σ H → D.nx σ H) :
    ∃ W : Nat → Nat → St → Hp → Prop, (∃ m, W 0 m σ H) ∧ ∀ i m σ H, W i m σ H →
      ((Itr lo n).stop i H ∧ D.nx σ H) ∨ ((Itr lo n).go i H ∧ ∃ N : St → Hp → Prop, (∀ σ' H', N σ' H' → ∃ m', m' < m ∧ W (i + 1) m' σ' H') ∧ ∀ x H', (Itr lo n).yld i H x H' → g x σ H' fun σ2 H2 => tb { D with nx := N, ct := N, bk := D.nx } σ2 H2) := by
  refine ⟨fun i m σ H => m = n - i ∧ i ≤ n ∧ Pv i σ H, ⟨n, by simp, Nat.zero_le _, h0⟩, ?_⟩
  rintro i m σ H ⟨rfl, hi, p⟩
  by_cases hlt : i < n
  · refine .inr ⟨hlt, Pv (i + 1), fun σ' H' p' => ⟨n - (i + 1), by omega, rfl, hlt, p'⟩, fun x H' y => ?_⟩
    obtain ⟨e, y⟩ := y
    subst e y
    exact hs i σ _ hlt p
  · have e : i = n := by omega
    subst e
    exact .inl ⟨Nat.le_refl _, hd σ H p⟩
end L2

namespace L2
open PySem PySem.Spec PyProof.Rows

abbrev R2 := V → V → Hp → VK → Prop
/-- a two-place operation on values: f is binaryOp op, inplaceOp op or compareOp op -/
def OpR (X : Cx) (f : Value → Value → Sem Value) (r : R2) : Prop :=
  ∀ (pins : List (Addr × Obj)) (s : Shared) (σ : St) (H : Hp) (x y : V) (v u : Value) (Q : VK), Inv X pins σ H s → RelV x v → RelV y u → r x y H Q →
    wpAny (model X.prog X.w) X.A (f v u) (EP X pins σ Q) X.xe s
/-- a call of a value that is known (a builtin, a type) with values -/
def CallR (X : Cx) (f : Value) (r : List V → Hp → VK → Prop) : Prop :=
  ∀ (pins : List (Addr × Obj)) (s : Shared) (σ : St) (H : Hp) (xs : List V) (us : List Value) (Q : VK), Inv X pins σ H s → Vals xs us → r xs H Q →
    wpAny (model X.prog X.w) X.A (call f us) (EP X pins σ Q) X.xe s
def tOp (r : R2) (ta tb : TE) : TE := fun σ H Q => ta σ H fun x H1 => tb σ H1 fun y H2 => r x y H2 Q
/-- ints in, under C, and a value out -/
def rI (C : Int → Int → Prop) (g : Int → Int → V) : R2 := fun x y H Q => ∃ i j, x = .int i ∧ y = .int j ∧ C i j ∧ Q (g i j) H
def rI0 (g : Int → Int → V) : R2 := fun x y H Q => ∃ i j, x = .int i ∧ y = .int j ∧ Q (g i j) H
section
variable {X : Cx} {a b c : Expr} {ta tb tc : TE} {pos : Pos}

theorem binT (ha : PE X a ta) (hb : PE X b tb) {pins : List (Addr × Obj)} {s : Shared} {σ : St} {H : Hp} {R : V → V → Hp → Prop} (I : Inv X pins σ H s)
    (h : ta σ H fun x H1 => tb σ H1 fun y H2 => R x y H2) {Q : Value → Shared → Prop} {f : Value → Value → Sem Value}
    (hf : ∀ v u s2 x y H2, Inv X pins σ H2 s2 → RelV x v → RelV y u → R x y H2 → wpAny (model X.prog X.w) X.A (f v u) Q X.xe s2) :
    wpAny (model X.prog X.w) X.A (eval a X.env) (fun v s₁ => wpAny (model X.prog X.w) X.A (eval b X.env) (fun u s₂ => wpAny (model X.prog X.w) X.A (f v u) Q X.xe s₂) X.xe s₁) X.xe s := by
  refine thn (ha pins s σ H _ I h) fun v s1 ⟨x, H1, I1, r1, q1⟩ => ?_
  refine thn (hb pins s1 σ H1 _ I1 q1) fun u s2 ⟨y, H2, I2, r2, q2⟩ => ?_
  exact hf v u s2 x y H2 I2 r1 r2 q2

theorem pe_op {op : Operator} {r : R2} (ho : OpR X (binaryOp op) r) (ha : PE X a ta) (hb : PE X b tb) : PE X (.BinOp a op b pos) (tOp r ta tb) := by
  intro pins s σ H Q I h
  exact wpAny_BinOp (binT ha hb I h fun v u s2 x y H2 I2 rx ry q => ho pins s2 σ H2 x y v u Q I2 rx ry q)
/-! ### ints -/
theorem opI {f : Value → Value → Sem Value} {C : Int → Int → Prop} {g : Int → Int → Int}
    (rule : ∀ (i j : Int) (t u : Tok) (s : Shared) (Q : Value → Shared → Prop) (E : Value → Shared → Prop), C i j → Q (.int (g i j) s.toks) { s with toks := s.toks + 1 } → wpAny (model X.prog X.w) X.A (f (.int i t) (.int j u)) Q E s) :
    OpR X f (rI C fun i j => .int (g i j)) := by
  intro pins s σ H x y v u Q I rx ry h
  obtain ⟨i, j, rfl, rfl, hc, q⟩ := h
  obtain ⟨t, rfl⟩ := rx
  obtain ⟨t', rfl⟩ := ry
  exact rule i j t t' s _ _ hc ⟨.int (g i j), H, I.tok _, ⟨_, rfl⟩, q⟩
theorem opI0 {f : Value → Value → Sem Value} {g : Int → Int → Int}
    (rule : ∀ (i j : Int) (t u : Tok) (s : Shared) (Q : Value → Shared → Prop) (E : Value → Shared → Prop), Q (.int (g i j) s.toks) { s with toks := s.toks + 1 } → wpAny (model X.prog X.w) X.A (f (.int i t) (.int j u)) Q E s) :
    OpR X f (rI0 fun i j => .int (g i j)) := by
  intro pins s σ H x y v u Q I rx ry h
  obtain ⟨i, j, rfl, rfl, q⟩ := h
  obtain ⟨t, rfl⟩ := rx
  obtain ⟨t', rfl⟩ := ry
  exact rule i j t t' s _ _ ⟨.int (g i j), H, I.tok _, ⟨_, rfl⟩, q⟩
theorem opB0 {f : Value → Value → Sem Value} {g : Int → Int → Bool}
    (rule : ∀ (i j : Int) (t u : Tok) (s : Shared) (Q : Value → Shared → Prop) (E : Value → Shared → Prop), Q (.bool (g i j)) s → wpAny (model X.prog X.w) X.A (f (.int i t) (.int j u)) Q E s) :
    OpR X f (rI0 fun i j => .bl (g i j)) := by
  intro pins s σ H x y v u Q I rx ry h
  obtain ⟨i, j, rfl, rfl, q⟩ := h
  obtain ⟨t, rfl⟩ := rx
  obtain ⟨t', rfl⟩ := ry
  exact rule i j t t' s _ _ ⟨.bl (g i j), H, I, rfl, q⟩

def CDiv (i j : Int) : Prop := 0 < j ∧ j < 1073741824
def CMul (i j : Int) : Prop := (-(2 ^ 64) < i ∧ i < 2 ^ 64) ∨ (-(2 ^ 64) < j ∧ j < 2 ^ 64)
theorem CMul.ok {i j : Int} (h : CMul i j) : IntMulOk i j := by
  rcases h with ⟨h1, h2⟩ | ⟨h1, h2⟩
  · exact .of_left (intBits_le_64 h1 h2)
  · exact .of_right (intBits_le_64 h1 h2)
theorem op_add : OpR X (binaryOp .Add) (rI0 fun i j => .int (i + j)) := opI0 fun _ _ _ _ _ _ _ q => add_int q
theorem op_sub : OpR X (binaryOp .Sub) (rI0 fun i j => .int (i - j)) := opI0 fun _ _ _ _ _ _ _ q => sub_int q
theorem op_mul : OpR X (binaryOp .Mult) (rI CMul fun i j => .int (i * j)) := opI fun _ _ _ _ _ _ _ hc q => mul_int q hc.ok
/-- // by a positive divisor -/
theorem op_fdiv : OpR X (binaryOp .FloorDiv) (rI CDiv fun i j => .int (i / j)) := opI fun i j _ _ _ _ _ hc q => by
  have h1 : (0 : Int) < j := hc.1
  have h2 : j < 1073741824 := hc.2
  exact floordiv_int (by omega) (by rw [Int.fdiv_eq_ediv_of_nonneg i (by omega)]; exact q) (.inl (PyProof.noPylong_small (by omega)))
/-- % by a positive divisor of any size -/
theorem op_mod : OpR X (binaryOp .Mod) (rI (fun _ j => 0 < j) fun i j => .int (i % j)) := opI fun i j _ _ _ _ _ hc q => by
  have h1 : (0 : Int) < j := hc
  exact mod_int' (by omega) (by rw [Int.fmod_eq_emod_of_nonneg i (by omega)]; exact q)
/-! ### bools among ints: n += (a < b) -/
end

/-! ### comparisons -/
/-- the scalars that == tells apart as data does -/
def scal : V → V → Bool
  | .non, .non => true | .non, .int _ => true | .int _, .non => true | .non, .bl _ => true | .bl _, .non => true | .non, .str _ => true | .str _, .non => true
  | .int _, .int _ => true | .bl _, .bl _ => true | .str _, .str _ => true | .byt _, .byt _ => true
  | .int _, .str _ => true | .str _, .int _ => true | .bl _, .str _ => true | .str _, .bl _ => true
  | _, _ => false
def rEq : R2 := fun x y H Q => scal x y = true ∧ Q (.bl (decide (x = y))) H
def rNe : R2 := fun x y H Q => scal x y = true ∧ Q (.bl (!decide (x = y))) H

theorem dec_int {i j : Int} : decide (V.int i = V.int j) = (i == j) := by
  rw [Bool.eq_iff_iff]
  simp
theorem dec_bl {i j : Bool} : decide (V.bl i = V.bl j) = (i == j) := by
  rw [Bool.eq_iff_iff]
  simp
theorem dec_str {i j : Str} : decide (V.str i = V.str j) = (i == j) := by
  rw [Bool.eq_iff_iff]
  simp
theorem dec_byt {i j : Array UInt8} : decide (V.byt i = V.byt j) = (i.toList == j.toList) := by
  rw [Bool.eq_iff_iff]
  cases i
  cases j
  simp

section
variable {X : Cx} {a b c : Expr} {ta tb tc : TE} {pos : Pos}
theorem fin_bl {pins : List (Addr × Obj)} {σ : St} {H : Hp} {s : Shared} {Q : VK} {k k' : Bool} (I : Inv X pins σ H s) (q : Q (.bl k) H) (e : k = k') : EP X pins σ Q (.bool k') s := by
  subst e
  exact ⟨.bl k, H, I, rfl, q⟩
theorem op_eq : OpR X (compareOp .Eq) rEq := by
  intro pins s σ H x y v u Q I rx ry h
  obtain ⟨hs, q⟩ := h
  cases x with
  | non =>
    cases rx
    cases y with
    | non => cases ry; exact PySem.EqNone.eq_none_none (fin_bl I q (by simp))
    | bl j => cases ry; exact PySem.EqNone.eq_none_bool (fin_bl I q (by simp))
    | int j => obtain ⟨t', rfl⟩ := ry; exact PySem.EqNone.eq_none_int (fin_bl I q (by simp))
    | str j => obtain ⟨t', rfl⟩ := ry; exact PySem.EqNone.eq_none_str (fin_bl I q (by simp))
    | _ => exact absurd (show false = true from hs) Bool.false_ne_true
  | bl i =>
    cases rx
    cases y with
    | non => cases ry; exact PySem.EqNone.eq_bool_none (fin_bl I q (by simp))
    | bl j => cases ry; exact eq_bool (fin_bl I q dec_bl)
    | str j => obtain ⟨t', rfl⟩ := ry; exact PySem.EqMixed.eq_bool_str (fin_bl I q (by simp))
    | _ => exact absurd (show false = true from hs) Bool.false_ne_true
  | int i =>
    obtain ⟨t, rfl⟩ := rx
    cases y with
    | non => cases ry; exact PySem.EqNone.eq_int_none (fin_bl I q (by simp))
    | int j => obtain ⟨t', rfl⟩ := ry; exact eq_int (fin_bl I q dec_int)
    | str j => obtain ⟨t', rfl⟩ := ry; exact PySem.EqMixed.eq_int_str (fin_bl I q (by simp))
    | _ => exact absurd (show false = true from hs) Bool.false_ne_true
  | str i =>
    obtain ⟨t, rfl⟩ := rx
    cases y with
    | non => cases ry; exact PySem.EqNone.eq_str_none (fin_bl I q (by simp))
    | bl j => cases ry; exact PySem.EqMixed.eq_str_bool (fin_bl I q (by simp))
    | int j => obtain ⟨t', rfl⟩ := ry; exact PySem.EqMixed.eq_str_int (fin_bl I q (by simp))
    | str j => obtain ⟨t', rfl⟩ := ry; exact eq_str (fin_bl I q dec_str)
    | _ => exact absurd (show false = true from hs) Bool.false_ne_true
  | byt i =>
    obtain ⟨t, rfl⟩ := rx
    cases y with
    | byt j => obtain ⟨t', rfl⟩ := ry; exact PySem.W.eq_bytes (fin_bl I q dec_byt)
    | _ => exact absurd (show false = true from hs) Bool.false_ne_true
  | _ => cases y <;> exact absurd (show false = true from hs) Bool.false_ne_true
theorem op_ne : OpR X (compareOp .NotEq) rNe := by
  intro pins s σ H x y v u Q I rx ry h
  obtain ⟨hs, q⟩ := h
  cases x with
  | non =>
    cases rx
    cases y with
    | non => cases ry; exact PySem.EqNone.ne_none_none (fin_bl I q (by simp))
    | bl j => cases ry; exact PySem.EqNone.ne_none_bool (fin_bl I q (by simp))
    | int j => obtain ⟨t', rfl⟩ := ry; exact PySem.EqNone.ne_none_int (fin_bl I q (by simp))
    | str j => obtain ⟨t', rfl⟩ := ry; exact PySem.EqNone.ne_none_str (fin_bl I q (by simp))
    | _ => exact absurd (show false = true from hs) Bool.false_ne_true
  | bl i =>
    cases rx
    cases y with
    | non => cases ry; exact PySem.EqNone.ne_bool_none (fin_bl I q (by simp))
    | bl j => cases ry; exact ne_bool (fin_bl I q (congrArg not dec_bl))
    | str j => obtain ⟨t', rfl⟩ := ry; exact PySem.EqMixed.ne_bool_str (fin_bl I q (by simp))
    | _ => exact absurd (show false = true from hs) Bool.false_ne_true
  | int i =>
    obtain ⟨t, rfl⟩ := rx
    cases y with
    | non => cases ry; exact PySem.EqNone.ne_int_none (fin_bl I q (by simp))
    | int j => obtain ⟨t', rfl⟩ := ry; exact ne_int (fin_bl I q (congrArg not dec_int))
    | str j => obtain ⟨t', rfl⟩ := ry; exact PySem.EqMixed.ne_int_str (fin_bl I q (by simp))
    | _ => exact absurd (show false = true from hs) Bool.false_ne_true
  | str i =>
    obtain ⟨t, rfl⟩ := rx
    cases y with
    | non => cases ry; exact PySem.EqNone.ne_str_none (fin_bl I q (by simp))
    | bl j => cases ry; exact PySem.EqMixed.ne_str_bool (fin_bl I q (by simp))
    | int j => obtain ⟨t', rfl⟩ := ry; exact PySem.EqMixed.ne_str_int (fin_bl I q (by simp))
    | str j => obtain ⟨t', rfl⟩ := ry; exact ne_str (fin_bl I q (congrArg not dec_str))
    | _ => exact absurd (show false = true from hs) Bool.false_ne_true
  | byt i =>
    obtain ⟨t, rfl⟩ := rx
    cases y with
    | byt j => obtain ⟨t', rfl⟩ := ry; exact PySem.W.ne_bytes (fin_bl I q (congrArg not dec_byt))
    | _ => exact absurd (show false = true from hs) Bool.false_ne_true
  | _ => cases y <;> exact absurd (show false = true from hs) Bool.false_ne_true

theorem op_lt : OpR X (compareOp .Lt) (rI0 fun i j => .bl (decide (i < j))) := opB0 fun _ _ _ _ _ _ _ q => lt_int q
theorem op_le : OpR X (compareOp .LtE) (rI0 fun i j => .bl (decide (i ≤ j))) := opB0 fun _ _ _ _ _ _ _ q => le_int q
theorem op_gt : OpR X (compareOp .Gt) (rI0 fun i j => .bl (decide (j < i))) := opB0 fun _ _ _ _ _ _ _ q => gt_int q
/-- the one string within the other -/
theorem op_in_str : OpR X (compareOp .In) (fun x y H Q => ∃ i j, x = .str i ∧ y = .str j ∧ Q (.bl (!(Builtin.Str.occurrences j i 0 j.length 1).isEmpty)) H) := by
  intro pins s σ H x y v u Q I rx ry h
  obtain ⟨i, j, rfl, rfl, q⟩ := h
  obtain ⟨t, rfl⟩ := rx
  obtain ⟨t', rfl⟩ := ry
  exact in_str (fin_bl I q rfl)

theorem nomark (b : Expr) {op : CmpOp} (h : op ≠ .In := by decide) (h2 : op ≠ .NotIn := by decide) : behindInMarks op b = false := by
  have e1 : (op == CmpOp.In) = false := by cases op <;> first | rfl | exact absurd rfl h
  have e2 : (op == CmpOp.NotIn) = false := by cases op <;> first | rfl | exact absurd rfl h2
  cases b <;> simp [behindInMarks, e1, e2]
/-- a comparison as a value; hm: nomark b, or (for in, not in) by with_unfolding_all rfl -/
theorem pe_cmpR {op : CmpOp} {r : R2} (ho : OpR X (compareOp op) r) (ha : PE X a ta) (hb : PE X b tb) (hm : behindInMarks op b = false) : PE X (.Compare a [op] [b] pos) (tOp r ta tb) := by
  intro pins s σ H Q I h
  exact wpAny_Compare1 (binT ha hb I h fun v u s2 x y H2 I2 rx ry q => ho pins s2 σ H2 x y v u Q I2 rx ry q) hm
/-- a reading of a value as a test -/
def tTest (t : TE) : TT := fun σ H Q => t σ H fun x H' => ∃ k, x = .bl k ∧ Q k H'
theorem pt_cmpR {op : CmpOp} {r : R2} (ho : OpR X (compareOp op) r) (ha : PE X a ta) (hb : PE X b tb) (hm : behindInMarks op b = false) : PT X (.Compare a [op] [b] pos) (tTest (tOp r ta tb)) := by
  intro pins s σ H Q I h
  refine wpAny_isTrue_Compare1 (thn (ha pins s σ H _ I h) fun v s1 ⟨x, H1, I1, r1, q1⟩ => thn (hb pins s1 σ H1 _ I1 q1) fun u s2 ⟨y, H2, I2, r2, q2⟩ =>
    thn (ho pins s2 σ H2 x y v u _ I2 r1 r2 q2) fun c s3 ⟨z, H3, I3, r3, k, e, q3⟩ => ?_) hm
  subst e
  cases r3
  exact wpAny_truthy_bool ⟨H3, I3, q3⟩
/-- a op1 b op2 c -/
def tChain (r r' : R2) (ta tb tc : TE) : TE := fun σ H Q => ta σ H fun x H1 => tb σ H1 fun y H2 => r x y H2 fun z H3 => ∃ k, z = .bl k ∧
  (if k = true then tc σ H3 fun w' H4 => r' y w' H4 Q else Q (.bl false) H3)
theorem pe_chain {op op' : CmpOp} {r r' : R2} (ho : OpR X (compareOp op) r) (ho' : OpR X (compareOp op') r') (ha : PE X a ta) (hb : PE X b tb) (hc : PE X c tc)
    (hm : lastMarks [op, op'] [b, c] = false := by with_unfolding_all rfl) : PE X (.Compare a [op, op'] [b, c] pos) (tChain r r' ta tb tc) := by
  intro pins s σ H Q I h
  refine Compare_chain (thn (ha pins s σ H _ I h) fun v s1 ⟨x, H1, I1, r1, q1⟩ => chain_link (thn (hb pins s1 σ H1 _ I1 q1) fun u s2 ⟨y, H2, I2, r2, q2⟩ =>
    thn (ho pins s2 σ H2 x y v u _ I2 r1 r2 q2) fun d s3 ⟨z, H3, I3, r3, k, e, q3⟩ => ?_)) hm
  subst e
  cases r3
  refine wpAny_truthy_bool ?_
  cases k with
  | false => exact ite_ff ⟨.bl false, H3, I3, rfl, q3⟩
  | true => exact ite_tt (chain_last (thn (hc pins s3 σ H3 _ I3 q3) fun w' s4 ⟨z', H4, I4, r4, q4⟩ => ho' pins s4 σ H4 y z' u w' Q I4 r2 r4 q4))
/-! ### truth -/
theorem line63 : (sizeLine : Nat) < 2 ^ 63 := by rw [sizeLine_eq]; decide
/-! ### strs and bytes -/
theorem op_add_str : OpR X (binaryOp .Add) (fun x y H Q => ∃ i j, x = .str i ∧ y = .str j ∧ i.length + j.length ≤ sizeLine ∧ Q (.str (i ++ j)) H) := by
  intro pins s σ H x y v u Q I rx ry h
  obtain ⟨i, j, rfl, rfl, hz, q⟩ := h
  obtain ⟨t, rfl⟩ := rx
  obtain ⟨t', rfl⟩ := ry
  exact add_str (fun t' tk => ⟨.str (i ++ j), H, I.tok _, ⟨_, rfl⟩, q⟩) hz
/-! ### scalar builtins, by CallR -/
theorem vals1 {x : V} {us : List Value} (r : Vals [x] us) : ∃ u, us = [u] ∧ RelV x u := by
  cases r with
  | cons r1 r2 => cases r2; exact ⟨_, rfl, r1⟩
theorem vals2 {x y : V} {us : List Value} (r : Vals [x, y] us) : ∃ u w', us = [u, w'] ∧ RelV x u ∧ RelV y w' := by
  cases r with
  | cons r1 r2 =>
    cases r2 with
    | cons r3 r4 => cases r4; exact ⟨_, _, rfl, r1, r3⟩
/-- len of a str, a bytes, a list, a tuple -/
def LenV (K : PySem.W.Frag) (x : V) (H : Hp) (n : Nat) : Prop :=
  match x with
  | .str y => y.length ≤ sizeLine ∧ n = y.length
  | .byt y => y.size ≤ sizeLine ∧ n = y.size
  | .ref p => (∃ xs, SqL K H p xs ∧ n = xs.length) ∨ ∃ xs, SqT K H p xs ∧ n = xs.length
  | _ => False
theorem call_len : CallR X (.builtin "len") (fun xs H Q => ∃ x n, xs = [x] ∧ LenV X.K x H n ∧ Q (.int n) H) := by
  intro pins s σ H xs us Q I r h
  obtain ⟨x, n, rfl, e, q⟩ := h
  obtain ⟨u, rfl, rx⟩ := vals1 r
  have hl := line63
  have hs : sizeLine = 16777216 := sizeLine_eq
  cases x with
  | str y =>
    obtain ⟨t, rfl⟩ := rx
    obtain ⟨hy, e'⟩ : y.length ≤ sizeLine ∧ n = y.length := e
    subst e'
    exact len_str (by omega) ⟨.int _, H, I.tok _, ⟨_, rfl⟩, q⟩
  | byt y =>
    obtain ⟨t, rfl⟩ := rx
    obtain ⟨hy, e'⟩ : y.size ≤ sizeLine ∧ n = y.size := e
    subst e'
    exact PySem.W.len_bytes (by omega) ⟨.int _, H, I.tok _, ⟨_, rfl⟩, q⟩
  | ref p =>
    cases rx
    have e' : (∃ xs, SqL X.K H p xs ∧ n = xs.length) ∨ ∃ xs, SqT X.K H p xs ∧ n = xs.length := e
    rcases e' with ⟨xs, hx, e'⟩ | ⟨xs, hx, e'⟩
    · subst e'
      obtain ⟨its, r', pl, hz⟩ := I.list hx
      have hlen := r'.length
      exact Calls.call_len_list pl.isList (by simp only [List.size_toArray]; omega) ⟨.int xs.length, H, I.tok _, ⟨_, by simp only [List.size_toArray]; rw [hlen]⟩, q⟩
    · subst e'
      obtain ⟨its, r', pl, hz⟩ := I.tuple hx
      have hlen := r'.length
      exact len_tuple pl (by simp only [List.size_toArray]; omega) ⟨.int xs.length, H, I.tok _, ⟨_, by simp only [List.size_toArray]; rw [hlen]⟩, q⟩
  | _ => exact (show False from e).elim
end
end L2

namespace L2
open PySem PySem.Spec PyProof.Rows

/-! ### an instance, its attributes a map -/
structure ObjM (h : Heap) (x dx C : Addr) (mA : Str → Option Value) : Prop where
  obj : h.get? x = some (PySem.W.instObj C dx)
  ns : h.Ns1 dx mA
  ne : dx ≠ x

theorem lookIn_ns {h : Heap} {dx : Addr} {mA : Str → Option Value} (n : h.Ns1 dx mA) : ∃ od, h.get? dx = some od ∧ ∀ name, PySem.W.lookIn name od = some (mA name) := by
  obtain ⟨o, es, ep, ho, hd, hk, _, hm⟩ := n
  refine ⟨o, ho, fun name => ?_⟩
  have e := hm name
  unfold nsFind findBy at e
  rw [← Array.find?_toList] at e
  unfold PySem.W.lookIn
  rw [hd]
  dsimp only
  split
  · rename_i y q
    rw [q] at e
    exact congrArg some e
  · rename_i q
    rw [q] at e
    have a : es.toList.any (·.refKey) = false := by
      rw [List.any_eq_false]
      intro y hy
      obtain ⟨z, t, hkey⟩ := hk y (Array.mem_toList_iff.mp hy)
      simp [DictEntry.refKey, hkey]
    have a' : ¬ es.toList.any (·.refKey) = true := by rw [a]; exact Bool.false_ne_true
    rw [if_neg a']
    exact congrArg some e

theorem ObjM.look {h : Heap} {x dx C : Addr} {mA : Str → Option Value} (I : ObjM h x dx C mA) : ∃ od, PySem.W.InstAt h x (PySem.W.instObj C dx) C (some od) ∧ ∀ name, PySem.W.lookIn name od = some (mA name) :=
  let ⟨od, ho, hl⟩ := lookIn_ns I.ns
  ⟨od, ⟨I.obj, rfl, rfl, ho⟩, hl⟩

section
variable {prog : Program} {w : World} {A : Around} {E : Value → Shared → Prop} {s : Shared} {K : PySem.W.Frag} {x dx C f : Addr} {mA : Str → Option Value} {name : Str} {v : Value}

theorem get_map {expr : Bool} {Q : Value → Shared → Prop} (X : K.In s.heap) (I : ObjM s.heap x dx C mA) (hg : PySem.W.plainGet K C name = true) (hh : PySem.W.hasDictIn K C = true)
    (ha : PySem.W.findIn K (.ref C) name = some none) (hv : mA name = some v) (hv' : PySem.W.handedIn v = true) (h : Q v { s with toks := s.toks + 1 }) :
    wpAny (model prog w) A (getAttr (.ref x) name expr) Q E s := by
  obtain ⟨od, J, hl⟩ := I.look
  exact PySem.W.get_value X J (PySem.W.plainGet_of hg).1 (PySem.W.findObj_own hh ha rfl (by rw [hl, hv])) hv' h

theorem set_map {ns : List Str} {Q : Unit → Shared → Prop} (X : K.In s.heap) (I : ObjM s.heap x dx C mA)
    (hs : PySem.W.findIn K (.ref C) "__setattr__" = some (some (.builtin "object.__setattr__"))) (hp : PySem.W.plainOver K C = true) (ht : PySem.W.takerIn K C name = some none) (hh : PySem.W.hasDictIn K C = true)
    (hw : PySem.Within mA ns) (hsz : ns.length ≤ sizeLine)
    (h : ∀ h', ObjM h' x dx C (fun y => if y = name then some v else mA y) → Heap.SameBut dx s.heap h' → Q () { s with heap := h', toks := s.toks + 2 }) :
    wpAny (model prog w) A (setAttr (.ref x) name v) Q E s := by
  obtain ⟨od, J, hl⟩ := I.look
  refine PySem.W.set_plain X J hs (PySem.W.osa_open (s := { s with toks := s.toks + 1 }) (r := none) X J hp ht fun b => ?_)
  obtain ⟨cd, hc, hd'⟩ := PySem.W.any_some hh
  have hx : s.heap.get? x = some ⟨.ref C, some dx, .plain, #[]⟩ := I.obj
  refine wpAny_bind (wpAny_pure (wpAny_bind (wpAny_bind (wpAny_loadPart hx (wpAny_bind (PySem.W.Looks.here (s := { s with toks := s.toks + 1 }) (PySem.W.looks_clsIn X hc) ?_))))))
  rw [hd']
  refine wpAny_pure (a := some dx) (wpAny_bind (wpAny_pure (wpAny_bind ?_)))
  refine wpAny_nsSet1 (s := { s with toks := s.toks + 1 }) I.ns fun h' hn2 hs2 => ?_
  obtain ⟨oD, esD, epD, hoD, hdD, hcD⟩ := hn2.count (PySem.Within.cons name v hw)
  refine wpAny_bind (wpAny_lookBehind hoD (by rw [hdD]; exact pastItsLine_dict (Nat.le_trans hcD (by rw [List.length_cons]; omega))) ?_)
  exact wpAny_pure (h _ ⟨(hs2.2 _ (Ne.symm I.ne)).trans I.obj, hn2, I.ne⟩ hs2)

/-- C(..): the dict at the heap's end, the instance behind it; then its __init__ -/
theorem make_map {R : Result → Shared → Prop} {vs : List Value} {kw : List (Str × Value)} (X : K.In s.heap) (hm : PySem.W.makesIn K C = true)
    (hi : PySem.W.findIn K (.ref C) "__init__" = some (some (.ref f))) (hf : PySem.W.typeIn K (.ref f) = some (.type "function"))
    (h : codeAny (model prog w) (A.under (.builtin "type.__call__" ⟨.ref C :: vs, kw⟩)) (.call (.ref f) ⟨.ref (s.heap.objs.size + 1) :: vs, kw⟩) (PySem.W.InitBack (s.heap.objs.size + 1) R)
      { s with heap := (s.heap.push PySem.W.emptyDict).push (PySem.W.instObj C s.heap.objs.size) }) :
    codeAny (model prog w) A (.call (.ref C) ⟨vs, kw⟩) R s := by
  obtain ⟨hh, g, d, t, os⟩ := s
  exact PySem.W.make_core (PySem.W.makes_of X hm) (PySem.W.looks_findIn X hi) (fun self => PySem.W.bind_fn X self hf) (.inl rfl) h
end

/-! ### the attributes as a list of pairs -/
def putF (f : Str) (v : V) : List (Str × V) → List (Str × V)
  | [] => [(f, v)]
  | (g, x) :: r => if g = f then (g, v) :: r else (g, x) :: putF f v r
theorem lookup_putF (f g : Str) (v : V) : ∀ fs : List (Str × V), (putF f v fs).lookup g = if g = f then some v else fs.lookup g
  | [] => by
    show List.lookup g [(f, v)] = _
    by_cases h : g = f
    · have hb : (g == f) = true := beq_iff_eq.mpr h
      simp only [List.lookup, hb, if_pos h]
    · have hb : (g == f) = false := beq_eq_false_iff_ne.mpr h
      simp only [List.lookup, hb, if_neg h]
  | (k, x) :: r => by
    have ih := lookup_putF f g v r
    rw [show putF f v ((k, x) :: r) = (if k = f then (k, v) :: r else (k, x) :: putF f v r) from rfl]
    by_cases hk : k = f
    · rw [if_pos hk]
      by_cases h : g = k
      · have hb : (g == k) = true := beq_iff_eq.mpr h
        simp only [List.lookup, hb, if_pos (h.trans hk)]
      · have hb : (g == k) = false := beq_eq_false_iff_ne.mpr h
        simp only [List.lookup, hb, if_neg (fun e : g = f => h (e.trans hk.symm))]
    · rw [if_neg hk]
      by_cases h : g = k
      · have hb : (g == k) = true := beq_iff_eq.mpr h
        simp only [List.lookup, hb, if_neg (fun e : g = f => hk (h.symm.trans e))]
      · have hb : (g == k) = false := beq_eq_false_iff_ne.mpr h
        simp only [List.lookup, hb]
        exact ih
theorem keys_putF (f : Str) (v : V) : ∀ fs : List (Str × V), f ∈ (putF f v fs).map (·.1) ∧ ∀ g, g ∈ fs.map (·.1) → g ∈ (putF f v fs).map (·.1)
  | [] => ⟨by simp [putF], fun g h => by simp at h⟩
  | (k, x) :: r => by
    obtain ⟨i1, i2⟩ := keys_putF f v r
    rw [show putF f v ((k, x) :: r) = (if k = f then (k, v) :: r else (k, x) :: putF f v r) from rfl]
    by_cases hk : k = f
    · rw [if_pos hk]
      subst hk
      exact ⟨by simp, fun g h => by simpa using h⟩
    · rw [if_neg hk]
      refine ⟨?_, fun g h => ?_⟩
      · rw [List.map_cons]
        exact List.mem_cons_of_mem _ i1
      · rw [List.map_cons] at h ⊢
        rcases List.mem_cons.mp h with e | e
        · exact List.mem_cons.mpr (.inl e)
        · exact List.mem_cons_of_mem _ (i2 g e)
theorem length_putF (f : Str) (v : V) : ∀ fs : List (Str × V), (putF f v fs).length ≤ fs.length + 1
  | [] => by simp [putF]
  | (k, x) :: r => by
    have ih := length_putF f v r
    rw [show putF f v ((k, x) :: r) = (if k = f then (k, v) :: r else (k, x) :: putF f v r) from rfl]
    by_cases hk : k = f
    · rw [if_pos hk, List.length_cons, List.length_cons]; omega
    · rw [if_neg hk, List.length_cons, List.length_cons]; omega

theorem RelO.some_of {v : V} {o : Option Value} (r : RelO (some v) o) : ∃ u, o = some u ∧ RelV v u := by
  cases o with
  | none => exact (show False from r).elim
  | some u => exact ⟨u, rfl, r⟩
theorem handed_of {v : V} {u : Value} (r : RelV v u) : PySem.W.handedIn u = true := by
  cases v with
  | non => cases (show u = Value.none from r); rfl
  | bl b => cases (show u = Value.bool b from r); rfl
  | int i => obtain ⟨t, e⟩ := (show ∃ t, u = Value.int i t from r); cases e; rfl
  | str x => obtain ⟨t, e⟩ := (show ∃ t, u = Value.str x t from r); cases e; rfl
  | byt b => obtain ⟨t, e⟩ := (show ∃ t, u = Value.bytes b t from r); cases e; rfl
  | flt b => obtain ⟨t, e⟩ := (show ∃ t, u = Value.float b t from r); cases e; rfl
  | ref a => cases (show u = Value.ref a from r); rfl
  | ty n => cases (show u = Value.type n from r); rfl

section
variable {P : Program} {w : World} {H H' : Hp} {h h' : Heap} {a C dx : Addr} {fs fs' : List (Str × V)}
theorem ins_get (hok : HOk P w H h) (e : H a = some (.ins C dx fs)) : ∃ mA, ObjM h a dx C mA ∧ (∀ f, RelO (fs.lookup f) (mA f)) ∧ PySem.Within mA (fs.map (·.1)) ∧ fs.length ≤ 1000 ∧ H dx = some (.own a) := by
  obtain ⟨d, z, ne, ob, mA, n, r, q⟩ := (show ObjOk P w H h a (.ins C dx fs) from hok a _ e)
  exact ⟨mA, ⟨ob, n, ne⟩, r, q, z, d⟩
end

/-! ### what of the text a class must have -/
structure Cls (K : PySem.W.Frag) (C : Addr) : Prop where
  pg : PySem.W.plainGet K C Str.empty = true
  hd : PySem.W.hasDictIn K C = true
  po : PySem.W.plainOver K C = true
  sa : PySem.W.findIn K (.ref C) "__setattr__" = some (some (.builtin "object.__setattr__"))
theorem Cls.get {K : PySem.W.Frag} {C : Addr} (c : Cls K C) (f : Str) : PySem.W.plainGet K C f = true := c.pg
/-- no class of it has the name -/
def NoAttr (K : PySem.W.Frag) (C : Addr) (f : Str) : Prop := PySem.W.findIn K (.ref C) f = some none
theorem NoAttr.taker {K : PySem.W.Frag} {C : Addr} {f : Str} (n : NoAttr K C f) : PySem.W.takerIn K C f = some none := by
  unfold PySem.W.takerIn
  rw [show PySem.W.findIn K (.ref C) f = some none from n]
  rfl
section
variable {X : Cx} {pins : List (Addr × Obj)} {σ : St} {H : Hp} {s : Shared} {a C dx : Addr} {fs : List (Str × V)} {f : Str} {v : V} {A : Around} {E : Value → Shared → Prop}

theorem getattr_ok {b : Bool} {Q : Value → Shared → Prop} (I : Inv X pins σ H s) (e : H a = some (.ins C dx fs)) (c : Cls X.K C) (n : NoAttr X.K C f) (l : fs.lookup f = some v)
    (h : ∀ u s', Inv X pins σ H s' → RelV v u → Q u s') : wpAny (model X.prog X.w) A (getAttr (.ref a) f b) Q E s := by
  obtain ⟨mA, O, r, _, _, _⟩ := ins_get I.hok e
  obtain ⟨u, hu, ru⟩ := RelO.some_of (v := v) (o := mA f) (by rw [← l]; exact r f)
  exact get_map I.kIn O (c.get f) c.hd n hu (handed_of ru) (h u _ (I.tok _) ru)

theorem setattr_ok {y : V} {u : Value} {Q : Unit → Shared → Prop} (I : Inv X pins σ H s) (e : H a = some (.ins C dx fs)) (c : Cls X.K C) (n : NoAttr X.K C f) (hl : fs.length < 1000) (ry : RelV y u)
    (h : ∀ s', Inv X pins σ (upd H a (.ins C dx (putF f y fs))) s' → Q () s') : wpAny (model X.prog X.w) A (setAttr (.ref a) f u) Q E s := by
  obtain ⟨mA, O, r, wi, _, ho⟩ := ins_get I.hok e
  have hz : (fs.map (·.1)).length ≤ sizeLine := by rw [List.length_map, sizeLine_eq]; omega
  refine set_map I.kIn O c.sa c.po n.taker c.hd wi hz fun h' O' sb => h _ ?_
  have hd : ∃ o, h'.get? dx = some o := let ⟨o, _, _, e', _⟩ := O'.ns; ⟨o, e'⟩
  refine I.write (x := a) (e := dx) (by rw [e]; exact True.intro) (.inr ho) (fun b q hb z => (sb.2 b hb).trans z) hd ?_
  refine ⟨by rw [upd_ne O.ne]; exact ho, ?_, O.ne, O'.obj, _, O'.ns, fun g => ?_, fun g hg => ?_⟩
  · have := length_putF f y fs; omega
  · show RelO ((putF f y fs).lookup g) (if g = f then some u else mA g)
    rw [lookup_putF]
    by_cases q : g = f
    · rw [if_pos q, if_pos q]; exact ry
    · rw [if_neg q, if_neg q]; exact r g
  · by_cases q : g = f
    · rw [q]; exact (keys_putF f y fs).1
    · refine (keys_putF f y fs).2 g (wi g fun z => hg ?_)
      show (if g = f then some u else mA g) = none
      rw [if_neg q]; exact z

/-- a new instance, tracked, without attributes -/
theorem Inv.made (I : Inv X pins σ H s) : Inv X pins σ (upd (upd H s.heap.objs.size (.own (s.heap.objs.size + 1))) (s.heap.objs.size + 1) (.ins C s.heap.objs.size []))
    { s with heap := (s.heap.push PySem.W.emptyDict).push (PySem.W.instObj C s.heap.objs.size) } := by
  have e1 : (s.heap.push PySem.W.emptyDict).get? s.heap.objs.size = some PySem.W.emptyDict := Heap.get?_push_size s.heap rfl
  have e2 : ((s.heap.push PySem.W.emptyDict).push (PySem.W.instObj C s.heap.objs.size)).get? (s.heap.objs.size + 1) = some (PySem.W.instObj C s.heap.objs.size) := by
    have := Heap.get?_push_size (s.heap.push PySem.W.emptyDict) (o := PySem.W.instObj C s.heap.objs.size) rfl
    rwa [Heap.size_push] at this
  have e3 : (s.heap.push PySem.W.emptyDict).Ns s.heap.objs.size (fun _ => none) := ⟨PySem.W.emptyDict, #[], _, e1, rfl, (fun e he => absurd he (by simp)), fun _ => rfl⟩
  have I1 := I.laid (a := s.heap.objs.size) (o := .own (s.heap.objs.size + 1)) (h' := s.heap.push PySem.W.emptyDict) (t' := s.toks) (fun b u q => Heap.get?_push_of_some _ q) (Nat.le_refl _) ⟨_, e1⟩
  refine I1.laid (a := s.heap.objs.size + 1) (o := .ins C s.heap.objs.size []) (t' := s.toks) (fun b u q => Heap.get?_push_of_some _ q) (Nat.le_of_eq (Heap.size_push _ _)) ?_
  have ne : s.heap.objs.size ≠ s.heap.objs.size + 1 := Nat.ne_of_lt (Nat.lt_succ_self _)
  refine ⟨by rw [upd_ne ne, upd_same], Nat.zero_le _, ne, e2, fun _ => none, (Heap.Ns1.of_empty e3).at fun o q => Heap.get?_push_of_some _ q, fun _ => True.intro, fun y hy => absurd rfl hy⟩

/-- e.f where nothing but the object is asked: through attributeBase (super) and the last hold -/
theorem attr_of {prog : Program} {w : World} {env : Env} {e : Expr} {f : Str} {pos : Pos} {s : Shared} {Q : Value → Shared → Prop} (hb : attributeBase e f env (eval e env) = eval e env)
    (h : wpAny (model prog w) A (eval e env) (fun o s₁ => wpAny (model prog w) A (getAttr o f true) Q E s₁) E s) : wpAny (model prog w) A (eval (.Attribute e f pos) env) Q E s :=
  Attribute_any_ h (by rw [arm_eval_Attribute, hb])
end

/-! ### readings and rules -/
/-- e.f, an attribute of the instance -/
def tFld (K : PySem.W.Frag) (ta : TE) (f : Str) : TE := fun σ H Q => ta σ H fun x H1 => ∃ a C dx fs v, x = .ref a ∧ H1 a = some (.ins C dx fs) ∧ Cls K C ∧ NoAttr K C f ∧ fs.lookup f = some v ∧ Q v H1
/-- e.f = value -/
def sFld (K : PySem.W.Frag) (ta tv : TE) (f : Str) : TS := fun D σ H => tv σ H fun y H1 => ta σ H1 fun x H2 => ∃ a C dx fs, x = .ref a ∧ H2 a = some (.ins C dx fs) ∧ Cls K C ∧ NoAttr K C f ∧ fs.length < 1000 ∧
  D.nx σ (upd H2 a (.ins C dx (putF f y fs)))
section
variable {X : Cx} {o e value : Expr} {f : Str} {pos pos' tpos : Pos} {ta tv : TE}
theorem pe_fld (he : PE X e ta) (hb : attributeBase e f X.env (eval e X.env) = eval e X.env) : PE X (.Attribute e f pos) (tFld X.K ta f) := by
  intro pins s σ H Q I h
  refine attr_of hb (thn (he pins s σ H _ I h) fun u s1 ⟨x, H1, I1, rx, a, C, dx, fs, v, ex, ea, c, n, l, q⟩ => ?_)
  subst ex
  obtain rfl : u = Value.ref a := rx
  exact getattr_ok I1 ea c n l fun u' s2 I2 ru => ⟨v, H1, I2, ru, q⟩
theorem ps_fld (ha : PE X o ta) (hv : PE X value tv) (hs : swapsWith value (some (.Attribute o f pos')) pos.line X.env = pure false) : PS X (.Assign [.Attribute o f pos'] value pos) (sFld X.K ta tv f) := by
  intro pins s σ H D I h
  refine plainObj_wpAny_Assign_Attribute (thn (hv pins s σ H _ I h) fun u s1 ⟨y, H1, I1, ry, q⟩ => thn (ha pins s1 σ H1 _ I1 q) fun ov s2 ⟨x, H2, I2, rx, a, C, dx, fs, ex, ea, c, n, l, q2⟩ => ?_) hs
  subst ex
  obtain rfl : ov = Value.ref a := rx
  exact setattr_ok I2 ea c n l ry fun s3 I3 => ⟨σ, _, I3, q2⟩
end

/-! ### isinstance -/
section
variable {X : Cx} {pins : List (Addr × Obj)} {σ : St} {H : Hp} {s : Shared} {A : Around} {E : Value → Shared → Prop} {Q : Value → Shared → Prop} {c : Value} {b : Bool}
/-- the type of a value, as the fragment's deciders take it; for an instance its class -/
inductive TyOf (K : PySem.W.Frag) (H : Hp) : V → Value → Prop where
  | non : TyOf K H .non (.type "NoneType")
  | bl (x : Bool) : TyOf K H (.bl x) (.type "bool")
  | int (i : Int) : TyOf K H (.int i) (.type "int")
  | str (x : Str) : TyOf K H (.str x) (.type "str")
  | flt (x : UInt64) : TyOf K H (.flt x) (.type "float")
  | lst {a : Addr} {xs : List V} (e : H a = some (.lst xs)) : TyOf K H (.ref a) (.type "list")
  | frz {a : Addr} {o : Obj} {xs : List V} (e : H a = some (.frz o (.lst xs))) : TyOf K H (.ref a) (.type "list")
  | tup {a : Addr} {xs : List V} (e : H a = some (.tup xs)) : TyOf K H (.ref a) (.type "tuple")
  | dK {a : Addr} {kvs : List (Key × V)} (e : H a = some (.dK kvs)) : TyOf K H (.ref a) (.type "dict")
  | dT {a : Addr} {kvs : List (List Key × V)} (e : H a = some (.dT kvs)) : TyOf K H (.ref a) (.type "dict")
  | ins {a C dx : Addr} {fs : List (Str × V)} (e : H a = some (.ins C dx fs)) (cl : Cls K C) (ha : PySem.W.findIn K (.ref C) "__class__" = some (some (.builtin "object.__class__")))
      (hn : PySem.W.specialIn K (.builtin "object.__class__") "__get__" = some (some (.builtin "getset_descriptor.__get__"))) (htk : PySem.W.takesIn K (.builtin "object.__class__") = some true)
      (hm : PySem.W.mroIn K C (.type "object") = some true) : TyOf K H (.ref a) (.ref C)
/-- isinstance(x, c) for one class c, a built-in or an own one: kitOne's answer -/
theorem isinst_ok {x : V} {u t : Value} (I : Inv X pins σ H s) (rx : RelV x u) (ty : TyOf X.K H x t) (e : PySem.W.kitOne X.K t c = some b) (h : ∀ tk, Q (.bool b) { s with toks := tk }) :
    wpAny (model X.prog X.w) A (call (.builtin "isinstance") [u, c]) Q E s := by
  cases ty with
  | non => cases (show u = Value.none from rx); exact PySem.W.kia_one PySem.W.kitx_none I.kIn True.intro e (fun z => nomatch z) h
  | bl y => cases (show u = Value.bool y from rx); exact PySem.W.kia_one PySem.W.kitx_bool I.kIn True.intro e (fun z => nomatch z) h
  | int i => obtain ⟨t, q⟩ := (show ∃ t, u = Value.int i t from rx); cases q; exact PySem.W.kia_one PySem.W.kitx_int I.kIn True.intro e (fun z => nomatch z) h
  | str y => obtain ⟨t, q⟩ := (show ∃ t, u = Value.str y t from rx); cases q; exact PySem.W.kia_one PySem.W.kitx_str I.kIn True.intro e (fun z => nomatch z) h
  | flt y => obtain ⟨t, q⟩ := (show ∃ t, u = Value.float y t from rx); cases q; exact PySem.W.kia_one PySem.W.kitx_float I.kIn True.intro e (fun z => nomatch z) h
  | @lst a xs ea =>
    cases (show u = Value.ref a from rx)
    obtain ⟨_, _, n, _, h1⟩ := (show ObjOk X.prog X.w H s.heap a (.lst xs) from I.hok a _ ea)
    exact PySem.W.kia_one PySem.W.kitx_list I.kIn ⟨_, h1, rfl⟩ e (fun z => nomatch z) h
  | @frz a ob xs ea =>
    cases (show u = Value.ref a from rx)
    obtain ⟨_, _, _, n, _, h1⟩ := (show ObjOk X.prog X.w H s.heap a (.frz ob (.lst xs)) from I.hok a _ ea)
    exact PySem.W.kia_one PySem.W.kitx_list I.kIn ⟨_, h1, rfl⟩ e (fun z => nomatch z) h
  | @tup a xs ea =>
    cases (show u = Value.ref a from rx)
    obtain ⟨_, _, _, p⟩ := (show ObjOk X.prog X.w H s.heap a (.tup xs) from I.hok a _ ea)
    obtain ⟨o, h1, h2, _⟩ := p
    exact PySem.W.kia_one PySem.W.kitx_tuple I.kIn ⟨o, h1, h2⟩ e (fun z => nomatch z) h
  | @dK a kvs ea =>
    cases (show u = Value.ref a from rx)
    obtain ⟨_, _, vs, _, p⟩ := (show ObjOk X.prog X.w H s.heap a (.dK kvs) from I.hok a _ ea)
    obtain ⟨o, es, ep, h1, h2, _⟩ := p
    exact PySem.W.kia_one PySem.W.kitx_dict I.kIn ⟨o, h1, h2.1⟩ e (fun z => nomatch z) h
  | @dT a kvs ea =>
    cases (show u = Value.ref a from rx)
    obtain ⟨_, _, xs, _, o, es, ep, h1, h2, _⟩ := (show ObjOk X.prog X.w H s.heap a (.dT kvs) from I.hok a _ ea)
    exact PySem.W.kia_one PySem.W.kitx_dict I.kIn ⟨o, h1, h2.1⟩ e (fun z => nomatch z) h
  | @ins a C dx fs ea cl ha hn htk hm =>
    cases (show u = Value.ref a from rx)
    obtain ⟨mA, O, _⟩ := ins_get I.hok ea
    obtain ⟨od, J, _⟩ := O.look
    exact PySem.W.kia_one (PySem.W.kitx_own (cl.get _) cl.hd ha hn htk hm) I.kIn J e (fun z => nomatch z) h
end
end L2

namespace L2
open PySem PySem.Spec PyProof.Rows

/-! ### room -/
structure Room (k : Nat) (A : Around) : Prop where
  hd : A.handled = none
  dp : A.depth + 3 * k + 5 < recursionLimit
  un : A.units + 16 * k + 200 < cLine
theorem Room.mono {j k : Nat} {A : Around} (r : Room k A) (h : j ≤ k) : Room j A := ⟨r.hd, by have := r.dp; omega, by have := r.un; omega⟩
theorem Room.deeper {k : Nat} {A : Around} (r : Room (k + 1) A) (env : Env) : Room k (A.deeper env) :=
  ⟨r.hd, by have := r.dp; show A.depth + 1 + 3 * k + 5 < _; omega, by have := r.un; show A.units + 3 + 16 * k + 200 < _; omega⟩
theorem make_depth {A : Around} {C : Addr} {us : List Value} {kw : List (Str × Value)} : (A.under (.builtin "type.__call__" ⟨.ref C :: us, kw⟩)).depth = A.depth + 1 := by
  first | rfl | simp [Around.under, Code.weight, Code.isCreation, Code.isGuard, Code.isCaller, Code.frames, Code.isFrame, guardIds]
theorem make_units {A : Around} {C : Addr} {us : List Value} {kw : List (Str × Value)} : (A.under (.builtin "type.__call__" ⟨.ref C :: us, kw⟩)).units = A.units + 1 := by
  first | rfl | simp [Around.under, Code.cUnits, Code.frames, Code.isFrame]
theorem Room.make {k : Nat} {A : Around} (r : Room (k + 1) A) (C : Addr) (us : List Value) (kw : List (Str × Value)) : Room k (A.under (.builtin "type.__call__" ⟨.ref C :: us, kw⟩)) :=
  ⟨r.hd, by have := r.dp; rw [make_depth]; omega, by have := r.un; rw [make_units]; omega⟩
theorem Room.depth {k : Nat} {A : Around} (r : Room k A) : A.depth < recursionLimit := by have := r.dp; omega
theorem Room.units {k : Nat} {A : Around} (r : Room k A) : A.units + 64 < cLine := by have := r.un; omega
/-! ### argument lists and displays -/
def tNil : TA := fun _ H Q => Q [] H
def tCons (ta : TE) (tr : TA) : TA := fun σ H Q => ta σ H fun x H1 => tr σ H1 fun xs H2 => Q (x :: xs) H2
section
variable {X : Cx} {e : Expr} {es : List Expr} {te : TE} {t : TA} {pos : Pos}
theorem pa_nil : PA X [] tNil := fun _ _ _ _ H Q I h => Calls.spliced_nil ⟨[], H, I, .nil, h⟩
theorem pa_cons (ha : PE X e te) (hr : PA X es t) (hs : starEach (e :: es) X.env = (false, eval e X.env) :: starEach es X.env := by rfl) : PA X (e :: es) (tCons te t) := by
  intro pos pins s σ H Q I h
  rw [hs]
  show wpAny _ _ (spliced ((false, eval e X.env) :: backTo pos (starEach es X.env))) _ _ s
  refine Calls.spliced_cons (thn (ha pins s σ H _ I h) fun u s1 ⟨x, H1, I1, r1, q1⟩ => ?_)
  exact thn (hr pos pins s1 σ H1 _ I1 q1) fun us s2 ⟨xs, H2, I2, r2, q2⟩ => ⟨x :: xs, H2, I2, .cons r1 r2, q2⟩

/-- a tuple, a list of written items -/
def tTup (t : TA) : TE := fun σ H Q => t σ H fun xs H1 => xs.length ≤ sizeLine ∧ ∀ p, H1 p = none → Q (.ref p) (upd H1 p (.tup xs))
def tLst (t : TA) : TE := fun σ H Q => t σ H fun xs H1 => xs.length ≤ sizeLine ∧ ∀ p, H1 p = none → Q (.ref p) (upd H1 p (.lst xs))
theorem pe_tup {x1} (h : PA X es t) : PE X (.Tuple es x1 pos) (tTup t) := by
  intro pins s σ H Q I hq
  refine wpAny_Tuple_spliced (thn (h pos pins s σ H _ I hq) fun us s1 ⟨xs, H1, I1, r, z, q⟩ => ⟨by rw [← r.length]; exact z, ?_⟩)
  have hf : H1 s1.heap.objs.size = none := I1.hok.fresh (Nat.le_refl _)
  refine ⟨.ref s1.heap.objs.size, upd H1 s1.heap.objs.size (.tup xs), I1.laid (t' := s1.toks) (fun b u e => Heap.get?_push_of_some _ e) (Nat.le_refl _) ?_, rfl, q _ hf⟩
  exact ⟨z, us, r, ⟨_, Heap.get?_push_size _ rfl, rfl, _, rfl⟩⟩
theorem pe_lst (h : PA X es t) : PE X (.List es pos) (tLst t) := by
  intro pins s σ H Q I hq
  refine wpAny_List_spliced (thn (h pos pins s σ H _ I hq) fun us s1 ⟨xs, H1, I1, r, z, q⟩ => ⟨by rw [← r.length]; exact z, ?_⟩)
  have hf : H1 s1.heap.objs.size = none := I1.hok.fresh (Nat.le_refl _)
  refine ⟨.ref s1.heap.objs.size, upd H1 s1.heap.objs.size (.lst xs), I1.laid (t' := s1.toks) (fun b u e => Heap.get?_push_of_some _ e) (Nat.le_refl _) ?_, rfl, q _ hf⟩
  exact ⟨z, us, 0, r, Heap.get?_push_size _ rfl⟩
end

/-! ### what a def promises -/
/-- a def's promise: the bound arguments in the parameters' order, the heap, the wanted end, the wanted exception -/
abbrev Sp := List V → Hp → VK → XK → Prop
/-- how an exception lies behind a call (file 08 gives it): the callers' frames, abstract heap and state ahead of the call, the wish, the exception, the state -/
abbrev CXT := List Env → Hp → Shared → XK → Value → Shared → Prop

/-- the state at a call -/
structure Env0 (P : Program) (w : World) (K : PySem.W.Frag) (mg : Str → Option Value) (base : Heap) (A : Around) (outer : List Env) (s : Shared) (H : Hp) : Prop where
  frames : A.frames = some outer
  mod : Mod K mg base
  bs : ∀ b o, base.get? b = some o → s.heap.get? b = some o ∧ H b = none
  bsz : base.objs.size ≤ s.heap.objs.size
  funs : s.heap.FunFrames base outer
  frf : ∀ b ∈ frs outer, H b = none
  hok : HOk P w H s.heap
  bare : AllBare s.gens
/-- a call's end -/
def CE (outer : List Env) (P : Program) (w : World) (H : Hp) (s : Shared) (Q : VK) (u : Value) (s' : Shared) : Prop :=
  ∃ v H', s'.os = s.os ∧ AllBare s'.gens ∧ Un (frs outer) [] H H' s.heap s'.heap ∧ HOk P w H' s'.heap ∧ RelV v u ∧ Q v H'
def CR (CX : CXT) (outer : List Env) (P : Program) (w : World) (H : Hp) (s : Shared) (Q : VK) (E : XK) (r : Result) (s' : Shared) : Prop :=
  match r with
  | .ok (.ret u) => CE outer P w H s Q u s'
  | .ok _ => False
  | .error e => CX outer H s E e s'
structure FnOk (P : Program) (w : World) (K : PySem.W.Frag) (mg : Str → Option Value) (base : Heap) (CX : CXT) (k : Nat) (f : Addr) (fd : FuncData) (ps : List Str) (sp : Sp) : Prop where
  len : ∀ vs H Q E, sp vs H Q E → vs.length = ps.length
  run : ∀ (A : Around) (outer : List Env) (s : Shared) (H : Hp) (args : Args) (us : List Value) (vs : List V) (Q : VK) (E : XK), Room k A → Env0 P w K mg base A outer s H → BindsTo s fd args (ps.zip us) → Vals vs us → sp vs H Q E →
    codeAny (model P w) A (.call (.ref f) args) (CR CX outer P w H s Q E) s
theorem Env0.make {P : Program} {w : World} {K : PySem.W.Frag} {mg : Str → Option Value} {base : Heap} {A : Around} {outer : List Env} {s : Shared} {H : Hp} (e : Env0 P w K mg base A outer s H) (C : Addr) (us : List Value) (kw : List (Str × Value)) :
    Env0 P w K mg base (A.under (.builtin "type.__call__" ⟨.ref C :: us, kw⟩)) outer s H := ⟨by first | exact e.frames | (simpa [Around.under, Code.envs, Code.isFrame, pushEnvs] using e.frames), e.mod, e.bs, e.bsz, e.funs, e.frf, e.hok, e.bare⟩
section
variable {X : Cx} {pins : List (Addr × Obj)} {σ : St} {H : Hp} {s s' : Shared}
/-- from a body: what a callee wants -/
theorem Inv.env0 (I : Inv X pins σ H s) : Env0 X.prog X.w X.K X.mg X.base X.A X.stack s H :=
  ⟨I.ok.frames, I.ok.mod, I.bs, Nat.le_trans I.ok.bsz I.sz, I.stack, I.stkFree, I.hok, I.bare⟩
/-- behind a call -/
theorem Inv.after {Q : VK} {u : Value} (I : Inv X pins σ H s) (h : CE X.stack X.prog X.w H s Q u s') : EP X pins σ Q u s' := by
  obtain ⟨v, H', os, bare, un, hok, r, q⟩ := h
  obtain ⟨hh, g, d, t, os'⟩ := s'
  obtain rfl : os' = s.os := os
  exact ⟨v, H', I.call (h' := hh) (g' := g) (d' := d) (t' := t) (ch := []) un hok bare (fun b z => absurd z (by simp)), r, q⟩
end

/-! ### calls -/
/-- f(..): the written arguments, then the defaults dvs; E: what is wanted of an exception -/
def tCall (sp : Sp) (dvs : List V) (E : XK) (t : TA) : TE := fun σ H Q => t σ H fun vs H1 => sp (vs ++ dvs) H1 Q E
/-- C(..): a new instance and its dict, then __init__ -/
def tMake (C : Addr) (sp : Sp) (dvs : List V) (E : XK) (t : TA) : TE := fun σ H Q => t σ H fun vs H1 => ∀ x dx, H1 x = none → H1 dx = none → dx ≠ x →
  sp (.ref x :: (vs ++ dvs)) (upd (upd H1 dx (.own x)) x (.ins C dx [])) (fun v H2 => v = .non ∧ Q (.ref x) H2) E

/-- how the parameters are bound: us the positional arguments, kw the keywords' values by name, ds the defaults that fill up -/
def Binds (K : PySem.W.Frag) (fd : FuncData) (ps : List Str) (ds : List Value) : Prop :=
  ∀ (s : Shared) (us : List Value), K.In s.heap → (us ++ ds).length = ps.length → BindsTo s fd ⟨us, []⟩ (ps.zip (us ++ ds))
/-- every parameter is given -/
theorem Binds.all {K : PySem.W.Frag} {fd : FuncData} {ps : List Str} (h : ∀ us : List Value, us.length = ps.length → bindArgs fd ⟨us, []⟩ = pure (ps.zip us)) : Binds K fd ps [] := fun s us _ hl => by
  rw [List.append_nil] at hl ⊢
  exact .of_eq (h us hl)

/-- an exception of a callee reaches what this body wants of exceptions -/
def Passes (CX : CXT) (X : Cx) (E : XK) : Prop := ∀ (pins : List (Addr × Obj)) (σ : St) (H : Hp) (s : Shared) (e : Value) (s' : Shared), Inv X pins σ H s → CX X.stack H s E e s' → X.xe e s'

section
variable {X : Cx} {CX : CXT} {k : Nat} {f C : Addr} {fd : FuncData} {ps : List Str} {sp : Sp} {dvs : List V} {ds : List Value} {E : XK} {x m : Str} {p pos apos : Pos} {e o : Expr} {es : List Expr} {ta : TE} {t : TA}

/-- the callee runs -/
theorem run_fn {pins : List (Addr × Obj)} {σ : St} {H : Hp} {s : Shared} {Q : VK} {us : List Value} {vs : List V} (F : FnOk X.prog X.w X.K X.mg X.base CX k f fd ps sp) (hr : Room k X.A) (hb : Binds X.K fd ps ds) (hd : Vals dvs ds) (hx : Passes CX X E)
    (I : Inv X pins σ H s) (r : Vals vs us) (h : sp (vs ++ dvs) H Q E) : wpAny (model X.prog X.w) X.A (call (.ref f) us) (EP X pins σ Q) X.xe s := by
  have r2 : Vals (vs ++ dvs) (us ++ ds) := r.append hd
  have hl : (us ++ ds).length = ps.length := by rw [← r2.length]; exact F.len _ _ _ _ h
  refine wpAny_call (codeAny_mono (F.run X.A X.stack s H ⟨us, []⟩ (us ++ ds) (vs ++ dvs) Q E hr I.env0 (hb s us I.kIn hl) r2 h) fun r s' hq => ?_)
  cases r with
  | error e => exact hx pins σ H s e s' I hq
  | ok fl =>
    cases fl with
    | ret u => exact I.after hq
    | next => exact False.elim hq
    | brk => exact False.elim hq
    | cont => exact False.elim hq

theorem pe_call (F : FnOk X.prog X.w X.K X.mg X.base CX k f fd ps sp) (hr : Room k X.A) (hg : Gl X x) (hm : X.mg x = some (.ref f)) (hk : PySem.W.keepIn X.K (.ref f) = true) (hb : Binds X.K fd ps ds) (hd : Vals dvs ds) (hx : Passes CX X E)
    (ha : PA X (e :: es) t) (hdb : (x == ("__debug__" : Str)) = false := by decide) (he : starEach (e :: es) X.env = (false, eval e X.env) :: starEach es X.env := by rfl) (hpl : (backTo pos (starEach es X.env)).any (·.1) = false := by rfl) :
    PE X (.Call (.Name x p) (e :: es) [] pos) (tCall sp dvs E t) := by
  intro pins s σ H Q I h
  refine wpAny_Call_Name_kw (ld_glob I hg hm ?_ hdb)
  refine PySem.W.callWith_K (h₀ := X.base) I.ok.mod.kin hk (thn (ha pos pins s σ H _ I h) fun us s1 ⟨vs, H1, I1, r, q⟩ => ⟨I1.kIn, ?_⟩) he hpl
  exact run_fn F hr hb hd hx I1 r q
/-- what a class must have to be made -/
structure Mk (K : PySem.W.Frag) (C f : Addr) : Prop where
  makes : PySem.W.makesIn K C = true
  init : PySem.W.findIn K (.ref C) "__init__" = some (some (.ref f))
  fn : PySem.W.isFn K (.ref f) = true
  kp : PySem.W.keepIn K (.ref C) = true

theorem run_make {pins : List (Addr × Obj)} {σ : St} {H : Hp} {s : Shared} {Q : VK} {us : List Value} {vs : List V} (M : Mk X.K C f) (F : FnOk X.prog X.w X.K X.mg X.base CX k f fd ps sp) (hr : Room (k + 1) X.A) (hb : Binds X.K fd ps ds) (hd : Vals dvs ds)
    (hx : Passes CX X E) (I : Inv X pins σ H s) (r : Vals vs us)
    (h : ∀ x dx, H x = none → H dx = none → dx ≠ x → sp (.ref x :: (vs ++ dvs)) (upd (upd H dx (.own x)) x (.ins C dx [])) (fun v H2 => v = .non ∧ Q (.ref x) H2) E) :
    wpAny (model X.prog X.w) X.A (call (.ref C) us) (EP X pins σ Q) X.xe s := by
  have hq := h (s.heap.objs.size + 1) s.heap.objs.size (I.hok.fresh (Nat.le_succ _)) (I.hok.fresh (Nat.le_refl _)) (Nat.ne_of_lt (Nat.lt_succ_self _))
  have I2 := Inv.made (C := C) I
  have r2 : Vals (V.ref (s.heap.objs.size + 1) :: (vs ++ dvs)) (Value.ref (s.heap.objs.size + 1) :: (us ++ ds)) := .cons rfl (r.append hd)
  have hl : (Value.ref (s.heap.objs.size + 1) :: us ++ ds).length = ps.length := by
    have e := r2.length
    rw [F.len _ _ _ _ hq] at e
    exact e.symm
  refine wpAny_call (make_map (f := f) I.kIn M.makes M.init (beq_iff_eq.mp M.fn) (codeAny_mono (F.run _ X.stack _ _ ⟨Value.ref (s.heap.objs.size + 1) :: us, []⟩ (Value.ref (s.heap.objs.size + 1) :: (us ++ ds)) _ _ E (hr.make C us [])
    (I2.env0.make C us []) (hb _ (Value.ref (s.heap.objs.size + 1) :: us) I2.kIn hl) r2 hq) fun r s' hq' => ?_))
  cases r with
  | error e => exact hx pins σ _ _ e s' I2 hq'
  | ok fl =>
    cases fl with
    | ret u =>
      obtain ⟨v, H', I3, rv, ev, q3⟩ := I2.after hq'
      subst ev
      exact ⟨rv, ⟨V.ref (s.heap.objs.size + 1), H', I3, rfl, q3⟩⟩
    | next => exact False.elim hq'
    | brk => exact False.elim hq'
    | cont => exact False.elim hq'
theorem pe_make (M : Mk X.K C f) (F : FnOk X.prog X.w X.K X.mg X.base CX k f fd ps sp) (hr : Room (k + 1) X.A) (hg : Gl X x) (hm : X.mg x = some (.ref C)) (hb : Binds X.K fd ps ds) (hd : Vals dvs ds) (hx : Passes CX X E)
    (ha : PA X (e :: es) t) (hdb : (x == ("__debug__" : Str)) = false := by decide) (he : starEach (e :: es) X.env = (false, eval e X.env) :: starEach es X.env := by rfl) (hpl : (backTo pos (starEach es X.env)).any (·.1) = false := by rfl) :
    PE X (.Call (.Name x p) (e :: es) [] pos) (tMake C sp dvs E t) := by
  intro pins s σ H Q I h
  refine wpAny_Call_Name_kw (ld_glob I hg hm ?_ hdb)
  refine PySem.W.callWith_K (h₀ := X.base) I.ok.mod.kin M.kp (thn (ha pos pins s σ H _ I h) fun us s1 ⟨vs, H1, I1, r, q⟩ => ⟨I1.kIn, ?_⟩) he hpl
  exact run_make M F hr hb hd hx I1 r q
end

/-! ### keywords -/
section
variable {X : Cx} {CX : CXT} {k : Nat} {f C : Addr} {fd : FuncData} {ps ks : List Str} {sp : Sp} {E : XK} {x m : Str} {p pos apos kpos : Pos} {e o : Expr} {es : List Expr} {kws : List Keyword} {te ta : TE} {t tk : TA} {nm : Option Str}
variable {g : List Value → List Value → List Value} {gV : List V → List V → List V}
end

/-! ### a def's body keeps its promise -/
/-- names: the parameters first -/
structure FnScope (N P : List Str) (sc : Scope) : Prop where
  kind : sc.kind = .function
  co : sc.isCoroutine = false
  gen : sc.isGenerator = false
  nd : N.Nodup
  pre : N.take P.length = P
  par : ∀ x ∈ P, sc.names.lookup x = some .local ∨ sc.names.lookup x = some .cell
  nofree : ∀ y ∈ sc.names, y.2 ≠ .free

theorem bindL_out {kindOf : Str → Option NameKind} {x : Str} : ∀ {binds : List (Str × Value)} {m : Str → Option Value}, (∀ v, (x, v) ∉ binds) → bindL kindOf binds m x = m x
  | [], _, _ => rfl
  | (n, v) :: r, m, h => by
    unfold bindL
    rw [bindL_out fun w hw => h w (List.mem_cons_of_mem _ hw)]
    split
    · have : x ≠ n := by rintro rfl; exact h v List.mem_cons_self
      simp [this]
    · rfl
theorem bindC_out {kindOf : Str → Option NameKind} {x : Str} : ∀ {binds : List (Str × Value)} {m : Str → Option Value}, (∀ v, (x, v) ∉ binds) → bindC kindOf binds m x = m x
  | [], _, _ => rfl
  | (n, v) :: r, m, h => by
    unfold bindC
    rw [bindC_out fun w hw => h w (List.mem_cons_of_mem _ hw)]
    split
    · rfl
    · have : x ≠ n := by rintro rfl; exact h v List.mem_cons_self
      simp [this]
theorem bindL_get {kindOf : Str → Option NameKind} {x : Str} {v : Value} : ∀ {P : List Str} {vs : List Value} {i : Nat} {m : Str → Option Value}, P.Nodup → P[i]? = some x → vs[i]? = some v → kindOf x = some .local →
    bindL kindOf (P.zip vs) m x = some v
  | [], _, _, _, _, h, _, _ => by simp at h
  | _ :: _, [], _, _, _, _, h, _ => by simp at h
  | p :: P, w :: vs, 0, m, nd, h1, h2, hk => by
    simp at h1 h2; subst h1; subst h2
    show bindL kindOf ((p, w) :: P.zip vs) m p = _
    unfold bindL
    rw [bindL_out fun v hv => (List.nodup_cons.mp nd).1 (List.of_mem_zip hv).1, if_pos hk]
    simp
  | p :: P, w :: vs, i + 1, m, nd, h1, h2, hk => by
    show bindL kindOf ((p, w) :: P.zip vs) m x = _
    unfold bindL
    exact bindL_get (i := i) (List.nodup_cons.mp nd).2 (by simpa using h1) (by simpa using h2) hk
theorem bindC_get {kindOf : Str → Option NameKind} {x : Str} {v : Value} : ∀ {P : List Str} {vs : List Value} {i : Nat} {m : Str → Option Value}, P.Nodup → P[i]? = some x → vs[i]? = some v → kindOf x ≠ some .local →
    bindC kindOf (P.zip vs) m x = some v
  | [], _, _, _, _, h, _, _ => by simp at h
  | _ :: _, [], _, _, _, _, h, _ => by simp at h
  | p :: P, w :: vs, 0, m, nd, h1, h2, hk => by
    simp at h1 h2; subst h1; subst h2
    show bindC kindOf ((p, w) :: P.zip vs) m p = _
    unfold bindC
    rw [bindC_out fun v hv => (List.nodup_cons.mp nd).1 (List.of_mem_zip hv).1, if_neg hk]
    simp
  | p :: P, w :: vs, i + 1, m, nd, h1, h2, hk => by
    show bindC kindOf ((p, w) :: P.zip vs) m x = _
    unfold bindC
    exact bindC_get (i := i) (List.nodup_cons.mp nd).2 (by simpa using h1) (by simpa using h2) hk

/-- the names' values at the entry -/
def start (N : List Str) (vs : List V) : St := vs.map some ++ List.replicate (N.length - vs.length) none

/-- the context of a def's body, at its entry; an exception leaves the frame, then lies as CX says -/
def cxOf (CX : CXT) (P : Program) (w : World) (K : PySem.W.Frag) (mg : Str → Option Value) (base : Heap) (N : List Str) (qual : Str) (scope : Scope) (f : Addr) (cd : Value) (A : Around) (outer : List Env) (s : Shared) (H : Hp) (E : XK) : Cx where
  prog := P
  w := w
  K := K
  mg := mg
  base := base
  A := A.deeper (envOfC qual scope s.heap.objs.size f cd)
  N := N
  s₀ := s
  H₀ := H
  env := envOfC qual scope s.heap.objs.size f cd
  outer := outer
  stack := envOfC qual scope s.heap.objs.size f cd :: outer
  ex := []
  calm := true
  fn := fun _ => true
  pn := []
  xe := fun e s' => wpAny (model P w) (A.deeper (envOfC qual scope s.heap.objs.size f cd)) (leaving (envOfC qual scope s.heap.objs.size f cd) e) (fun _ s'' => CX outer H s E e s'') (fun e' s'' => CX outer H s E e' s'') s'

theorem cell_has {sc : Scope} {n : Nat} {x : Str} (h : sc.names.lookup x = some .cell) : ∃ c, (cellsFrom n sc.names []).lookup x = some c := by
  have q := PySem.W.cellsFrom_some sc.names n [] (.inl h)
  exact Option.isSome_iff_exists.mp q

theorem inv_start {CX : CXT} {P : Program} {w : World} {K : PySem.W.Frag} {mg : Str → Option Value} {base : Heap} {N ps : List Str} {qual : Str} {scope : Scope} {f : Addr} {cd : Value} {A : Around} {outer : List Env} {s s1 : Shared} {H : Hp} {E : XK} {us : List Value} {vs : List V}
    (S : FnScope N ps scope) (hd : A.handled = none) (e0 : Env0 P w K mg base A outer s H) (hl : vs.length = ps.length) (r : Vals vs us)
    (x : InCallC s s.heap.objs.size (bindL (envOfC qual scope s.heap.objs.size f cd).kindOf (ps.zip us) fun _ => none) (cellsFrom (s.heap.objs.size + 1) scope.names []) (bindC (envOfC qual scope s.heap.objs.size f cd).kindOf (ps.zip us) fun _ => none) s1) :
    Inv (cxOf CX P w K mg base N qual scope f cd A outer s H E) [] (start N vs) H s1 := by
  have hpl : ps.length ≤ N.length := by have := congrArg List.length S.pre; rw [List.length_take] at this; omega
  obtain ⟨h1, tk, rfl, hk⟩ := x.done
  have noA : ∀ b : Addr, b ∉ (cxOf CX P w K mg base N qual scope f cd A outer s H E).ex := fun b z => absurd (show b ∈ ([] : List Addr) from z) (by simp)
  refine ⟨⟨e0.mod, S.kind, rfl, rfl, Nat.le_refl _, fun y z c h1 h2 => ?_, fun y hy => ?_, fun y c _ h => ?_, fun _ => hd, Around.frames_deeper e0.frames, .inr ⟨rfl, rfl⟩, fun b z => absurd z (noA b), e0.bs, e0.bsz, fun b _ _ => noA b, fun b z => absurd z (noA b), e0.funs, e0.frf⟩,
    rfl, e0.bare, Un.kept hk, ⟨_, x.toInCall.ns, fun i y v h1 h2 h3 => ?_⟩, fun y c h => ⟨_, x.cell y c h⟩, e0.hok.fresh (Nat.le_refl _), fun y c h => ?_, fun p hp => absurd (show p ∈ ([] : List (Addr × Obj)) from hp) (by simp), e0.hok.kept hk, ?_⟩
  · exact name_of_addr x.apart (PySem.mem_of_lookup h1) (PySem.mem_of_lookup h2)
  · have hy : scope.names.lookup y = some .cell ∨ scope.names.lookup y = some .free := hy
    rcases hy with hy | hy
    · exact cell_has hy
    · exact absurd rfl (S.nofree _ (PySem.mem_of_lookup hy))
  · exact Nat.le_of_lt (x.above y c (PySem.mem_of_lookup h))
  · have hi : i < vs.length := by
      unfold start at h2
      by_cases hi : i < vs.length
      · exact hi
      · rw [List.getElem?_append_right (by simpa using hi)] at h2
        rw [List.getElem?_replicate] at h2
        split at h2 <;> cases h2
    have ha : vs[i]? = some v := by
      unfold start at h2
      rw [List.getElem?_append_left (by simpa using hi), List.getElem?_map] at h2
      cases e : vs[i]? with
      | none => rw [e] at h2; cases h2
      | some a => rw [e] at h2; cases h2; rfl
    obtain ⟨u, hu, rv⟩ := r.get ha
    have hp : ps[i]? = some y := by
      rw [← S.pre, List.getElem?_take_of_lt (by omega)]; exact h1
    have ndP : ps.Nodup := by rw [← S.pre]; exact S.nd.sublist (List.take_sublist _ _)
    refine ⟨u, rv, ?_⟩
    rcases S.par y (List.mem_of_getElem? hp) with k | k
    · exact .inl ⟨k, bindL_get ndP hp hu k⟩
    · obtain ⟨c, e⟩ := cell_has (n := s.heap.objs.size + 1) k
      refine .inr ⟨.inl k, c, e, ?_⟩
      have q := x.cell y c e
      rw [bindC_get ndP hp hu (by show scope.names.lookup y ≠ _; rw [k]; decide)] at q
      exact q
  · exact e0.hok.fresh (Nat.le_of_lt (x.above y c (PySem.mem_of_lookup h)))
  · unfold start
    show _ = N.length
    rw [List.length_append, List.length_map, List.length_replicate]
    omega

/-- THE RULE: a def (or a method) of the text, by its body. The body's reading t is chosen for each entry; it is run at the parameters' values -/
theorem fn_of {CX : CXT} {P : Program} {w : World} {K : PySem.W.Frag} {mg : Str → Option Value} {base : Heap} {k : Nat} {f : Addr} {name qual : Str} {params : Arguments} {body : List Stmt} {scope : Scope} {dV kV doc pm cdv ct oc : Value} {an od : Option Addr}
    {osl : Array (Option Value)} {N ps : List Str} {sp : Sp} (lk : K.lookup f = some ⟨oc, od, .func (PySem.W.fnOf name qual params body scope dV kV doc pm an cdv ct), osl⟩) (hcd : PySem.W.codeIn K cdv qual = true) (S : FnScope N ps scope)
    (len : ∀ vs H Q E, sp vs H Q E → vs.length = ps.length)
    (hbody : ∀ (A : Around) (outer : List Env) (s : Shared) (H : Hp) (vs : List V) (Q : VK) (E : XK), Room k (A.deeper (envOfC qual scope s.heap.objs.size f cdv)) → sp vs H Q E →
      ∃ t, PSs (cxOf CX P w K mg base N qual scope f cdv A outer s H E) body t ∧ t { nx := fun _ H' => Q .non H', rt := Q } (start N vs) H) :
    FnOk P w K mg base CX (k + 1) f (PySem.W.fnOf name qual params body scope dV kV doc pm an cdv ct) ps sp := by
  refine ⟨len, fun A outer s H args us vs Q E hr e0 hb r hsp => ?_⟩
  have hl := len _ _ _ _ hsp
  have KX : K.In s.heap := e0.mod.kin.keeps fun b o e => (e0.bs b o e).1
  have lim : s.heap.NoLimit := e0.mod.nolimit.keeps fun b o e => (e0.bs b o e).1
  have hkind : ∀ y ∈ ps.zip us, scope.names.lookup y.1 = some .local ∨ (scope.names.lookup y.1 = some .cell ∧ ((cellsFrom (s.heap.objs.size + 1) scope.names []).lookup y.1).isSome = true) := fun ⟨n, v⟩ hy => by
    rcases S.par n (List.of_mem_zip hy).1 with q | q
    · exact .inl q
    · exact .inr ⟨q, PySem.W.cellsFrom_some _ _ _ (.inl q)⟩
  refine codeAny_call_function hr.depth (KX _ _ lk) rfl S.co S.gen rfl (PySem.W.codeRec_of KX hcd) (hb _ _ _ _ ?_)
  refine wpAny_newFunctionEnv_cells S.kind hkind fun env he s1 x => ?_
  subst he
  refine ⟨lim.keeps x.toInCall.keep, codeAny_func ?_⟩
  obtain ⟨t, ht, hq⟩ := hbody A outer s H vs Q E (hr.deeper _) hsp
  have I : Inv (cxOf CX P w K mg base N qual scope f cdv A outer s H E) [] (start N vs) H s1 := inv_start S hr.hd e0 hl r x
  refine wpAny_mono (ht [] s1 (start N vs) H _ I hq) (fun fl s' hs => ?_) fun e s' hs => hs
  have fin : ∀ {σ' : St} {H' : Hp} {v : V} {u : Value}, Inv (cxOf CX P w K mg base N qual scope f cdv A outer s H E) [] σ' H' s' → RelV v u → Q v H' → CE outer P w H s Q u s' :=
    fun {σ' H' v u} J rv q => ⟨v, H', J.os, J.bare, J.base, J.hok, rv, q⟩
  cases fl with
  | ret u =>
    obtain ⟨v, σ', H', J, rv, q⟩ := hs
    exact fin J rv q
  | next =>
    obtain ⟨σ', H', J, q⟩ := hs
    exact fin (v := V.non) (u := Value.none) J rfl q
  | brk =>
    obtain ⟨_, _, _, q⟩ := hs
    exact False.elim q
  | cont =>
    obtain ⟨_, _, _, q⟩ := hs
    exact False.elim q
end L2

namespace L2
open PySem PySem.Spec PyProof.Rows
section
variable {X : Cx} {x : Str} {p pos : Pos} {e : Expr} {es : List Expr} {t : TA} {id T : String} {r : List V → Hp → VK → Prop}

def tCB (r : List V → Hp → VK → Prop) (t : TA) : TE := fun σ H Q => t σ H fun vs H1 => r vs H1 Q
/-- f(e, ..), f a built-in function -/
theorem pe_callB (hc : CallR X (.builtin id) r) (hg : Gl X x) (hm : X.mg x = none) (hv : bootBuiltins x = some (.builtin id)) (ha : PA X (e :: es) t) (hn : x ≠ "__name__" := by decide) (hdb : (x == ("__debug__" : Str)) = false := by decide)
    (he : starEach (e :: es) X.env = (false, eval e X.env) :: starEach es X.env := by rfl) (hpl : (backTo pos (starEach es X.env)).any (·.1) = false := by rfl) : PE X (.Call (.Name x p) (e :: es) [] pos) (tCB r t) := by
  intro pins s σ H Q I h
  refine wpAny_Call_Name_kw (ld_blt I hg hm hv ?_ hn hdb)
  exact PyProof.Rows.callWith_builtin1 (thn (ha pos pins s σ H _ I h) fun us s1 ⟨vs, H1, I1, r1, q1⟩ => hc pins s1 σ H1 vs us Q I1 r1 q1) he hpl
/-- T(e, ..), T a built-in type -/
theorem pe_callTy (hc : CallR X (.type T) r) (hg : Gl X x) (hm : X.mg x = none) (hv : bootBuiltins x = some (.type T)) (ha : PA X (e :: es) t) (hn : x ≠ "__name__" := by decide) (hdb : (x == ("__debug__" : Str)) = false := by decide)
    (he : starEach (e :: es) X.env = (false, eval e X.env) :: starEach es X.env := by rfl) (hpl : (backTo pos (starEach es X.env)).any (·.1) = false := by rfl) : PE X (.Call (.Name x p) (e :: es) [] pos) (tCB r t) := by
  intro pins s σ H Q I h
  refine wpAny_Call_Name_kw (ld_blt I hg hm hv ?_ hn hdb)
  exact PyProof.Rows.callWith_type1 (thn (ha pos pins s σ H _ I h) fun us s1 ⟨vs, H1, I1, r1, q1⟩ => hc pins s1 σ H1 vs us Q I1 r1 q1) he hpl
end
end L2

namespace HT
open PySem PyProof.Rows

section
open PySem.SeqAt
open PySem.AutoSeq1 (wpAny_loadPart')
open PySem.MeetsSeq PySem.MeetsSeq2 PySem.MeetsSeq3

end

section
variable {prog : Program} {w : World} {A : Around} {E : Value → Shared → Prop} {s : Shared}

/-- t + u, t not empty -/
theorem cat_tup {t b : Addr} {vs ws : List Value} {Q : Value → Shared → Prop} (ht : IsTup s.heap t vs.toArray) (hb : IsTup s.heap b ws.toArray) (hv : vs ≠ [])
    (h1 : ws = [] → Q (.ref t) s) (h2 : ws ≠ [] → Q (.ref s.heap.objs.size) { s with heap := s.heap.push { cls := .type "tuple", data := .seq (vs ++ ws).toArray } })
    (hsz : vs.length + ws.length ≤ sizeLine) : wpAny (model prog w) A (binaryOp .Add (.ref t) (.ref b)) Q E s := by
  obtain ⟨⟨cls, dd, data, sl⟩, ho, hc, n, hd⟩ := id ht
  obtain ⟨⟨cls2, dd2, data2, sl2⟩, ho2, hc2, n2, hd2⟩ := id hb
  simp only at hc hd hc2 hd2
  subst hc hd hc2 hd2
  have e : vs.toArray ++ ws.toArray = (vs ++ ws).toArray := by simp
  by_cases hw : ws = []
  · exact concat_meets ⟨_, ho, rfl⟩ ⟨_, ho2, rfl⟩ noFill_tuple_add seq_tuple_add PySem.F.slot_tuple_add PySem.F.entry_tuple_add (PySem.F.args_tuple_add_2 _ _)
      (tuple_addW1 t b vs.toArray ws.toArray n n2 dd dd2 sl sl2 (by simpa using hv) (by simp [hw])) ⟨ho, ho2, h1 hw⟩
  · refine concat_meets ⟨_, ho, rfl⟩ ⟨_, ho2, rfl⟩ noFill_tuple_add seq_tuple_add PySem.F.slot_tuple_add PySem.F.entry_tuple_add (PySem.F.args_tuple_add_2 _ _)
      (tuple_addW2 t b vs.toArray ws.toArray n n2 dd dd2 sl sl2 (by simpa using hv) (by simpa using hw) (by rw [List.size_toArray, List.size_toArray]; exact hsz)) ⟨ho, ho2, ?_⟩
    rw [e]
    exact h2 hw

/-! ### t[a:b], not the whole -/
/-- a slice's bound as a place among n (d where it is left out) -/
def sIx (n d : Nat) : Option Int → Nat
  | none => d
  | some v => if v < 0 then (v + (n : Int)).toNat else min v.toNat n
theorem sIx_le (n d : Nat) (hd : d ≤ n) (o : Option Int) : sIx n d o ≤ n := by
  cases o with
  | none => exact hd
  | some v =>
    show (if v < 0 then (v + (n : Int)).toNat else min v.toNat n) ≤ n
    by_cases hv : v < 0
    · rw [if_pos hv]; omega
    · rw [if_neg hv]; exact Nat.min_le_right _ _
theorem clip_eq (v : Int) (n d : Nat) : (if v < 0 then max (v + (n : Int)) 0 else min v (n : Int)) = ((sIx n d (some v) : Nat) : Int) := by
  show (if v < 0 then max (v + (n : Int)) 0 else min v (n : Int)) = (((if v < 0 then (v + (n : Int)).toNat else min v.toNat n) : Nat) : Int)
  by_cases hv : v < 0
  · simp only [if_pos hv]; omega
  · simp only [if_neg hv]; omega
theorem adjust_gen (lo hi : Option Int) (n : Nat) : Builtin.Slice.sliceAdjust lo hi 1 (n : Int) = (((sIx n 0 lo : Nat) : Int), ((sIx n n hi : Nat) : Int)) := by
  have h1 : ¬ ((1 : Int) < 0) := by omega
  unfold Builtin.Slice.sliceAdjust
  simp only [h1, if_false]
  refine Prod.ext ?_ ?_
  · cases lo with
    | none => rfl
    | some v => exact clip_eq v n 0
  · cases hi with
    | none => rfl
    | some v => exact clip_eq v n n
theorem places_gen (i j : Nat) : Builtin.Slice.slicePlaces (i : Int) (j : Int) 1 = j - i := by
  unfold Builtin.Slice.slicePlaces
  have h1 : (1 : Int) > 0 := by omega
  simp only [h1, if_true, Int.ediv_one]
  split <;> omega
theorem slicePart_ {v : Value} {o : Option Int} {Q : Option Int → Shared → Prop} (p : IsPart v o) (h : Q o s) : wpAny (model prog w) A (Builtin.Slice.slicePartIndex v) Q E s := by
  cases p with
  | none => exact slicePart_none h
  | int i t => exact slicePart_int h
theorem sliceApplied_gen {sl : Addr} {vl vu : Value} {lo hi : Option Int} {n : Nat} {Q : Int × Int × Nat → Shared → Prop} (hs : s.heap.IsSliceOf sl vl vu .none) (pl : IsPart vl lo) (pu : IsPart vu hi)
    (h : Q (((sIx n 0 lo : Nat) : Int), 1, sIx n n hi - sIx n 0 lo) s) : wpAny (model prog w) A (Builtin.Slice.sliceApplied (.ref sl) (pure (n : Int))) Q E s := by
  obtain ⟨os, hos, hcs, hds⟩ := id hs
  unfold Builtin.Slice.sliceApplied Builtin.Slice.sliceFields
  refine wpAny_bind (wpAny_bind (wpAny_field hos hds (x := vl) rfl (wpAny_bind (wpAny_field hos hds (x := vu) rfl (wpAny_bind (wpAny_field hos hds (x := .none) rfl (wpAny_pure ?_)))))))
  refine wpAny_bind (slicePart_none ?_)
  show wpAny _ _ (if ((1 : Int) == 0) = true then _ else _) _ _ s
  rw [if_neg (by decide)]
  refine wpAny_bind (slicePart_ pl (wpAny_bind (slicePart_ pu (wpAny_bind (wpAny_pure ?_)))))
  show wpAny _ _ (match Builtin.Slice.sliceAdjust lo hi 1 (n : Int) with | (lo, hi) => pure (lo, (1 : Int), Builtin.Slice.slicePlaces lo hi 1)) _ _ s
  rw [adjust_gen lo hi n]
  show wpAny _ _ (pure (((sIx n 0 lo : Nat) : Int), (1 : Int), Builtin.Slice.slicePlaces ((sIx n 0 lo : Nat) : Int) ((sIx n n hi : Nat) : Int) 1)) _ _ s
  rw [places_gen]
  exact wpAny_pure h
theorem pick_gen (xs : Array Value) (i k : Nat) : ((List.range k).filterMap fun (m : Nat) => xs[((i : Int) + (m : Int) * 1).toNat]?).toArray = ((xs.toList.drop i).take k).toArray := by
  have e : (fun (m : Nat) => xs[((i : Int) + (m : Int) * 1).toNat]?) = fun m => xs[i + m]? := by
    funext m
    have : ((i : Int) + (m : Int) * 1).toNat = i + m := by omega
    rw [this]
  rw [e]
  have := pick_run xs i k
  rw [List.filterMap_map] at this
  have e2 : ((fun x => xs[x]?) ∘ fun x => i + x) = fun m => xs[i + m]? := rfl
  rw [e2] at this
  rw [this]

theorem getItem_tuple_cut {t sl : Addr} {items : Array Value} {vl vu : Value} {lo hi : Option Int} {Q : Value → Shared → Prop} (ht : IsTup s.heap t items) (hs : s.heap.IsSliceOf sl vl vu .none) (pl : IsPart vl lo) (pu : IsPart vu hi)
    (hw : ¬ (sIx items.size 0 lo = 0 ∧ sIx items.size items.size hi = items.size))
    (h : Q (.ref s.heap.objs.size) { s with heap := s.heap.push { cls := .type "tuple", data := .seq ((items.toList.drop (sIx items.size 0 lo)).take (sIx items.size items.size hi - sIx items.size 0 lo)).toArray } })
    (hsz : items.size ≤ sizeLine) : wpAny (model prog w) A (getItem (.ref t) (.ref sl)) Q E s := by
  have htake : sizeOk (.seq ((items.toList.drop (sIx items.size 0 lo)).take (sIx items.size items.size hi - sIx items.size 0 lo)).toArray) := by
    show ((items.toList.drop (sIx items.size 0 lo)).take (sIx items.size items.size hi - sIx items.size 0 lo)).toArray.size ≤ sizeLine
    rw [List.size_toArray, List.length_take, List.length_drop, Array.length_toList]
    omega
  have hj : sIx items.size items.size hi ≤ items.size := sIx_le _ _ (Nat.le_refl _) hi
  obtain ⟨os, hos, hcs, hds⟩ := id hs
  have hTs : s.TypeIs (.ref sl) "slice" := ⟨os, hos, hcs⟩
  unfold getItem
  try with_reducible refine wpAny_holding ?_
  first | refine wpAny_bind (wpAny_pure ?_) | skip
  refine wpAny_bind (wpAny_sequenceKey ht.typeIs (by decide) ?_)
  refine wpAny_bind (wpAny_callSpecial?_slot (name := Str.ofString "__getitem__") ht.typeIs PyProof.Rows.slot_tuple_getitem
    (wpAny_call_entry PyProof.Rows.slot_tuple_getitem ht.typeIs entry_tuple_getitem ?_ (args_tuple_getitem _ _)))
  show wpAny _ _ (Builtin.Tuple.tupleItemsOf (.ref t) >>= _) _ _ s
  refine wpAny_bind (tupleItemsOf_ ht ?_)
  refine wpAny_bind (wpAny_typeOf hTs ?_)
  rw [if_pos (by decide)]
  refine wpAny_bind (sliceApplied_gen hs pl pu ?_)
  have hno : ¬ ((((sIx items.size 0 lo : Nat) : Int) == 0 && (1 : Int) == 1 && (sIx items.size items.size hi - sIx items.size 0 lo) == items.size) = true) := by
    intro q
    rw [Bool.and_eq_true, Bool.and_eq_true] at q
    have q1 : ((sIx items.size 0 lo : Nat) : Int) = 0 := eq_of_beq q.1.1
    have q2 : sIx items.size items.size hi - sIx items.size 0 lo = items.size := eq_of_beq q.2
    exact hw ⟨by omega, by omega⟩
  show wpAny _ _ (if (((sIx items.size 0 lo : Nat) : Int) == 0 && (1 : Int) == 1 && (sIx items.size items.size hi - sIx items.size 0 lo) == items.size) = true then _ else _) _ _ s
  rw [if_neg hno, pick_gen]
  first
    | exact wpAny_bind (m := Builtin.Tuple.tupleExact _) (wpAny_newObj_type (wpAny_pure ⟨_, rfl, wpAny_pure h⟩) htake)
    | exact wpAny_bind (m := Builtin.Tuple.tupleExact _) (wpAny_newObj_type (wpAny_bind (wpAny_pure (wpAny_pure ⟨_, rfl, wpAny_pure h⟩))) htake)
    | exact wpAny_bind (wpAny_bind (m := Builtin.Tuple.tupleExact _) (wpAny_newObj_type (wpAny_pure (wpAny_pure ⟨_, rfl, wpAny_pure h⟩)) htake))
    | exact wpAny_bind (wpAny_bind (m := Builtin.Tuple.tupleExact _) (wpAny_newObj_type (wpAny_pure ⟨_, rfl, wpAny_pure h⟩) htake))
end
end HT

namespace L2
open PySem PySem.Spec PyProof.Rows

/-! ### the parts of a slice -/
abbrev TO := St → Hp → (Option Int → Hp → Prop) → Prop
/-- a slice's part (left out, or an int) -/
def PO (X : Cx) (e : Option Expr) (t : TO) : Prop :=
  ∀ (pins : List (Addr × Obj)) (s : Shared) (σ : St) (H : Hp) (Q : Option Int → Hp → Prop), Inv X pins σ H s → t σ H Q →
    wpAny (model X.prog X.w) X.A (evalPart e X.env) (fun u s' => ∃ o H', Inv X pins σ H' s' ∧ IsPart u o ∧ Q o H') X.xe s
def tNoPart : TO := fun _ H Q => Q none H
def tPart (t : TE) : TO := fun σ H Q => t σ H fun x H1 => ∃ i, x = .int i ∧ Q (some i) H1

section
variable {X : Cx} {e : Expr} {te : TE} {lo hi : Option Expr} {tl th : TO} {pos p2 : Pos}

theorem po_none : PO X none tNoPart := by
  intro pins s σ H Q I h
  rw [evalPart_none]
  exact wpAny_pure ⟨none, H, I, .none, h⟩
theorem po_some (h : PE X e te) : PO X (some e) (tPart te) := by
  intro pins s σ H Q I hw
  rw [evalPart_some]
  refine thn (h pins s σ H _ I hw) fun u s1 ⟨x, H1, I1, r1, q1⟩ => ?_
  obtain ⟨i, rfl, q⟩ := q1
  obtain ⟨t, rfl⟩ := r1
  exact ⟨some i, H1, I1, .int i t, q⟩

/-- what a slice of a value is, by values: the slice object stands at sl -/
def SlR (X : Cx) (r : V → Option Int → Option Int → Hp → VK → Prop) : Prop :=
  ∀ (pins : List (Addr × Obj)) (s : Shared) (σ : St) (H : Hp) (x : V) (v vl vu : Value) (lo hi : Option Int) (sl : Addr) (Q : VK), Inv X pins σ H s → RelV x v → s.heap.IsSliceOf sl vl vu .none → IsPart vl lo → IsPart vu hi → r x lo hi H Q →
    ∃ T id, typeLookup (.type T) "__getitem__" = pure (some (.builtin id)) ∧ s.TypeIs v T ∧ wpAny (model X.prog X.w) X.A (getItem v (.ref sl)) (EP X pins σ Q) X.xe s
def tSl (r : V → Option Int → Option Int → Hp → VK → Prop) (te : TE) (tl th : TO) : TE := fun σ H Q => te σ H fun x H1 => tl σ H1 fun l H2 => th σ H2 fun u H3 => r x l u H3 Q
/-- a[lo:hi], any a -/
theorem pe_slice {r : V → Option Int → Option Int → Hp → VK → Prop} (hr : SlR X r) (he : PE X e te) (hl : PO X lo tl) (hu : PO X hi th) : PE X (.Subscript e (.Slice lo hi none p2) pos) (tSl r te tl th) := by
  intro pins s σ H Q I h
  refine Subscript_ (thn (he pins s σ H _ I h) fun v s1 ⟨x, H1, I1, r1, q1⟩ => ?_)
  refine wpAny_Slice (thn (hl pins s1 σ H1 _ I1 q1) fun vl s2 ⟨l, H2, I2, pl, q2⟩ => thn (hu pins s2 σ H2 _ I2 q2) fun vu s3 ⟨u, H3, I3, pu, q3⟩ => ?_)
  rw [evalPart_none]
  refine wpAny_pure ?_
  have I4 : Inv X pins σ H3 { s3 with heap := s3.heap.push { cls := .type "slice", data := .fields #[vl, vu, .none] } } := I3.kept (t' := s3.toks) fun b ob q => Heap.get?_push_of_some _ q
  obtain ⟨T, id, hT, ht, hg⟩ := hr pins { s3 with heap := s3.heap.push { cls := .type "slice", data := .fields #[vl, vu, .none] } } σ H3 x v vl vu l u s3.heap.objs.size Q I4 r1 (Heap.IsSliceOf.new ..) pl pu q3
  show wpAny (model X.prog X.w) X.A (subscriptTail e (.Slice lo hi none p2) v (.ref s3.heap.objs.size)) (EP X pins σ Q) X.xe { s3 with heap := s3.heap.push { cls := .type "slice", data := .fields #[vl, vu, .none] } }
  exact tail_any (ops := [.ref s3.heap.objs.size, v]) ht hT hg (by with_unfolding_all rfl)

/-- the items of xs[lo:hi] -/
def cutV (xs : List V) (lo hi : Option Int) : List V := (xs.drop (HT.sIx xs.length 0 lo)).take (HT.sIx xs.length xs.length hi - HT.sIx xs.length 0 lo)
theorem cutV_length (xs : List V) (lo hi : Option Int) : (cutV xs lo hi).length ≤ xs.length := by
  unfold cutV
  rw [List.length_take, List.length_drop]
  omega
/-- t[lo:hi], not the whole of it (the whole would be t itself) -/
def rSlT (K : PySem.W.Frag) : V → Option Int → Option Int → Hp → VK → Prop := fun x lo hi H Q => ∃ a xs, x = .ref a ∧ SqT K H a xs ∧
  ¬ (HT.sIx xs.length 0 lo = 0 ∧ HT.sIx xs.length xs.length hi = xs.length) ∧ ∀ p, H p = none → Q (.ref p) (upd H p (.tup (cutV xs lo hi)))
theorem sl_tup : SlR X (rSlT X.K) := by
  intro pins s σ H x v vl vu lo hi sl Q I rx hs pl pu h
  obtain ⟨a, xs, rfl, hx, hw, q⟩ := h
  cases rx
  obtain ⟨its, r, ht, hz⟩ := I.tuple hx
  have hlen : its.toArray.size = xs.length := by rw [List.size_toArray]; exact r.length.symm
  refine ⟨"tuple", _, PyProof.Rows.slot_tuple_getitem.lookup, ht.typeIs, ?_⟩
  refine HT.getItem_tuple_cut ht hs pl pu (by rw [hlen]; exact hw) ?_ (by rw [hlen]; exact hz)
  rw [hlen]
  refine ⟨.ref s.heap.objs.size, _, I.laid (t' := s.toks) (o := .tup (cutV xs lo hi)) (fun b ob q => Heap.get?_push_of_some _ q) (Nat.le_refl _) ?_, rfl, q _ (I.hok.fresh (Nat.le_refl _))⟩
  exact ⟨Nat.le_trans (cutV_length xs lo hi) hz, _, (r.drop (HT.sIx xs.length 0 lo)).take (HT.sIx xs.length xs.length hi - HT.sIx xs.length 0 lo), IsTup.new _ _⟩

/-! ### t < u, t + u -/
/-- t + u, t not empty: u empty gives t itself -/
def rCatT (K : PySem.W.Frag) : R2 := fun x y H Q => ∃ a b xs ys, x = .ref a ∧ y = .ref b ∧ SqT K H a xs ∧ SqT K H b ys ∧ xs ≠ [] ∧ xs.length + ys.length ≤ sizeLine ∧
  (ys = [] → Q (.ref a) H) ∧ (ys ≠ [] → ∀ p, H p = none → Q (.ref p) (upd H p (.tup (xs ++ ys))))
theorem Vals.nil_iff {xs : List V} {us : List Value} (r : Vals xs us) : us = [] ↔ xs = [] := by
  cases r with
  | nil => simp
  | cons _ _ => simp
theorem op_catT : OpR X (binaryOp .Add) (rCatT X.K) := by
  intro pins s σ H x y v u Q I rx ry h
  obtain ⟨a, b, xs, ys, rfl, rfl, ha, hb, hx, hz, q1, q2⟩ := h
  cases rx
  cases ry
  obtain ⟨its, r1, p1, _⟩ := I.tuple ha
  obtain ⟨its2, r2, p2, _⟩ := I.tuple hb
  refine HT.cat_tup p1 p2 (fun z => hx (r1.nil_iff.mp z)) (fun z => ⟨.ref a, H, I, rfl, q1 (r2.nil_iff.mp z)⟩) (fun z => ?_) (by rw [← r1.length, ← r2.length]; exact hz)
  refine ⟨.ref s.heap.objs.size, _, I.laid (t' := s.toks) (o := .tup (xs ++ ys)) (fun b ob q => Heap.get?_push_of_some _ q) (Nat.le_refl _) ?_, rfl, q2 (fun w => z (r2.nil_iff.mpr w)) _ (I.hok.fresh (Nat.le_refl _))⟩
  exact ⟨by rw [List.length_append]; exact hz, _, r1.append r2, IsTup.new _ _⟩
end
end L2

namespace L2
open PySem PySem.Spec PyProof.Rows

/-! ### places -/
/-- the place that an index of any sign means -/
def ixN (n : Nat) (i : Int) : Option Nat := if 0 ≤ i then (if i < n then some i.toNat else none) else if -(n : Int) ≤ i then some (i + n).toNat else none
def atI {α : Type} (xs : List α) (i : Int) : Option α := (ixN xs.length i).bind fun j => xs[j]?
theorem ixN_seq {n : Nat} {i : Int} {j : Nat} (h : ixN n i = some j) : seqIndex? i n = some j ∧ j < n ∧ -(n : Int) ≤ i ∧ i < n := by
  unfold ixN at h
  by_cases h0 : 0 ≤ i
  · rw [if_pos h0] at h
    by_cases h1 : i < n
    · rw [if_pos h1] at h
      have e : i.toNat = j := Option.some.inj h
      exact ⟨by rw [seqIndex_of h0 h1, e], by omega, by omega, h1⟩
    · rw [if_neg h1] at h; cases h
  · rw [if_neg h0] at h
    by_cases h1 : -(n : Int) ≤ i
    · rw [if_pos h1] at h
      have e : (i + n).toNat = j := Option.some.inj h
      exact ⟨by rw [seqIndex_neg (by omega) h1, e], by omega, h1, by omega⟩
    · rw [if_neg h1] at h; cases h
theorem atI_get {α : Type} {xs : List α} {i : Int} {v : α} (h : atI xs i = some v) : ∃ j, seqIndex? i xs.length = some j ∧ xs[j]? = some v ∧ j < xs.length ∧ -(xs.length : Int) ≤ i ∧ i < xs.length := by
  unfold atI at h
  cases e : ixN xs.length i with
  | none => rw [e] at h; cases h
  | some j =>
    rw [e] at h
    obtain ⟨h1, h2, h3, h4⟩ := ixN_seq e
    exact ⟨j, h1, h, h2, h3, h4⟩
theorem atI_nat {α : Type} {xs : List α} {j : Nat} {v : α} (h : xs[j]? = some v) : atI xs (j : Int) = some v := by
  have hj : j < xs.length := (List.getElem?_eq_some_iff.mp h).1
  have e : ixN xs.length (j : Int) = some j := by
    unfold ixN
    rw [if_pos (by omega), if_pos (by omega)]; simp
  unfold atI; rw [e]; exact h
/-! ### what may be subscripted -/
/-- what stands as an index of a plain subscript -/
def PlainIx (b : Expr) : Prop := ∀ o i, subscripted b false o i = operate [o, i] (getItem o i)
/-- a subscript by values -/
def IxR (X : Cx) (r : R2) : Prop :=
  ∀ (value slice : Expr) (pins : List (Addr × Obj)) (s : Shared) (σ : St) (H : Hp) (x y : V) (v u : Value) (Q : VK), Inv X pins σ H s → RelV x v → RelV y u → r x y H Q →
    subscripted slice false v u = operate [v, u] (getItem v u) → wpAny (model X.prog X.w) X.A (subscriptTail value slice v u) (EP X pins σ Q) X.xe s
/-- a call of a builtin's method by values: the receiver, the arguments -/
def MtR (X : Cx) (id : String) (r : V → List V → Hp → VK → Prop) : Prop :=
  ∀ (pins : List (Addr × Obj)) (s : Shared) (σ : St) (H : Hp) (x : V) (xs : List V) (v : Value) (us : List Value) (Q : VK), Inv X pins σ H s → RelV x v → Vals xs us → r x xs H Q →
    wpAny (model X.prog X.w) X.A (call (.builtin id) (v :: us)) (EP X pins σ Q) X.xe s
section
variable {X : Cx} {a b : Expr} {ta tb : TE} {pos : Pos}
/-- a[b] -/
theorem pe_ix {r : R2} (hr : IxR X r) (ha : PE X a ta) (hb : PE X b tb) (hs : PlainIx b) : PE X (.Subscript a b pos) (tOp r ta tb) := by
  intro pins s σ H Q I h
  exact Subscript_ (binT ha hb I h fun v u s2 x y H2 I2 rx ry q => hr a b pins s2 σ H2 x y v u Q I2 rx ry q (hs _ _))

def rIxL (K : PySem.W.Frag) : R2 := fun x y H Q => ∃ p xs i v, x = .ref p ∧ y = .int i ∧ SqL K H p xs ∧ atI xs i = some v ∧ Q v H
def rIxT (K : PySem.W.Frag) : R2 := fun x y H Q => ∃ p xs i v, x = .ref p ∧ y = .int i ∧ SqT K H p xs ∧ atI xs i = some v ∧ Q v H
def rIxS : R2 := fun x y H Q => ∃ z i c, x = .str z ∧ y = .int i ∧ z.length ≤ sizeLine ∧ atI z.cps.toList i = some c ∧ Q (.str ⟨#[c]⟩) H
theorem ix_list : IxR X (rIxL X.K) := by
  intro value slice pins s σ H x y v u Q I rx ry h hs
  obtain ⟨p, xs, i, z, rfl, rfl, hq, he, q⟩ := h
  cases rx
  obtain ⟨t, rfl⟩ := ry
  obtain ⟨its, r, pl, hz⟩ := I.list hq
  obtain ⟨j, h1, h2, h3, h4, h5⟩ := atI_get he
  obtain ⟨w, ew, rw'⟩ := r.get h2
  have hl := r.length
  have hn := line63
  have fin : EP X pins σ Q w s := ⟨z, H, I, rw', q⟩
  by_cases h0 : 0 ≤ i
  · have hj : i.toNat = j := by
      rw [seqIndex_of h0 h5] at h1
      exact Option.some.inj h1
    exact item_listR pl.isList h0 (by omega) (by rw [hj]; simpa using ew) fin hs
  · have hj : (i + (its.toArray.size : Int)).toNat = j := by
      rw [seqIndex_neg (by omega) h4] at h1
      rw [List.size_toArray, ← hl]
      exact Option.some.inj h1
    exact subscriptTail_builtinR (x := w) pl.isList.typeIs slot_list_getitem.lookup
      (wpAny_getItem_list_neg (Q := fun r s' => r = w ∧ EP X pins σ Q r s') pl.isList (by omega) (by rw [List.size_toArray] <;> omega) (by omega) (by rw [hj]; simpa using ew) ⟨rfl, fin⟩) hs
theorem ix_tup : IxR X (rIxT X.K) := by
  intro value slice pins s σ H x y v u Q I rx ry h hs
  obtain ⟨p, xs, i, z, rfl, rfl, hq, he, q⟩ := h
  cases rx
  obtain ⟨t, rfl⟩ := ry
  obtain ⟨its, r, pl, hz⟩ := I.tuple hq
  obtain ⟨j, h1, h2, h3, h4, h5⟩ := atI_get he
  obtain ⟨w, ew, rw'⟩ := r.get h2
  have hl := r.length
  have hn := line63
  have fin : EP X pins σ Q w s := ⟨z, H, I, rw', q⟩
  exact subscriptTail_builtinR (x := w) pl.typeIs slot_tuple_getitem.lookup
    (getItem_tuple (j := j) (Q := fun r s' => r = w ∧ EP X pins σ Q r s') pl (by omega) (by omega) (by rw [List.size_toArray, ← hl]; exact h1) (by simpa using ew) ⟨rfl, fin⟩) hs
theorem ix_str : IxR X rIxS := by
  intro value slice pins s σ H x y v u Q I rx ry h hs
  obtain ⟨z, i, c, rfl, rfl, hz, he, q⟩ := h
  obtain ⟨t, rfl⟩ := rx
  obtain ⟨t', rfl⟩ := ry
  obtain ⟨j, h1, h2, h3, h4, h5⟩ := atI_get he
  have hl : z.cps.toList.length = z.length := by simp [Str.length]
  rw [hl] at h1 h4 h5
  have hn := line63
  exact tail_any (typeIs_str s z t) slot_str_getitem.lookup (getItem_str (c := c) (by
    have e1 : decide (i < -(2 ^ 63 : Int)) = false := decide_eq_false (by omega)
    have e2 : decide (i ≥ 2 ^ 63) = false := decide_eq_false (by omega)
    rw [e1, e2, Bool.or_false]) (by rw [h1]; simpa using h2) ⟨.str ⟨#[c]⟩, H, I.tok _, ⟨_, rfl⟩, q⟩) hs
/-! ### xs[i] = v, any sign -/
/-- the list's object behind a store -/
theorem mapSeq_set (its : List Value) (n j : Nat) (u : Value) : Obj.mapSeq (·.setIfInBounds j u) { cls := .type "list", data := .seq its.toArray n } = { cls := .type "list", data := .seq (its.set j u).toArray n } := by
  simp [Obj.mapSeq]
theorem Inv.lst {pins : List (Addr × Obj)} {σ : St} {H : Hp} {s : Shared} {p : Addr} {xs : List V} (I : Inv X pins σ H s) (h : H p = some (.lst xs)) :
    ∃ (its : List Value) (n : Nat), Vals xs its ∧ s.heap.get? p = some { cls := .type "list", data := .seq its.toArray n } ∧ xs.length ≤ sizeLine := by
  obtain ⟨z, its, n, r, e⟩ := I.hok p _ h
  exact ⟨its, n, r, e, z⟩
/-- the list at p is written by an update of its object -/
theorem Inv.lstUpd {pins : List (Addr × Obj)} {σ : St} {H : Hp} {s : Shared} {p : Addr} {xs ys : List V} {its its' : List Value} {n n' : Nat} {f : Obj → Obj} (I : Inv X pins σ H s) (h : H p = some (.lst xs))
    (ho : s.heap.get? p = some { cls := .type "list", data := .seq its.toArray n }) (hf : f { cls := .type "list", data := .seq its.toArray n } = { cls := .type "list", data := .seq its'.toArray n' }) (r : Vals ys its') (hz : ys.length ≤ sizeLine) (t : Nat) :
    Inv X pins σ (upd H p (.lst ys)) { s with heap := s.heap.update p f, toks := t } := by
  have e : (s.heap.update p f).get? p = some { cls := .type "list", data := .seq its'.toArray n' } := by
    rw [Heap.get?_update_self f ho (by rw [hf] <;> rfl), hf]
  refine I.write (x := p) (e := p) (by rw [h]; trivial) (.inl rfl) (fun b u hb q => (Heap.get?_update_other _ _ (Ne.symm hb)).trans q) ⟨_, e⟩ ?_
  exact ⟨hz, its', n', r, e⟩
def rSetL : V → V → V → Hp → (Hp → Prop) → Prop := fun o i v H Q => ∃ p xs k j, o = .ref p ∧ i = .int k ∧ H p = some (.lst xs) ∧ ixN xs.length k = some j ∧ Q (upd H p (.lst (xs.set j v)))
theorem set_list : PSet X rSetL := by
  intro pins s σ H o i v ov iv u Q I ro ri rv h
  obtain ⟨p, xs, k, j, rfl, rfl, hp, hj, q⟩ := h
  cases ro
  obtain ⟨t, rfl⟩ := ri
  obtain ⟨its, n, r, ho, hz⟩ := I.lst hp
  obtain ⟨h1, h2, h3, h4⟩ := ixN_seq hj
  have hl := r.length
  have hn := line63
  have I' : Inv X pins σ (upd H p (.lst (xs.set j v))) { s with heap := s.heap.update p (Obj.mapSeq (·.setIfInBounds j u)) } :=
    I.lstUpd hp ho (mapSeq_set its n j u) (r.set rv j) (by rw [List.length_set]; exact hz) s.toks
  by_cases h0 : 0 ≤ k
  · have hk : k.toNat = j := by
      rw [seqIndex_of h0 h4] at h1
      exact Option.some.inj h1
    exact PySem.W.ki_setAt ho h0 (by omega) (by rw [List.size_toArray, ← hl]; exact h4) (by rw [hk]; exact ⟨_, I', q⟩)
  · have hk : (k + (its.toArray.size : Int)).toNat = j := by
      rw [seqIndex_neg (by omega) h3] at h1
      rw [List.size_toArray, ← hl]
      exact Option.some.inj h1
    exact PySem.W.ki_setBack ho (by omega) (by rw [List.size_toArray, ← hl]; exact h3) (by omega) (by rw [hk]; exact ⟨_, I', q⟩)

/-! ### slices -/
/-! ### in, not in: flat items -/
def flatV : V → Bool
  | .non => true
  | .bl _ => true
  | .int _ => true
  | .str _ => true
  | _ => false
/-- == of flat values -/
def eqV : V → V → Bool
  | .non, .non => true
  | .bl a, .bl b => a == b
  | .bl a, .int b => (if a then 1 else 0) == b
  | .int a, .bl b => a == (if b then 1 else 0)
  | .int a, .int b => a == b
  | .str a, .str b => a == b
  | _, _ => false
theorem eqAt_V {A : Around} {s : Shared} {y x : V} {u v : Value} (ry : RelV y u) (rx : RelV x v) (fy : flatV y = true) (fx : flatV x = true) : SeqAt.EqAt A s u v (eqV y x) := by
  cases y with
  | non =>
    cases ry
    cases x with
    | non => cases rx; exact SeqAt.EqAt.same _
    | bl b => cases rx; exact SeqAt.EqAt.none_bool b
    | int b => obtain ⟨t, rfl⟩ := rx; exact SeqAt.EqAt.none_int b t
    | str b => obtain ⟨t, rfl⟩ := rx; exact SeqAt.EqAt.none_str b t
    | _ => exact absurd (show false = true from fx) Bool.false_ne_true
  | bl a =>
    cases ry
    cases x with
    | non => cases rx; exact SeqAt.EqAt.bool_none a
    | bl b => cases rx; exact SeqAt.EqAt.bool_bool a b
    | int b => obtain ⟨t, rfl⟩ := rx; exact SeqAt.EqAt.bool_int a b t
    | str b => obtain ⟨t, rfl⟩ := rx; exact SeqAt.EqAt.bool_str a b t
    | _ => exact absurd (show false = true from fx) Bool.false_ne_true
  | int a =>
    obtain ⟨t', rfl⟩ := ry
    cases x with
    | non => cases rx; exact SeqAt.EqAt.int_none a t'
    | bl b => cases rx; exact SeqAt.EqAt.int_bool a t' b
    | int b => obtain ⟨t, rfl⟩ := rx; exact SeqAt.EqAt.int_int a t' b t
    | str b => obtain ⟨t, rfl⟩ := rx; exact SeqAt.EqAt.int_str a t' b t
    | _ => exact absurd (show false = true from fx) Bool.false_ne_true
  | str a =>
    obtain ⟨t', rfl⟩ := ry
    cases x with
    | non => cases rx; exact SeqAt.EqAt.str_none a t'
    | bl b => cases rx; exact SeqAt.EqAt.str_bool a t' b
    | int b => obtain ⟨t, rfl⟩ := rx; exact SeqAt.EqAt.str_int a t' b t
    | str b => obtain ⟨t, rfl⟩ := rx; exact SeqAt.EqAt.str_str a t' b t
    | _ => exact absurd (show false = true from fx) Bool.false_ne_true
  | _ => exact absurd (show false = true from fy) Bool.false_ne_true
/-- the items' answers, read off the values (a value's own answer does not lean on its token) -/
def eqU (x : V) (u : Value) : Bool := match u with
  | .none => eqV .non x
  | .bool b => eqV (.bl b) x
  | .int i _ => eqV (.int i) x
  | .str z _ => eqV (.str z) x
  | _ => false
theorem eqU_of {x y : V} {u : Value} (r : RelV y u) (f : flatV y = true) : eqU x u = eqV y x := by
  cases y with
  | non => cases r; rfl
  | bl b => cases r; rfl
  | int i => obtain ⟨t, rfl⟩ := r; rfl
  | str z => obtain ⟨t, rfl⟩ := r; rfl
  | _ => exact absurd (show false = true from f) Bool.false_ne_true
theorem any_eqU {x : V} : ∀ {xs : List V} {us : List Value}, Vals xs us → xs.all flatV = true → us.any (eqU x) = xs.any fun y => eqV y x
  | _, _, .nil, _ => rfl
  | y :: xs, u :: us, .cons r t, f => by
    rw [List.all_cons, Bool.and_eq_true] at f
    rw [List.any_cons, List.any_cons, eqU_of r f.1, any_eqU t f.2]
theorem mem_eqAt {A : Around} {s : Shared} {x : V} {v : Value} (rx : RelV x v) (fx : flatV x = true) : ∀ {xs : List V} {us : List Value}, Vals xs us → xs.all flatV = true → ∀ u ∈ us, SeqAt.EqAt A s u v (eqU x u)
  | _, _, .nil, _ => fun u hu => by cases hu
  | y :: xs, u :: us, .cons r t, f => fun u' hu => by
    rw [List.all_cons, Bool.and_eq_true] at f
    rcases List.mem_cons.mp hu with rfl | hu
    · rw [eqU_of r f.1]; exact eqAt_V r rx f.1 fx
    · exact mem_eqAt rx fx t f.2 u' hu
def inV (x : V) (xs : List V) : Bool := xs.any fun y => eqV y x
/-- x in a list or tuple of flat items -/
def rIn (K : PySem.W.Frag) (neg : Bool) : R2 := fun x y H Q => ∃ p xs, y = .ref p ∧ (SqL K H p xs ∨ SqT K H p xs) ∧ flatV x = true ∧ xs.all flatV = true ∧ Q (.bl (if neg then !inV x xs else inV x xs)) H
theorem op_in_seq : OpR X (compareOp .In) (rIn X.K false) := by
  intro pins s σ H x y v u Q I rx ry h
  obtain ⟨p, xs, rfl, hq, fx, fs, q⟩ := h
  cases ry
  rcases hq with hq | hq
  · obtain ⟨its, r, pl, hz⟩ := I.list hq
    refine SeqAt.in_listAt (eqU x) pl.isList (fun w hw => mem_eqAt rx fx r fs w (by simpa using hw)) ⟨.bl _, H, I, rfl, ?_⟩
    rw [show its.toArray.any (eqU x) = its.any (eqU x) by simp, any_eqU r fs]
    exact q
  · obtain ⟨its, r, pl, hz⟩ := I.tuple hq
    refine SeqAt.in_tupleAt (eqU x) pl (fun w hw => mem_eqAt rx fx r fs w (by simpa using hw)) ⟨.bl _, H, I, rfl, ?_⟩
    rw [show its.toArray.any (eqU x) = its.any (eqU x) by simp, any_eqU r fs]
    exact q
theorem op_notIn_str : OpR X (compareOp .NotIn) (fun x y H Q => ∃ i j, x = .str i ∧ y = .str j ∧ Q (.bl (!(!(Builtin.Str.occurrences j i 0 j.length 1).isEmpty))) H) := by
  intro pins s σ H x y v u Q I rx ry h
  obtain ⟨i, j, rfl, rfl, q⟩ := h
  obtain ⟨t, rfl⟩ := rx
  obtain ⟨t', rfl⟩ := ry
  exact notIn_str ⟨.bl _, H, I, rfl, q⟩

/-! ### len, list(x), tuple(x) of any list or tuple that is read -/
theorem call_len_seq : CallR X (.builtin "len") (fun xs H Q => ∃ p ys, xs = [.ref p] ∧ (SqL X.K H p ys ∨ SqT X.K H p ys) ∧ Q (.int ys.length) H) := by
  intro pins s σ H xs us Q I r h
  obtain ⟨p, ys, rfl, hq, q⟩ := h
  obtain ⟨u, rfl, rx⟩ := vals1 r
  cases rx
  have hn := line63
  rcases hq with hq | hq
  · obtain ⟨its, r', pl, hz⟩ := I.list hq
    have hlen := r'.length
    exact Calls.call_len_list pl.isList (by simp only [List.size_toArray] <;> omega) ⟨.int ys.length, H, I.tok _, ⟨s.toks + 1, by rw [List.size_toArray, hlen]⟩, q⟩
  · obtain ⟨its, r', pl, hz⟩ := I.tuple hq
    have hlen := r'.length
    exact len_tuple pl (by simp only [List.size_toArray] <;> omega) ⟨.int ys.length, H, I.tok _, ⟨s.toks + 1, by rw [List.size_toArray, hlen]⟩, q⟩
theorem call_len_str : CallR X (.builtin "len") (fun xs H Q => ∃ z, xs = [.str z] ∧ z.length ≤ sizeLine ∧ Q (.int z.length) H) := by
  intro pins s σ H xs us Q I r h
  obtain ⟨z, rfl, hz, q⟩ := h
  obtain ⟨u, rfl, t, rfl⟩ := vals1 r
  have hn := line63
  exact len_str (by omega) ⟨.int z.length, H, I.tok _, ⟨_, rfl⟩, q⟩
theorem call_list_of : CallR X (.type "list") (fun xs H Q => ∃ p ys, xs = [.ref p] ∧ (SqL X.K H p ys ∨ SqT X.K H p ys) ∧ ∀ l, H l = none → Q (.ref l) (upd H l (.lst ys))) := by
  intro pins s σ H xs us Q I r h
  obtain ⟨p, ys, rfl, hq, q⟩ := h
  obtain ⟨u, rfl, rx⟩ := vals1 r
  cases rx
  have fin : ∀ (its : List Value), Vals ys its → ys.length ≤ sizeLine → ∀ (h' : Heap) (c' : Nat), (∀ b o', s.heap.get? b = some o' → h'.get? b = some o') →
      h'.get? s.heap.objs.size = some { cls := .type "list", dict := none, data := .seq its.toArray c', slots := #[] } → EP X pins σ Q (.ref s.heap.objs.size) { s with heap := h' } := fun its r' hz h' c' kp e =>
    ⟨.ref s.heap.objs.size, _, I.laid (t' := s.toks) kp (Nat.le_refl _) (show ObjOk X.prog X.w _ h' _ (.lst ys) from ⟨hz, its, c', r', e⟩), rfl, q _ (I.hok.fresh (Nat.le_refl _))⟩
  rcases hq with hq | hq
  · obtain ⟨its, r', pl, hz⟩ := I.list hq
    have hlen := r'.length
    obtain ⟨o, ho, hc, n, hd⟩ := pl.isList
    exact call_list_seq p (.inl rfl) ho hc hd (fun h' c' kp e => fin its r' hz h' c' kp e) (by simp only [List.size_toArray] <;> omega)
  · obtain ⟨its, r', pl, hz⟩ := I.tuple hq
    have hlen := r'.length
    obtain ⟨o, ho, hc, n, hd⟩ := pl
    exact call_list_seq p (.inr rfl) ho hc hd (fun h' c' kp e => fin its r' hz h' c' kp e) (by simp only [List.size_toArray] <;> omega)
/-! ### the call of a builtin's method: o.m(..) -/
/-- the value is of that builtin type -/
def tyV (K : PySem.W.Frag) (T : String) (x : V) (H : Hp) : Prop := match x with
  | .str _ => T = "str"
  | .int _ => T = "int"
  | .ref p => (T = "list" ∧ ∃ xs, SqL K H p xs) ∨ (T = "tuple" ∧ ∃ o, K.lookup p = some o ∧ o.cls = .type "tuple" ∧ o.dict = none) ∨
      (T = "dict" ∧ ((∃ kvs, H p = some (.dK kvs)) ∨ ∃ kvs, H p = some (.dT kvs))) ∨ (T = "set" ∧ ∃ S n, H p = some (.set S n))
  | _ => False
theorem tyV_is {pins : List (Addr × Obj)} {σ : St} {H : Hp} {s : Shared} {T : String} {x : V} {v : Value} (I : Inv X pins σ H s) (r : RelV x v) (ty : tyV X.K T x H) :
    s.TypeIs v T ∧ ∀ a, v = .ref a → ∃ ob, s.heap.get? a = some ob ∧ ob.dict = none := by
  cases x with
  | str z =>
    obtain ⟨t, rfl⟩ := r
    cases (show T = "str" from ty)
    exact ⟨typeIs_str s z t, fun _ e => nomatch e⟩
  | int i =>
    obtain ⟨t, rfl⟩ := r
    cases (show T = "int" from ty)
    exact ⟨typeIs_int s i t, fun _ e => nomatch e⟩
  | ref p =>
    cases r
    rcases ty with ⟨rfl, xs, hq⟩ | ⟨rfl, o, hk, hc, hd⟩ | ⟨rfl, hk⟩ | ⟨rfl, S, n, hk⟩
    · obtain ⟨its, _, pl, _⟩ := I.list hq
      refine ⟨pl.isList.typeIs, fun a e => ?_⟩
      cases e
      obtain ⟨o, n, e, c, hd, _⟩ := pl
      exact ⟨o, e, hd⟩
    · refine ⟨⟨o, I.kIn p o hk, hc⟩, fun a e => ?_⟩
      cases e
      exact ⟨o, I.kIn _ o hk, hd⟩
    · have z : ∃ o, s.heap.get? p = some o ∧ o.ExactDict := by
        rcases hk with ⟨kvs, hk⟩ | ⟨kvs, hk⟩
        · obtain ⟨_, _, _, _, o, _, _, e, ex, _⟩ := I.hok p _ hk
          exact ⟨o, e, ex⟩
        · obtain ⟨_, _, _, _, o, _, _, e, ex, _⟩ := I.hok p _ hk
          exact ⟨o, e, ex⟩
      obtain ⟨o, e, ex⟩ := z
      refine ⟨⟨o, e, ex.1⟩, fun a e2 => ?_⟩
      cases e2
      exact ⟨o, e, ex.2.1⟩
    · obtain ⟨o, _, _, _, e, ex, _⟩ := I.hok p _ hk
      refine ⟨⟨o, e, ex.1⟩, fun a e2 => ?_⟩
      cases e2
      exact ⟨o, e, ex.2.1⟩
  | _ => exact False.elim ty
def tBM0 (K : PySem.W.Frag) (T : String) (r : V → List V → Hp → VK → Prop) (to : TE) : TE := fun σ H Q => to σ H fun x H1 => tyV K T x H1 ∧ r x [] H1 Q
def tBM (K : PySem.W.Frag) (T : String) (r : V → List V → Hp → VK → Prop) (to : TE) (t : TA) : TE := fun σ H Q => to σ H fun x H1 => tyV K T x H1 ∧ t σ H1 fun xs H2 => r x xs H2 Q
variable {o e : Expr} {es : List Expr} {to : TE} {t : TA} {name : Str} {apos cpos : Pos} {T id : String} {r : V → List V → Hp → VK → Prop}
theorem pe_bm0 (pa : PlainAttrs T) (slot : Slot T name id) (hty : typeOf (.builtin id) = pure (.type "method_descriptor")) (hm : MtR X id r) (ho : PE X o to)
    (hbase : attributeBase o name X.env (eval o X.env) = eval o X.env := by rfl) (hline : (apos.endLine == cpos.line) = true := by rfl) : PE X (.Call (.Attribute o name apos) [] [] cpos) (tBM0 X.K T r to) := by
  intro pins s σ H Q I h
  refine wpAny_Call_method0_late hbase hline (thn (ho pins s σ H _ I h) fun v s1 ⟨x, H1, I1, r1, ty, q1⟩ => ?_)
  obtain ⟨h1, h2⟩ := tyV_is I1 r1 ty
  exact ⟨T, id, pa, slot, hty, h1, h2, Calls.callWith_builtin rfl (PySem.evalArgs_none (hm pins s1 σ H1 x [] v [] Q I1 r1 .nil q1))⟩
theorem pe_bm (pa : PlainAttrs T) (slot : Slot T name id) (hty : typeOf (.builtin id) = pure (.type "method_descriptor")) (hm : MtR X id r) (ho : PE X o to) (ha : PA X (e :: es) t)
    (hbase : attributeBase o name X.env (eval o X.env) = eval o X.env := by rfl)
    (hfew : ((backTo cpos (starEach (e :: es) X.env)).all (fun x => !x.1) && (backToKw cpos (keywordEach [] X.env)).all (fun x => x.1.isSome)
      && decide ((e :: es).length + ([] : List Keyword).length + (if ([] : List Keyword).isEmpty then 0 else 1) < 30)) = true := by rfl)
    (hline : (apos.endLine == cpos.line) = true := by rfl) (hs : starEach (e :: es) X.env = (false, eval e X.env) :: starEach es X.env := by rfl) (hplain : (backTo cpos (starEach es X.env)).any (·.1) = false := by rfl) :
    PE X (.Call (.Attribute o name apos) (e :: es) [] cpos) (tBM X.K T r to t) := by
  intro pins s σ H Q I h
  refine wpAny_Call_method_late hbase hfew hline rfl (thn (ho pins s σ H _ I h) fun v s1 ⟨x, H1, I1, r1, ty, q1⟩ => ?_)
  obtain ⟨h1, h2⟩ := tyV_is I1 r1 ty
  refine ⟨T, id, pa, slot, hty, h1, h2, ?_⟩
  have hA := ha cpos pins s1 σ H1 _ I1 q1
  rw [hs] at hA ⊢
  refine Calls.callWith_builtin (by show (false || (backTo cpos (starEach es X.env)).any (·.1)) = false; rw [hplain] <;> rfl) (Calls.evalArgs_plain ?_)
  exact thn hA fun us s2 ⟨vs, H2, I2, r2, q2⟩ => hm pins s2 σ H2 x vs v us Q I2 r1 r2 q2
/- xs.append(e), list.index on a module's tuple .. are MtR facts of 06m -/
end
end L2

namespace L2
open PySem PySem.Spec PyProof.Rows

def MtM (X : Cx) (id : String) (r : V → List V → Hp → VK → Prop) : Prop :=
  ∀ (pins : List (Addr × Obj)) (s : Shared) (σ : St) (H : Hp) (x : V) (xs : List V) (v : Value) (us : List Value) (Q : VK), Inv X pins σ H s → RelV x v → Vals xs us → r x xs H Q →
    wpAny (model X.prog X.w) X.A (call (.builtin id) (v :: us)) (EP X pins σ Q) X.xe s

/-! ### lists of values -/
theorem Vals.one : ∀ {x : V} {us : List Value}, Vals [x] us → ∃ u, us = [u] ∧ RelV x u
  | _, _, .cons r .nil => ⟨_, rfl, r⟩
theorem Vals.zero : ∀ {us : List Value}, Vals [] us → us = []
  | _, .nil => rfl
section
variable {X : Cx} {pins : List (Addr × Obj)} {σ : St} {H : Hp} {s : Shared} {l b : Addr} {xs ys zs : List V}

/-! ### the two steps: a tracked list is rewritten, a new list is laid -/
theorem Inv.lset {its its' : List Value} {n : Nat} {f : Array Value → Array Value} {t' : Nat} (I : Inv X pins σ H s) (hH : H l = some (.lst xs))
    (e : s.heap.get? l = some { cls := .type "list", data := .seq its.toArray n }) (hf : f its.toArray = its'.toArray) (hv : Vals ys its') (hz : ys.length ≤ sizeLine) :
    Inv X pins σ (upd H l (.lst ys)) { s with heap := s.heap.update l (Obj.mapSeq f), toks := t' } := by
  have q := PySem.IsL.update e f
  rw [hf] at q
  refine I.write (x := l) (e := l) (by rw [hH]; exact trivial) (.inl rfl) (fun b' u hb hu => (Heap.get?_update_other s.heap (Obj.mapSeq f) (Ne.symm hb)).trans hu) ⟨_, q⟩ ?_
  exact ⟨hz, its', _, hv, q⟩
theorem Inv.lstM (I : Inv X pins σ H s) (hH : H l = some (.lst xs)) : xs.length ≤ sizeLine ∧ ∃ (its : List Value) (n : Nat), Vals xs its ∧ xs.length = its.length ∧ s.heap.get? l = some { cls := .type "list", data := .seq its.toArray n } := by
  obtain ⟨z, its, n, r, e⟩ := I.hok l _ hH
  exact ⟨z, its, n, r, r.length, e⟩

end

section
variable {X : Cx}

/-! ### methods -/
def rAppend : V → List V → Hp → VK → Prop := fun x vs H Q => ∃ l xs y, x = .ref l ∧ vs = [y] ∧ H l = some (.lst xs) ∧ xs.length < sizeLine ∧ Q .non (upd H l (.lst (xs ++ [y])))
theorem mt_append : MtM X "list.append" rAppend := by
  intro pins s σ H x vs v us Q I rx rv h
  obtain ⟨l, xs, y, rfl, rfl, hH, hz, q⟩ := h
  cases rx
  obtain ⟨u, rfl, ru⟩ := rv.one
  obtain ⟨z, its, n, r, hl, e⟩ := I.lstM hH
  refine call_meets F.slot_list_append ⟨_, e, rfl⟩ F.entry_list_append (F.args_list_append_2 _ _) (PySem.list_append l its.toArray n u (by rw [List.size_toArray]; omega)) ⟨e, ?_⟩
  refine ⟨.non, _, I.lset (its' := its ++ [u]) hH e (by simp) (r.append (.cons ru .nil)) ?_, rfl, q⟩
  rw [List.length_append, List.length_singleton]
  omega

def rClear : V → List V → Hp → VK → Prop := fun x vs H Q => ∃ l xs, x = .ref l ∧ vs = [] ∧ H l = some (.lst xs) ∧ Q .non (upd H l (.lst []))
theorem mt_clear : MtM X "list.clear" rClear := by
  intro pins s σ H x vs v us Q I rx rv h
  obtain ⟨l, xs, rfl, rfl, hH, q⟩ := h
  cases rx
  have hus := rv.zero
  subst hus
  obtain ⟨z, its, n, r, hl, e⟩ := I.lstM hH
  refine call_meets F.slot_list_clear ⟨_, e, rfl⟩ F.entry_list_clear (F.args_list_clear_1 _) (AutoSeq1.list_clear_list_0 l its.toArray n (by rw [List.size_toArray]; omega)) ⟨e, ?_⟩
  exact ⟨.non, _, I.lset (its' := []) (ys := []) hH e rfl .nil (Nat.zero_le _), rfl, q⟩

/-! ### list + list, list += list, list * int -/
/-! ### del xs[i] -/
end

/-! ### xs[a:b] = ys -/
section
variable {prog : Program} {w : World} {A : Around} {E : Value → Shared → Prop} {s : Shared}
set_option maxRecDepth 100000 in
end

section
variable {X : Cx}
end
end L2

namespace Att
open PySem PySem.W PySem.Calls PyProof.Rows

/-! ### the script -/
theorem ints_of_wellAll {P : Params} {h : Heap} : ∀ (ns : List Int) (vs : List Value), WellAll P h vs (ns.map WData.int) → IntsAre vs ns := by
  intro ns
  induction ns with
  | nil =>
    intro vs w
    rw [List.map_nil] at w
    cases w
    exact .nil
  | cons n ns ih =>
    intro vs w
    rw [List.map_cons] at w
    cases w with
    | cons a b =>
      cases a
      exact .cons _ _ (ih _ b)

theorem script_of {l : OpenLaw} {n : Nat} (hn : l.most = some n) {P : Params} {h : Heap} {args : List WData} {vals : List Value}
    (hpre : l.row.toRowW.claim.pre args = true) (hwl : WellAll P h vals args) :
    ∃ a vs ns, vals = [Value.ref a] ∧ args = [WData.list (ns.map WData.int)] ∧ h.get? a = some { cls := .type "list", data := .seq vs.toArray } ∧ IntsAre vs ns ∧ ns.length ≤ n := by
  have hsh : WShape.hasAll [] args [.list .int] = true := (pre_splitW hpre).1
  have hc : l.pre.holds [] { args := args } = true := (pre_splitW hpre).2
  obtain ⟨d, r, rfl, h1, h2⟩ := hasAllW_cons hsh
  obtain rfl := hasAllW_nil h2
  obtain ⟨xs, rfl, h3⟩ := hasW_list h1
  obtain ⟨ns, rfl⟩ := items_int h3
  have hlen : ns.length ≤ n := by
    unfold OpenLaw.pre at hc
    have h4 : (WTm.not (.lt (.lit (.int (n : Int))) (.len (.arg 0)))).holds [] { args := [.list (ns.map .int)] } = true := by
      have h4 := (holds_andW hc).1
      rw [hn] at h4
      exact h4
    have h5 := condW_of h4 (w_not (w_lt w_lit (w_len_list (w_arg rfl))))
    rw [List.length_map] at h5
    refine Nat.le_of_not_lt fun q => ?_
    have q' : (n : Int) < ((ns.length : Nat) : Int) := by omega
    first
      | (rw [decide_eq_true q'] at h5; exact absurd h5 (by decide))
      | (simp at h5; omega)
  cases hwl with
  | cons w1 w2 =>
    cases w2
    cases w1 with
    | list ho hall => exact ⟨_, _, ns, rfl, rfl, ho, ints_of_wellAll ns _ hall, hlen⟩

theorem post_true (l : OpenLaw) (args : List WData) : l.row.toRowW.claim.post args (.bool true) args = true :=
  postW_of (r := l.row.toRowW) (X := (true == true))
    (show WShape.has [] (.bool true) .bool = true by first | rfl | decide | simp [WShape.has, WShape.arms, WShape.armsAll])
    (show (WTm.eq .res (.lit (.bool true))).value [] { args := args, res := some (.bool true), after := args } = some (.bool (true == true)) from w_eq_bool (w_res rfl) w_lit) rfl

/-! ### the attachment: holds_open's last premise (the goal 'hc' behind k_head) from a wpAny of the law's body -/
/-- the same from a codeAny of the CALL (for a layer whose function contracts speak of calls) -/
theorem attach_call {l : OpenLaw} {n : Nat} {q : Program} {loose : List Str} {XP : (Str → Option Value) → Heap → Prop} {YP : World → Heap → Prop} {d : DefRec}
    (hn : l.most = some n) (hdf : d.params.defaults = [])
    (call : ∀ (w : World) (s₀ s₁ : Shared) (mg mb : Str → Option Value) (fa : Addr) (o : Obj) (pm cd doc : Value) (a : Addr) (vs : List Value) (ns : List Int),
      Ground q loose [] XP w s₀ mg mb s₁.heap → YP w s₁.heap →
      s₁.heap.get? fa = some o → o.data = .func (docDef d.name d.params d.body d.scope pm cd doc) → s₁.heap.CodeRec cd d.name → mg d.name = some (.ref fa) →
      s₁.heap.get? a = some { cls := .type "list", data := .seq vs.toArray } → IntsAre vs ns → ns.length ≤ n → s₁.gens = #[] →
      codeAny (model l.prog w) callerA (.call (.ref fa) ⟨[.ref a], []⟩) (fun r s' => r = .ok (.ret (.bool true)) ∧ OldK s₁.heap s'.heap ∧ s'.os = s₁.os ∧ AllBare s'.gens) s₁) :
    WalkO q loose XP YP l.row.toRowW d [] (fun f vs => PySem.call f vs) := by
  intro w s₀ s₁ mg mb G Y fa o pm cd doc dV kV ho hd hcd hD hmg hg args vals as hpre hlay hrd hwl hlo
  obtain rfl : dV = .none := Dflts.none hD hdf
  obtain rfl : kV = .none := Dflts.noKw hD
  obtain ⟨a, vs, ns, rfl, rfl, hobj, hints, hlen⟩ := script_of hn hpre hwl
  refine enter_call (codeAny_mono (call w s₀ s₁ mg mb fa o pm cd doc a vs ns G Y ho (fd_plain hd) hcd hmg hobj hints hlen hg) fun r s' hq => ?_)
  obtain ⟨rfl, h2, h3, h4⟩ := hq
  exact ⟨.inl ⟨.bool true, .bool true, [], rfl, fun _ => rfl, .bool true, post_true l _, fun _ => ⟨List.Pairwise.nil, fun _ hm => (nomatch hm)⟩⟩, h2, h3, h4⟩

/-! ### rules over ANY heap (no ledger) from facts about the written part K: the library's own take a ledger (News) for what they write -/
section
variable {prog : Program} {w : World} {A : Around} {E : Value → Shared → Prop} {s : Shared} {K : Frag}

/-! the whole heap as the ledger: makes every rule that writes through a ledger a rule over any heap -/
end
end Att

namespace L2
open PySem PySem.Spec PyProof.Rows

theorem vals_ints : ∀ {vs : List Value} {ns : List Int}, IntsAre vs ns → Vals (ns.map V.int) vs
  | _, _, .nil => .nil
  | _, _, .cons n t h => .cons ⟨t, rfl⟩ (vals_ints h)

/-- nothing is tracked but the script, known to the object (or it is an object of the module) -/
def Only (H : Hp) : Prop := ∀ b, H b = none ∨ ∃ o xs, H b = some (.frz o (.lst xs))

/-- THE HEAD: the law's promise, at the heap behind the top. F, the promise of the law's def, may use that base is part of the heap (so K.In base, base.Ns mainGlobals mg stand in Mod) -/
theorem law_call {P : Program} {w : World} {K : PySem.W.Frag} {mg mb : Str → Option Value} {CX : CXT} {k : Nat} {fa a : Addr} {fd : FuncData} {x : Str} {sp : Sp} {s₁ : Shared} {vs : List Value} {ns : List Int}
    (KX : K.In s₁.heap) (hns : s₁.heap.Ns mainGlobals mg) (hb : s₁.heap.Ns builtinsNs mb) (hbb : ∀ x : Str, x ≠ "__name__" → mb x = bootBuiltins x) (hlim : s₁.heap.NoLimit) (hg : s₁.gens = #[])
    (ha : s₁.heap.get? a = some { cls := .type "list", data := .seq vs.toArray }) (hi : IntsAre vs ns) (hl : ns.length ≤ sizeLine) (hr : Room k callerA)
    (F : ∀ base : Heap, K.In base → base.Ns mainGlobals mg → FnOk P w K mg base CX k fa fd [x] sp) (hbind : ∀ (s : Shared) (u : Value), BindsTo s fd ⟨[u], []⟩ [(x, u)])
    (hsp : ∀ H : Hp, Only H → SqL K H a (ns.map V.int) → sp [.ref a] H (fun v _ => v = .bl true) fun _ _ _ => False)
    (hCX : ∀ H e s', CX [] H s₁ (fun _ _ _ => False) e s' → False) :
    codeAny (model P w) callerA (.call (.ref fa) ⟨[.ref a], []⟩) (fun r s' => r = .ok (.ret (.bool true)) ∧ OldK s₁.heap s'.heap ∧ s'.os = s₁.os ∧ AllBare s'.gens) s₁ := by
  have rv := vals_ints hi
  have lenV := hi.length
  -- from an abstract heap in which nothing but the script may be tracked
  have core : ∀ H : Hp, Only H → SqL K H a (ns.map V.int) → HOk P w H s₁.heap → (∀ b, H b ≠ none → b = a) → (H a ≠ none → K.lookup a = none) →
      codeAny (model P w) callerA (.call (.ref fa) ⟨[.ref a], []⟩) (fun r s' => r = .ok (.ret (.bool true)) ∧ OldK s₁.heap s'.heap ∧ s'.os = s₁.os ∧ AllBare s'.gens) s₁ := by
    intro H hO hS hok hA hK
    have base_of : ∀ {b : Addr} {o : Obj}, s₁.heap.get? b = some o → H b = none → (hidT s₁.heap H).get? b = some o := fun e n => hidT_get e n
    have noA : ∀ {b : Addr} {o : Obj} {es : Array DictEntry} {ep : Nat}, s₁.heap.get? b = some o → o.data = .dict es ep → H b = none := fun {b o es ep} e d => by
      cases q : H b with
      | none => rfl
      | some u =>
        have e' : b = a := hA b (by rw [q]; simp)
        subst e'
        rw [ha] at e; cases e
        have d' : Data.seq vs.toArray _ = Data.dict es ep := d
        cases d'
    have nsK : ∀ {b : Addr} {m : Str → Option Value}, s₁.heap.Ns b m → (hidT s₁.heap H).Ns b m := fun {b m} ⟨o, es, ep, e, d, r⟩ => ⟨o, es, ep, base_of e (noA e d), d, r⟩
    have hKb : K.In (hidT s₁.heap H) := fun b o e => base_of (KX b o e) (by
      cases q : H b with
      | none => rfl
      | some u =>
        have e' : b = a := hA b (by rw [q]; simp)
        subst e'
        rw [hK (by rw [q]; simp)] at e; cases e)
    have hM : Mod K mg (hidT s₁.heap H) := ⟨hKb, nsK hns, ⟨mb, nsK hb, hbb⟩, let ⟨mc, h1, h2⟩ := hlim; ⟨mc, nsK h1, h2⟩⟩
    have e0 : Env0 P w K mg (hidT s₁.heap H) callerA [] s₁ H := ⟨rfl, hM, fun b o e => of_hidT e, Nat.le_of_eq (hidT_size _ _), trivial, fun b hb => absurd (show b ∈ ([] : List Addr) from hb) (by simp), hok, .of_eq hg⟩
    refine codeAny_mono ((F _ hKb (nsK hns)).run callerA [] s₁ H ⟨[.ref a], []⟩ [.ref a] [.ref a] _ _ hr e0 (hbind s₁ (.ref a)) (.cons rfl .nil) (hsp H hO hS)) fun r s' h => ?_
    cases r with
    | error e => exact (hCX H e s' h).elim
    | ok fl =>
      cases fl with
      | next => exact False.elim h
      | brk => exact False.elim h
      | cont => exact False.elim h
      | ret u =>
        obtain ⟨v, H', os, bare, un, hok', r', q⟩ := h
        have q' : v = .bl true := q
        subst q'
        obtain rfl : u = Value.bool true := r'
        refine ⟨rfl, OldK.of_keep fun b o e => ?_, os, bare⟩
        cases q : H b with
        | none => exact un.keep b o e q (by intro z; exact absurd (show b ∈ ([] : List Addr) from z) (by simp)) (by simp)
        | some u =>
          rcases hO b with z | ⟨ob, xs, z⟩
          · rw [q] at z; cases z
          · have z2 := un.frzs b ob _ z
            obtain ⟨e1, _⟩ := hok b _ z
            obtain ⟨e2, _⟩ := hok' b _ z2
            rw [e] at e1; cases e1
            exact e2
  cases hk : K.lookup a with
  | some o =>
    -- the script is one of the module's own objects
    have e := KX a o hk
    rw [ha] at e
    cases e
    refine core (fun _ => none) (fun _ => .inl rfl) (.inr ⟨_, vs.toArray, _, hk, rfl, rfl, rfl, by rw [List.size_toArray, lenV]; exact hl, by simpa using rv⟩) (fun b u z => by have z' : (none : Option HO) = some u := z; cases z') (fun b z => absurd rfl z) fun z => absurd rfl z
  | none =>
    refine core (fun b => if b = a then some (.frz { cls := .type "list", data := .seq vs.toArray } (.lst (ns.map V.int))) else none) (fun b => ?_) (.inl (.inr ⟨{ cls := .type "list", data := .seq vs.toArray }, if_pos rfl⟩)) (fun b u z => ?_) (fun b z => ?_) fun _ => hk
    · by_cases hb : b = a
      · exact .inr ⟨_, _, if_pos hb⟩
      · exact .inl (if_neg hb)
    · by_cases hb : b = a
      · have z' := (if_pos hb).symm.trans z
        cases z'
        subst hb
        exact ⟨ha, by rw [List.length_map]; exact hl, vs, _, rv, ha⟩
      · have z' := (if_neg hb).symm.trans z
        cases z'
    · by_cases hb : b = a
      · exact hb
      · exact absurd (if_neg hb) z
end L2

namespace L2
open PySem PySem.Spec PyProof.Rows

/-- the goal that k_head leaves (case hc), from the law's promise. F gives the function object fd (K's own) once, then the promise over every base -/
theorem walk_of {l : PySem.W.OpenLaw} {n k : Nat} {q : Program} {loose : List Str} {XP : (Str → Option Value) → Heap → Prop} {YP : World → Heap → Prop} {d : DefRec} {K : Params → PySem.W.Frag} {CX : World → CXT} {sp : World → Sp} {x : Str}
    (hn : l.most = some n) (hn2 : n ≤ sizeLine) (hdf : d.params.defaults = []) (hr : Room k callerA)
    (hY : ∀ (w : World) (h : Heap), YP w h → (K w.params).In h)
    (F : ∀ (w : World) (mg : Str → Option Value) (fa : Addr) (h : Heap), (K w.params).In h → h.Ns mainGlobals mg → mg d.name = some (.ref fa) →
      ∃ fd : FuncData, (∀ (s : Shared) (u : Value), BindsTo s fd ⟨[u], []⟩ [(x, u)]) ∧
        ∀ base : Heap, (K w.params).In base → base.Ns mainGlobals mg → FnOk l.prog w (K w.params) mg base (CX w) k fa fd [x] (sp w))
    (hsp : ∀ (w : World) (H : Hp) (a : Addr) (ns : List Int), ns.length ≤ n → Only H → SqL (K w.params) H a (ns.map V.int) → sp w [.ref a] H (fun v _ => v = .bl true) fun _ _ _ => False)
    (hCX : ∀ (w : World) (H : Hp) (s : Shared) (e : Value) (s' : Shared), CX w [] H s (fun _ _ _ => False) e s' → False) :
    PySem.W.WalkO q loose XP YP l.row.toRowW d [] (fun f vs => PySem.call f vs) := by
  refine Att.attach_call hn hdf fun w s₀ s₁ mg mb fa o pm cd doc a vs ns G Y ho hd hcd hmg hobj hints hlen hg => ?_
  have KX := hY w _ Y
  obtain ⟨fd, hb, hF⟩ := F w mg fa _ KX G.T.g hmg
  exact law_call KX G.T.g G.T.b G.T.builtins G.T.nolimit hg hobj hints (Nat.le_trans hlen hn2) hr hF hb (fun H hO hS => hsp w H a ns hlen hO hS) fun H e s' => hCX w H s₁ e s'
end L2

/-! SHORT WORDS over the layer: a def of the text, its body, what a loop and a test want. -/
namespace L2
open PySem PySem.Spec PyProof.Rows

/-! ### the text by places -/
/-- the j-th statement of a class's body -/
def inClass (s : Stmt) (j : Nat) : Stmt := match s with
  | .ClassDef _ _ _ body _ _ _ _ _ _ _ => body.getD j (.Pass ⟨0, 0, 0, 0⟩)
  | _ => .Pass ⟨0, 0, 0, 0⟩
def defArgs (s : Stmt) : Arguments := match s with
  | .FunctionDef _ a _ _ _ _ _ _ _ _ => a
  | _ => { posonlyargs := [], args := [], vararg := none, kwonlyargs := [], kw_defaults := [], kwarg := none, defaults := [] }
def defBody (s : Stmt) : List Stmt := match s with
  | .FunctionDef _ _ b _ _ _ _ _ _ _ => b
  | _ => []
def defScope (s : Stmt) : Scope := match s with
  | .FunctionDef _ _ _ _ _ _ sc _ _ _ => sc
  | _ => { kind := .function, names := [], isGenerator := false, isCoroutine := false }

/-! ### no exception leaves a def -/
abbrev CX0 : CXT := fun _ _ _ _ _ _ => False
abbrev E0 : XK := fun _ _ _ => False
theorem pass0 {X : Cx} : Passes CX0 X E0 := fun _ _ _ _ _ _ _ h => h.elim

/-! ### a def (or method) of the text as it stands behind the top -/
structure Fun (K : PySem.W.Frag) (x qual : Str) (st : Stmt) (f : Addr) (fd : FuncData) : Prop where
  ex : ∃ (oc : Value) (od : Option Addr) (kV doc pm : Value) (an : Option Addr) (cdv ct : Value) (osl : Array (Option Value)),
    fd = PySem.W.fnOf x qual (defArgs st) (defBody st) (defScope st) .none kV doc pm an cdv ct ∧ K.lookup f = some ⟨oc, od, .func fd, osl⟩ ∧ PySem.W.codeIn K cdv qual = true
  kp : PySem.W.keepIn K (.ref f) = true
section
variable {P : Program} {w : World} {K : PySem.W.Frag} {mg : Str → Option Value} {base : Heap}
/-- THE RULE for a def: its body as a term of rules, and the reading of that term -/
theorem Fun.ok {x qual : Str} {st : Stmt} {f : Addr} {fd : FuncData} {N ps : List Str} {k : Nat} {sp : Sp} (F : Fun K x qual st f fd) (S : FnScope N ps (defScope st)) (len : ∀ vs H Q E, sp vs H Q E → vs.length = ps.length)
    (hbody : ∀ (cdv : Value) (A : Around) (outer : List Env) (s : Shared) (H : Hp) (vs : List V) (Q : VK) (E : XK), Room k (A.deeper (envOfC qual (defScope st) s.heap.objs.size f cdv)) → sp vs H Q E →
      ∃ t, PSs (cxOf CX0 P w K mg base N qual (defScope st) f cdv A outer s H E).nox (defBody st) t ∧ t { nx := fun _ H' => Q .non H', rt := Q } (start N vs) H) : FnOk P w K mg base CX0 (k + 1) f fd ps sp := by
  obtain ⟨oc, od, kV, doc, pm, an, cdv, ct, osl, rfl, lk, hcd⟩ := F.ex
  refine fn_of lk hcd S len fun A outer s H vs Q E hr hsp => ?_
  obtain ⟨t, h, q⟩ := hbody cdv A outer s H vs Q E hr hsp
  exact ⟨t, h.nox, q⟩
/-- how its arguments bind (no defaults): h is «fun _ _ _ _ _ _ us hl => match us, hl with | [_, _], _ => rfl», one _ a parameter -/
theorem Fun.binds {x qual : Str} {st : Stmt} {f : Addr} {fd : FuncData} {ps : List Str} (F : Fun K x qual st f fd)
    (h : ∀ (kV doc pm : Value) (an : Option Addr) (cdv ct : Value) (us : List Value), us.length = ps.length → bindArgs (PySem.W.fnOf x qual (defArgs st) (defBody st) (defScope st) .none kV doc pm an cdv ct) ⟨us, []⟩ = pure (ps.zip us)) : Binds K fd ps [] := by
  obtain ⟨oc, od, kV, doc, pm, an, cdv, ct, osl, rfl, lk, hcd⟩ := F.ex
  exact .all (h kV doc pm an cdv ct)
theorem fun_mk {x qual : Str} {st : Stmt} {f : Addr} {oc : Value} {od an : Option Addr} {osl : Array (Option Value)} {kV doc pm cdv ct : Value} (l : K.lookup f = some ⟨oc, od, .func (PySem.W.fnOf x qual (defArgs st) (defBody st) (defScope st) .none kV doc pm an cdv ct), osl⟩)
    (c : PySem.W.codeIn K cdv qual = true) (k : PySem.W.keepIn K (.ref f) = true) : Fun K x qual st f (PySem.W.fnOf x qual (defArgs st) (defBody st) (defScope st) .none kV doc pm an cdv ct) := ⟨⟨oc, od, kV, doc, pm, an, cdv, ct, osl, rfl, l, c⟩, k⟩
end
theorem hu_of {A : Around} {k : Nat} (hr : Room k A) : A.units + 1 < cLine := Nat.lt_of_le_of_lt (Nat.add_le_add_left (by decide : 1 ≤ 64) _) hr.units
theorem small1000 {n : Nat} (h : n ≤ 1000) : n < sizeLine := Nat.lt_of_le_of_lt h (by decide)

/-! ### expressions in short: the name that stands in the i-th slot -/
section
variable {X : Cx}
theorem pv (i : Nat) {x : Str} {pos : Pos} (hN : X.N[i]? = some x := by rfl) (hv : Vis X.env.scope x := by first | exact Or.inl rfl | exact Or.inr (Or.inl rfl) | exact Or.inr (Or.inr rfl)) (hd : (x == ("__debug__" : Str)) = false := by decide)
    (hcd : (x == ("__classdict__" : Str)) = false := by decide) : PE X (.Name x pos) (tVar i) := pe_var hN hv hd hcd
end

/-! ### tests -/
theorem iteF {A B : Prop} (h : B) : if false = true then A else B := by
  rw [if_neg Bool.false_ne_true]
  exact h
theorem iteT {A B : Prop} (h : A) : if true = true then A else B := by
  rw [if_pos rfl]
  exact h
theorem ite2 {c A B : Prop} [Decidable c] (h1 : c → A) (h2 : ¬ c → B) : if c then A else B := by
  by_cases h : c
  · rw [if_pos h]
    exact h1 h
  · rw [if_neg h]
    exact h2 h
theorem iteNS {c A B : Prop} [Decidable c] (hc : c) (h : B) : if (!decide c) = true then A else B := by
  rw [decide_eq_true hc]
  exact iteF h

/-! ### heaps -/
/-- all that was tracked is as it was -/
def Same (H H' : Hp) : Prop := ∀ b o, H b = some o → H' b = some o
theorem Same.refl (H : Hp) : Same H H := fun _ _ h => h
theorem Same.trans {H H1 H2 : Hp} (a : Same H H1) (b : Same H1 H2) : Same H H2 := fun c o h => b c o (a c o h)
theorem Same.free {H H' : Hp} (e : Same H H') {l : Addr} (h : H' l = Option.none) : H l = Option.none := by
  cases q : H l with
  | none => rfl
  | some o =>
    rw [e l o q] at h
    cases h
theorem Same.seq {K : PySem.W.Frag} {H H' : Hp} {a : Addr} {xs : List V} (e : Same H H') (h : SqL K H a xs) : SqL K H' a xs := by
  rcases h with (h | ⟨o, h⟩) | h
  · exact .inl (.inl (e _ _ h))
  · exact .inl (.inr ⟨o, e _ _ h⟩)
  · exact .inr h

end L2

namespace L2
open PySem PySem.Spec PyProof.Rows

/-! ### lists of pairs as tables -/
section
variable {κ : Type} [DecidableEq κ]
def valV (kvs : List (κ × V)) (k : κ) : Option V := (kvs.find? fun kv => decide (kv.1 = k)).map (·.2)
/-- in its place, or at the end -/
def putK (kvs : List (κ × V)) (k : κ) (v : V) : List (κ × V) :=
  if (kvs.any fun kv => decide (kv.1 = k)) = true then kvs.map (fun kv => if kv.1 = k then (kv.1, v) else kv) else kvs ++ [(k, v)]
theorem valV_pos {p : κ × V} {r : List (κ × V)} {k : κ} (e : p.1 = k) : valV (p :: r) k = some p.2 := by simp [valV, List.find?_cons, e]
theorem valV_neg {p : κ × V} {r : List (κ × V)} {k : κ} (e : ¬ p.1 = k) : valV (p :: r) k = valV r k := by simp [valV, List.find?_cons, e]
theorem valV_any (k : κ) : ∀ kvs : List (κ × V), (kvs.any fun kv => decide (kv.1 = k)) = (valV kvs k).isSome
  | [] => rfl
  | p :: r => by
    rw [List.any_cons]
    by_cases e : p.1 = k
    · simp only [valV_pos e, decide_eq_true e, Bool.true_or, Option.isSome_some]
    · rw [valV_neg e, decide_eq_false e, Bool.false_or]; exact valV_any k r
theorem valV_map (k j : κ) (y : V) : ∀ kvs : List (κ × V), valV (kvs.map fun kv => if kv.1 = k then (kv.1, y) else kv) j = (valV kvs j).map fun x => if j = k then y else x
  | [] => rfl
  | p :: r => by
    have ih := valV_map k j y r
    rw [List.map_cons]
    by_cases h : p.1 = k
    · rw [if_pos h]
      by_cases e : p.1 = j
      · rw [valV_pos (p := (p.1, y)) e, valV_pos e, Option.map_some, if_pos (e.symm.trans h)]
      · rw [valV_neg (p := (p.1, y)) e, valV_neg e, ih]
    · rw [if_neg h]
      by_cases e : p.1 = j
      · rw [valV_pos (p := p) e, valV_pos e, Option.map_some, if_neg (fun z => h (e.trans z))]
      · rw [valV_neg (p := p) e, valV_neg e, ih]
theorem valV_snoc (k j : κ) (y : V) : ∀ kvs : List (κ × V), valV kvs k = none → valV (kvs ++ [(k, y)]) j = if j = k then some y else valV kvs j
  | [], _ => by
    by_cases e : k = j
    · rw [if_pos e.symm]; exact valV_pos (p := (k, y)) e
    · rw [if_neg (fun z => e z.symm)]; exact valV_neg (p := (k, y)) e
  | p :: r, hn => by
    rw [List.cons_append]
    have hk : ¬ p.1 = k := fun z => by rw [valV_pos z] at hn; cases hn
    rw [valV_neg hk] at hn
    have ih := valV_snoc k j y r hn
    by_cases e : p.1 = j
    · rw [valV_pos e, valV_pos e, if_neg (fun z => hk (e.trans z))]
    · rw [valV_neg e, valV_neg e, ih]
theorem valV_put (kvs : List (κ × V)) (k j : κ) (y : V) : valV (putK kvs k y) j = if j = k then some y else valV kvs j := by
  unfold putK
  by_cases a : (kvs.any fun kv => decide (kv.1 = k)) = true
  · rw [if_pos a, valV_map]
    rw [valV_any] at a
    by_cases e : j = k
    · obtain ⟨x, hx⟩ := Option.isSome_iff_exists.mp a
      rw [if_pos e, e, hx, Option.map_some, if_pos rfl]
    · rw [if_neg e]
      cases valV kvs j with
      | none => rfl
      | some x => rw [Option.map_some, if_neg e]
  · rw [if_neg a]
    refine valV_snoc k j y kvs ?_
    rw [valV_any] at a
    cases q : valV kvs k with
    | none => rfl
    | some x => rw [q] at a; exact (a rfl).elim
theorem length_putK (kvs : List (κ × V)) (k : κ) (v : V) : (putK kvs k v).length ≤ kvs.length + 1 := by
  unfold putK
  split
  · rw [List.length_map]; omega
  · rw [List.length_append, List.length_cons, List.length_nil]; omega
theorem putK_new {kvs : List (κ × V)} {k : κ} (v : V) (h : valV kvs k = none) : putK kvs k v = kvs ++ [(k, v)] := by
  unfold putK
  rw [valV_any, h]
  exact if_neg (by decide)

theorem RelO.isSome_eq {o : Option V} {u : Option Value} (r : RelO o u) : o.isSome = u.isSome := by
  cases o with
  | none => cases u with
    | none => rfl
    | some _ => exact (show False from r).elim
  | some _ => cases u with
    | none => exact (show False from r).elim
    | some _ => rfl
/-- raw tables of the same keys -/
theorem KV.val {kvs : List (κ × V)} {vs : List (κ × Value)} (r : KV kvs vs) (k : κ) : RelO (valV kvs k) (valueAt vs k) := by
  unfold KV at r
  induction r with
  | nil => exact True.intro
  | @cons p q ps qs h t ih =>
    obtain ⟨h1, h2⟩ := h
    by_cases e : p.1 = k
    · have e' : q.1 = k := h1.symm.trans e
      have b : valueAt (q :: qs) k = some q.2 := by simp [valueAt, List.find?_cons, e']
      rw [valV_pos e, b]; exact h2
    · have e' : ¬ q.1 = k := fun z => e (h1.trans z)
      have b : valueAt (q :: qs) k = valueAt qs k := by simp [valueAt, List.find?_cons, e']
      rw [valV_neg e, b]; exact ih
theorem KV.any {kvs : List (κ × V)} {vs : List (κ × Value)} (r : KV kvs vs) (k : κ) : (kvs.any fun kv => decide (kv.1 = k)) = vs.any fun kv => decide (kv.1 = k) := by
  unfold KV at r
  induction r with
  | nil => rfl
  | cons h t ih => rw [List.any_cons, List.any_cons, ih, h.1]
theorem KV.repl {kvs : List (κ × V)} {vs : List (κ × Value)} (r : KV kvs vs) (k : κ) {y : V} {u : Value} (ry : RelV y u) :
    KV (kvs.map fun kv => if kv.1 = k then (kv.1, y) else kv) (vs.map fun kv => if kv.1 = k then (kv.1, u) else kv) := by
  unfold KV at r ⊢
  induction r with
  | nil => exact .nil
  | @cons p q ps qs h t ih =>
    rw [List.map_cons, List.map_cons]
    refine .cons ?_ ih
    obtain ⟨h1, h2⟩ := h
    by_cases e : p.1 = k
    · rw [if_pos e, if_pos (h1.symm.trans e)]; exact ⟨h1, ry⟩
    · rw [if_neg e, if_neg (fun z => e (h1.trans z))]; exact ⟨h1, h2⟩
theorem KV.put {kvs : List (κ × V)} {vs : List (κ × Value)} (r : KV kvs vs) (k : κ) {y : V} {u : Value} (ry : RelV y u) : KV (putK kvs k y) (stored vs k u) := by
  unfold putK stored
  rw [r.any k]
  by_cases e : (vs.any fun kv => decide (kv.1 = k)) = true
  · rw [if_pos e, if_pos e]; exact r.repl k ry
  · rw [if_neg e, if_neg e]; exact Paired.snoc r ⟨rfl, ry⟩
theorem KV.length {kvs : List (κ × V)} {vs : List (κ × Value)} (r : KV kvs vs) : kvs.length = vs.length := Paired.length r
end


/-! ### a tracked dict, its keys ints and texts or tuples of these -/
theorem kV_is {P : Program} {w : World} {k : Key} {u : Value} (r : RelV (kV k) u) : (mixKind P w).is k u = true := by
  cases k with
  | inl i => obtain ⟨t, e⟩ := (show ∃ t, u = Value.int i t from r); subst e; exact mixKind_int P w i t
  | inr x => obtain ⟨t, e⟩ := (show ∃ t, u = Value.str x t from r); subst e; exact mixKind_str P w x t
theorem items_are {P : Program} {w : World} : ∀ {ks : List Key} {us : List Value}, Vals (ks.map kV) us → ItemsAre (mixKind P w) ks us
  | [], _, r => by rw [List.map_nil] at r; cases r; exact .nil
  | k :: ks, _, r => by
    rw [List.map_cons] at r
    cases r with
    | cons h t => exact .cons (kV_is h) (items_are t)

/-- raw entries of a dict with tuple keys -/
abbrev KT (H : Hp) : List (List Key × V) → List (List Key × Addr × Value) → Prop := Paired fun p q => p.1 = q.1 ∧ H q.2.1 = some (.tup (p.1.map kV)) ∧ RelV p.2 q.2.2
theorem KT.val {H : Hp} {kvs : List (List Key × V)} {xs : List (List Key × Addr × Value)} (r : KT H kvs xs) (k : List Key) : RelO (valV kvs k) ((atKey xs k).map (·.2)) := by
  induction r with
  | nil => exact True.intro
  | @cons p q ps qs h t ih =>
    obtain ⟨h1, _, h2⟩ := h
    by_cases e : p.1 = k
    · have e' : q.1 = k := h1.symm.trans e
      have b : atKey (q :: qs) k = some q.2 := by simp [atKey, List.find?_cons, e']
      rw [valV_pos e, b]; exact h2
    · have e' : ¬ q.1 = k := fun z => e (h1.trans z)
      have b : atKey (q :: qs) k = atKey qs k := by simp [atKey, List.find?_cons, e']
      rw [valV_neg e, b]; exact ih
theorem KT.repl {H : Hp} {kvs : List (List Key × V)} {xs : List (List Key × Addr × Value)} (r : KT H kvs xs) (k : List Key) {y : V} {u : Value} (ry : RelV y u) :
    KT H (kvs.map fun kv => if kv.1 = k then (kv.1, y) else kv) (xs.map (putAt k u)) := by
  induction r with
  | nil => exact .nil
  | @cons p q ps qs h t ih =>
    rw [List.map_cons, List.map_cons]
    refine .cons ?_ ih
    obtain ⟨h1, h2, h3⟩ := h
    unfold putAt
    by_cases e : p.1 = k
    · rw [if_pos e, if_pos (h1.symm.trans e)]; exact ⟨h1, h2, ry⟩
    · rw [if_neg e, if_neg (fun z => e (h1.trans z))]; exact ⟨h1, h2, h3⟩
theorem KT.put {H : Hp} {kvs : List (List Key × V)} {xs : List (List Key × Addr × Value)} (r : KT H kvs xs) (k : List Key) {b : Addr} {y : V} {u : Value} (hb : H b = some (.tup (k.map kV))) (ry : RelV y u) :
    KT H (putK kvs k y) (storedH xs k b u) := by
  have e : (kvs.any fun kv => decide (kv.1 = k)) = (atKey xs k).isSome := by
    rw [valV_any, (r.val k).isSome_eq, Option.isSome_map]
  unfold putK storedH
  rw [e]
  by_cases q : (atKey xs k).isSome = true
  · rw [if_pos q, if_pos q]; exact r.repl k ry
  · rw [if_neg q, if_neg q]; exact Paired.snoc r ⟨rfl, hb, ry⟩
theorem KT.keeps {H H' : Hp} {kvs : List (List Key × V)} {xs : List (List Key × Addr × Value)} (r : KT H kvs xs) (ht : ∀ b ys, H b = some (.tup ys) → H' b = some (.tup ys)) : KT H' kvs xs :=
  Paired.mapP r fun _ _ z => ⟨z.1, ht _ _ z.2.1, z.2.2⟩

section
variable {P : Program} {w : World} {H : Hp} {h : Heap} {a : Addr}
theorem rd_of {u : HO} (ok : HOk P w H h) (e : Rd H a u) : ObjOk P w H h a u := e.ok ok
theorem dk_rd {kvs : List (Key × V)} (ok : HOk P w H h) (e : Rd H a (.dK kvs)) : kvs.length ≤ sizeLine ∧ (a == sysModules) = false ∧ ∃ vs, KV kvs vs ∧ h.DictOf (mixKind P w) a vs :=
  show ObjOk P w H h a (.dK kvs) from rd_of ok e
theorem dk_of {kvs : List (Key × V)} (ok : HOk P w H h) (e : H a = some (.dK kvs)) : kvs.length ≤ sizeLine ∧ (a == sysModules) = false ∧ ∃ vs, KV kvs vs ∧ h.DictOf (mixKind P w) a vs := dk_rd ok (.inl e)
/-- a tracked tuple of ints and texts is a key -/
theorem key_of {ks : List Key} (ok : HOk P w H h) (e : H a = some (.tup (ks.map kV))) : (tupleKind (mixKind P w)).is h ks a := by
  obtain ⟨_, its, r, o, h1, h2, n, h3⟩ := (show ObjOk P w H h a (.tup (ks.map kV)) from ok a _ e)
  exact ⟨o, its.toArray, n, h1, h2, h3, by simpa using items_are r⟩
theorem dt_rd {kvs : List (List Key × V)} (ok : HOk P w H h) (e : Rd H a (.dT kvs)) : kvs.length ≤ sizeLine ∧ (a == sysModules) = false ∧
    ∃ xs, KT H kvs xs ∧ h.DictOfH (tupleKind (mixKind P w)) a xs := by
  obtain ⟨z, y, xs, r, o, es, ep, h1, h2, h3, h4, h5⟩ := (show ObjOk P w H h a (.dT kvs) from rd_of ok e)
  refine ⟨z, y, xs, r, o, es, ep, h1, h2, h3, h4, fun x hx => ?_, h5⟩
  have all : ∀ {l : List (List Key × V)} {m : List (List Key × Addr × Value)}, KT H l m → ∀ x ∈ m, (tupleKind (mixKind P w)).is h x.1 x.2.1 := by
    intro l m q
    induction q with
    | nil => intro x hx; exact nomatch hx
    | @cons p q ps qs hq t ih =>
      intro x hx
      rcases List.mem_cons.mp hx with e | hx
      · subst e
        exact key_of ok (by rw [← hq.1]; exact hq.2.1)
      · exact ih x hx
  exact all r x hx
theorem dt_of {kvs : List (List Key × V)} (ok : HOk P w H h) (e : H a = some (.dT kvs)) : kvs.length ≤ sizeLine ∧ (a == sysModules) = false ∧
    ∃ xs, KT H kvs xs ∧ h.DictOfH (tupleKind (mixKind P w)) a xs := dt_rd ok (.inl e)
end

/-- what the dict at a holds at the key y -/
def DGet (H : Hp) (a : Addr) (y : V) (r : Option V) : Prop :=
  (∃ kvs k, Rd H a (.dK kvs) ∧ y = kV k ∧ r = valV kvs k) ∨ ∃ kvs k b, Rd H a (.dT kvs) ∧ y = .ref b ∧ H b = some (.tup (k.map kV)) ∧ r = valV kvs k
/-- the heap behind a[y] = v -/
def DPut (H : Hp) (a : Addr) (y v : V) (H' : Hp) : Prop :=
  (∃ kvs k, H a = some (.dK kvs) ∧ y = kV k ∧ kvs.length < sizeLine ∧ H' = upd H a (.dK (putK kvs k v))) ∨
  ∃ kvs k b, H a = some (.dT kvs) ∧ y = .ref b ∧ H b = some (.tup (k.map kV)) ∧ kvs.length < sizeLine ∧ H' = upd H a (.dT (putK kvs k v))
theorem DPut.k {H : Hp} {a : Addr} {kvs : List (Key × V)} {k : Key} {v : V} (e : H a = some (.dK kvs)) (hl : kvs.length < sizeLine) : DPut H a (kV k) v (upd H a (.dK (putK kvs k v))) := .inl ⟨kvs, k, e, rfl, hl, rfl⟩
section
variable {X : Cx} {pins : List (Addr × Obj)} {σ : St} {H : Hp} {s : Shared} {a : Addr} {y v : V} {u r : Value} {o : Option V} {A : Around} {E : Value → Shared → Prop}

theorem Inv.big (I : Inv X pins σ H s) : sysModules < s.heap.objs.size := by
  have h : mainGlobals < s.heap.objs.size := (I.mod.glob.keeps I.bk).lt
  exact Nat.lt_trans (by decide) h

/-- d[y], there -/
theorem d_getItem {Q : Value → Shared → Prop} (hu : A.units + 1 < cLine) (I : Inv X pins σ H s) (g : DGet H a y (some v)) (ry : RelV y u) (h : ∀ w' s', Inv X pins σ H s' → RelV v w' → Q w' s') :
    wpAny (model X.prog X.w) A (getItem (.ref a) u) Q E s := by
  rcases g with ⟨kvs, k, e, ey, l⟩ | ⟨kvs, k, b, e, ey, eb, l⟩
  · subst ey
    obtain ⟨z, hd, vs, rel, dd⟩ := dk_rd I.hok e
    obtain ⟨w', hw, rw'⟩ := RelO.some_of (v := v) (o := valueAt vs k) (by rw [l]; exact rel.val k)
    exact wpAny_getItem_of (kV_is ry) dd.mapOf hw (h w' _ (I.tok _) rw')
  · subst ey
    cases (show u = Value.ref b from ry)
    obtain ⟨z, hd, xs, rel, dd⟩ := dt_rd I.hok e
    obtain ⟨w', hw, rw'⟩ := RelO.some_of (v := v) (o := (atKey xs k).map (·.2)) (by rw [l]; exact rel.val k)
    obtain ⟨p, hp, hp2⟩ := Option.map_eq_some_iff.mp hw
    refine wpAny_getItem_heap (tupleKind_room_in1 hu) (key_of I.hok eb) dd hp ?_
    rw [hp2]
    exact h w' _ (I.tok _) rw'
theorem d_notIn {Q : Value → Shared → Prop} (hu : A.units + 1 < cLine) (I : Inv X pins σ H s) (g : DGet H a y o) (ry : RelV y u) (h : ∀ s', Inv X pins σ H s' → Q (.bool (!o.isSome)) s') :
    wpAny (model X.prog X.w) A (compareOp .NotIn u (.ref a)) Q E s := by
  rcases g with ⟨kvs, k, e, ey, l⟩ | ⟨kvs, k, b, e, ey, eb, l⟩
  · subst ey
    obtain ⟨z, hd, vs, rel, dd⟩ := dk_rd I.hok e
    refine wpAny_notIn_of (kV_is ry) hd dd.mapOf ?_
    rw [← (rel.val k).isSome_eq, ← l]
    exact h _ (I.tok _)
  · subst ey
    cases (show u = Value.ref b from ry)
    obtain ⟨z, hd, xs, rel, dd⟩ := dt_rd I.hok e
    refine wpAny_notIn_heap (tupleKind_room_in1 hu) (key_of I.hok eb) hd dd ?_
    have q := (rel.val k).isSome_eq
    rw [Option.isSome_map] at q
    rw [← q, ← l]
    exact h _ (I.tok _)
/-- a dict's object is replaced -/
theorem d_write {h' : Heap} {t' : Nat} {ob : HO} (I : Inv X pins σ H s) (mu : Mut (H a)) (hs : Heap.SameBut a s.heap h') (he : ∃ q, h'.get? a = some q) (new : ObjOk X.prog X.w (upd H a ob) h' a ob) :
    Inv X pins σ (upd H a ob) { s with heap := h', toks := t' } :=
  I.write (x := a) (e := a) mu (.inl rfl) (fun b q hb z => (hs.2 b hb).trans z) he new
theorem dk_new {P : Program} {w : World} {H' : Hp} {h' : Heap} {kvs : List (Key × V)} {vs : List (Key × Value)} (z : kvs.length ≤ sizeLine) (hd : (a == sysModules) = false) (rel : KV kvs vs) (dd : h'.DictOf (mixKind P w) a vs) :
    ObjOk P w H' h' a (.dK kvs) := ⟨z, hd, vs, rel, dd⟩
/-- d[y] = v -/
theorem d_setItem {H' : Hp} {Q : Unit → Shared → Prop} (hu : A.units + 1 < cLine) (I : Inv X pins σ H s) (g : DPut H a y v H') (ry : RelV y u) (rv : RelV v r) (h : ∀ s', Inv X pins σ H' s' → Q () s') :
    wpAny (model X.prog X.w) A (setItem (.ref a) u r) Q E s := by
  rcases g with ⟨kvs, k, e, ey, l, eH⟩ | ⟨kvs, k, b, e, ey, eb, l, eH⟩
  · subst ey eH
    obtain ⟨z, hd, vs, rel, dd⟩ := dk_of I.hok e
    have hz : vs.length ≤ sizeLine := by rw [← rel.length]; exact z
    have hl : (putK kvs k v).length ≤ sizeLine := by have := length_putK kvs k v; omega
    refine wpAny_setItem_pairs (hsz := hz) (kV_is ry) dd fun h' dd' hs => h _ ?_
    have he : ∃ q, h'.get? a = some q := let ⟨q, _, _, hq, _⟩ := dd'; ⟨q, hq⟩
    exact d_write I (by rw [e]; exact True.intro) hs he (dk_new hl hd (rel.put k rv) dd')
  · subst ey eH
    cases (show u = Value.ref b from ry)
    obtain ⟨z, hd, xs, rel, dd⟩ := dt_of I.hok e
    have hz : xs.length ≤ sizeLine := by rw [← Paired.length rel]; exact z
    have hl : (putK kvs k v).length ≤ sizeLine := by have := length_putK kvs k v; omega
    refine wpAny_setItem_heap (hsz := hz) (tupleKind_room_in1 hu) (key_of I.hok eb) dd fun h' dd' hs => h _ ?_
    obtain ⟨q, es, ep, hq, h2, h3, h4, _, h5⟩ := dd'
    refine d_write I (by rw [e]; exact True.intro) hs ⟨q, hq⟩ ⟨hl, hd, _, (rel.put k eb rv).keeps fun c ys ec => ?_, q, es, ep, hq, h2, h3, h4, h5⟩
    rw [upd_ne (ne_of ec e (fun z => nomatch z))]
    exact ec
end

section
variable {X : Cx} {pins : List (Addr × Obj)} {σ : St} {H : Hp} {s : Shared} {a : Addr} {kvs : List (Key × V)} {k : Key} {u : Value} {A : Around} {E : Value → Shared → Prop}
end


/-! ### readings and rules -/
/-- the element of a subscription, not a slice -/
def NoSl (i : Expr) : Prop := ∀ ov iv, subscripted i false ov iv = operate [ov, iv] (getItem ov iv)
theorem subD_of {prog : Program} {w : World} {A : Around} {E : Value → Shared → Prop} {s : Shared} {env : Env} {value slice : Expr} {pos : Pos} {T id : String} {Q : Value → Shared → Prop}
    (hl : typeLookup (.type T) "__getitem__" = pure (some (.builtin id))) (hs : NoSl slice)
    (h : wpAny (model prog w) A (eval value env) (fun o s₁ => wpAny (model prog w) A (eval slice env) (fun i s₂ => s₂.TypeIs o T ∧ wpAny (model prog w) A (getItem o i) Q E s₂) E s₁) E s) :
    wpAny (model prog w) A (eval (.Subscript value slice pos) env) Q E s := by
  refine Subscript_ (wpAny_mono h (fun o s₁ h₁ => wpAny_mono h₁ (fun i s₂ h₂ => ?_) fun _ _ x => x) fun _ _ x => x)
  obtain ⟨hT, h₂⟩ := h₂
  unfold subscriptTail
  refine wpAny_bind ?_
  rw [getitemInPython_of_ne hT.not_modules]
  refine wpAny_bind (wpAny_specialOf hT hl ?_)
  have fin : wpAny (model prog w) A (subscripted slice false o i) (fun r s₃ => wpAny (model prog w) A (letTemporaryGo value o r >>= fun _ => pure r) Q E s₃) E s₂ := by
    rw [hs o i]
    exact wpAny_operating (wpAny_mono h₂ (fun r s₃ h₃ => wpAny_bind (wpAny_letTemporaryGo (wpAny_pure h₃))) fun _ _ x => x)
  first
    | exact wpAny_pure (wpAny_bind fin)
    | exact wpAny_bind (wpAny_pure (wpAny_bind fin))
    | exact wpAny_bind fin

theorem dict_typeIs {X : Cx} {pins : List (Addr × Obj)} {σ : St} {H : Hp} {s : Shared} {a : Addr} {y : V} {o : Option V} (I : Inv X pins σ H s) (g : DGet H a y o) : s.TypeIs (.ref a) "dict" := by
  rcases g with ⟨kvs, k, e, _, _⟩ | ⟨kvs, k, b, e, _, _, _⟩
  · obtain ⟨_, _, vs, _, dd⟩ := dk_rd I.hok e
    exact dd.typeIs
  · obtain ⟨_, _, xs, _, dd⟩ := dt_rd I.hok e
    exact dd.typeIs
/-- d[y] -/
def tDGet (td ty : TE) : TE := fun σ H Q => td σ H fun x H1 => ty σ H1 fun y H2 => ∃ a v, x = .ref a ∧ DGet H2 a y (some v) ∧ Q v H2
def tDNotIn (ty td : TE) : TE := fun σ H Q => ty σ H fun y H1 => td σ H1 fun x H2 => ∃ a o, x = .ref a ∧ DGet H2 a y o ∧ Q (.bl (!o.isSome)) H2
/-- d[y] = v -/
def sDPut (td ty tv : TE) : TS := fun D σ H => tv σ H fun v H1 => td σ H1 fun x H2 => ty σ H2 fun y H3 => ∃ a H4, x = .ref a ∧ DPut H3 a y v H4 ∧ D.nx σ H4
section
variable {X : Cx} {o i e value : Expr} {pos pos' tpos : Pos} {td ty tv : TE}
theorem pe_dget (hu : X.A.units + 1 < cLine) (ho : PE X o td) (hi : PE X i ty) (hs : NoSl i) : PE X (.Subscript o i pos) (tDGet td ty) := by
  intro pins s σ H Q I h
  refine subD_of PySem.F.slot_dict_getitem.lookup hs (thn (ho pins s σ H _ I h) fun u s1 ⟨x, H1, I1, rx, q1⟩ => thn (hi pins s1 σ H1 _ I1 q1) fun iv s2 ⟨y, H2, I2, ry, a, v, ex, g, q2⟩ => ?_)
  subst ex
  obtain rfl : u = Value.ref a := rx
  exact ⟨dict_typeIs I2 g, d_getItem hu I2 g ry fun w' s3 I3 rw' => ⟨v, H2, I3, rw', q2⟩⟩
theorem pc_dnotin (hu : X.A.units + 1 < cLine) (hi : PE X i ty) (ho : PE X o td) : PC X .NotIn i o (tDNotIn ty td) := by
  intro pins s σ H Q I h
  refine thn (hi pins s σ H _ I h) fun iv s1 ⟨y, H1, I1, ry, q1⟩ => thn (ho pins s1 σ H1 _ I1 q1) fun u s2 ⟨x, H2, I2, rx, a, ov, ex, g, q2⟩ => ?_
  subst ex
  obtain rfl : u = Value.ref a := rx
  exact d_notIn hu I2 g ry fun s3 I3 => ⟨.bl (!ov.isSome), H2, I3, rfl, q2⟩
theorem ps_dput (hu : X.A.units + 1 < cLine) (ho : PE X o td) (hi : PE X i ty) (hv : PE X value tv) (hs : swapsWith value (some (.Subscript o i pos')) pos.line X.env = pure false) :
    PS X (.Assign [.Subscript o i pos'] value pos) (sDPut td ty tv) := by
  intro pins s σ H D I h
  refine wpAny_Assign_Subscript (thn (hv pins s σ H _ I h) fun r s1 ⟨v, H1, I1, rv, q1⟩ => thn (ho pins s1 σ H1 _ I1 q1) fun u s2 ⟨x, H2, I2, rx, q2⟩ => thn (hi pins s2 σ H2 _ I2 q2) fun iv s3 ⟨y, H3, I3, ry, a, H4, ex, g, q3⟩ => ?_) hs
  subst ex
  obtain rfl : u = Value.ref a := rx
  exact d_setItem hu I3 g ry rv fun s4 I4 => ⟨σ, H4, I4, q3⟩
end


/-! ### displays -/
theorem dk_empty {P : Program} {w : World} {H : Hp} (h : Heap) (hb : sysModules < h.objs.size) : ObjOk P w H (h.push { cls := .type "dict", data := .dict #[] }) h.objs.size (.dK []) :=
  ⟨Nat.zero_le _, beq_eq_false_iff_ne.mpr (Ne.symm (Nat.ne_of_lt hb)), [], .nil, Heap.DictOf.new h⟩
/-- {}, to be a dict of the kind that is wanted -/
def tDNewK : TE := fun _ H Q => ∀ p, H p = none → Q (.ref p) (upd H p (.dK []))
section
variable {X : Cx} {pos : Pos}
theorem pe_dnewK : PE X (.Dict [] [] pos) tDNewK := fun pins s σ H Q I h =>
  wpAny_Dict_empty ⟨.ref s.heap.objs.size, _, I.laid (a := s.heap.objs.size) (o := .dK []) (t' := s.toks) (fun _ _ q => Heap.get?_push_of_some _ q) (Nat.le_refl _) (dk_empty s.heap I.big), rfl, h _ (I.hok.fresh (Nat.le_refl _))⟩
end

/-! ### methods -/
section
variable {X : Cx} {pins : List (Addr × Obj)} {σ : St} {H : Hp} {s : Shared} {a : Addr} {y d : V} {u r : Value} {o : Option V} {A : Around} {E : Value → Shared → Prop}
end

section
variable {X : Cx} {o e f : Expr} {apos cpos : Pos} {td ty tx : TE}
end

/-! ### dict(d): a copy -/
section
variable {X : Cx} {pins : List (Addr × Obj)} {σ : St} {H : Hp} {s : Shared} {a : Addr} {kvs : List (Key × V)} {A : Around} {E : Value → Shared → Prop}
end


section
variable {X : Cx} {pins : List (Addr × Obj)} {σ : St} {H : Hp} {s : Shared} {a : Addr} {y : V} {u : Value} {A : Around} {E : Value → Shared → Prop}
end
end L2
namespace L2
open PySem PySem.Spec PyProof.Rows
section
variable {X : Cx}
end

/-! ### a dict's pairs: keys that differ -/
section
variable {κ : Type} [DecidableEq κ]
theorem valV_not {kvs : List (κ × V)} {k : κ} (h : valV kvs k = none) : ¬ k ∈ kvs.map (·.1) := by
  intro m
  obtain ⟨p, hp, e⟩ := List.mem_map.mp m
  have q : (kvs.any fun kv => decide (kv.1 = k)) = true := List.any_eq_true.mpr ⟨p, hp, decide_eq_true e⟩
  rw [valV_any, h] at q
  exact absurd q (by simp)
theorem nd_snoc : ∀ {l : List κ} {k : κ}, l.Nodup → ¬ k ∈ l → (l ++ [k]).Nodup
  | [], k, _, _ => by simp
  | a :: r, k, h, hk => by
    obtain ⟨h1, h2⟩ := List.nodup_cons.mp h
    show (a :: (r ++ [k])).Nodup
    refine List.nodup_cons.mpr ⟨fun m => ?_, nd_snoc h2 fun m => hk (List.mem_cons.mpr (Or.inr m))⟩
    rcases List.mem_append.mp m with q | q
    · exact h1 q
    · exact hk (List.mem_cons.mpr (Or.inl (List.mem_singleton.mp q).symm))
theorem nd_putK {kvs : List (κ × V)} {k : κ} (v : V) (hn : (kvs.map (·.1)).Nodup) (h : valV kvs k = none) : ((putK kvs k v).map (·.1)).Nodup := by
  rw [putK_new v h, List.map_append]
  exact nd_snoc hn (valV_not h)
end
end L2

set_option Elab.async false
set_option maxRecDepth 100000
set_option maxHeartbeats 4000000
namespace L2
open PySem PySem.Spec PyProof.Rows
theorem closure_go {env : Env} : ∀ (names : List (Str × NameKind)) (acc : List (Str × Addr)), (∀ y ∈ names, y.2 = .free → ∃ c, env.cells.lookup y.1 = some c) → (∀ n c, acc.lookup n = some c → env.cells.lookup n = some c) →
    ∃ cl, (forIn names acc (fun (p : Str × NameKind) (cs : List (Str × Addr)) => (match p with | (name, kind) => if (kind == NameKind.free) = true then do let c ← cellOf env name; pure (ForInStep.yield ((name, c) :: cs)) else pure (ForInStep.yield cs) : Sem (ForInStep (List (Str × Addr)))))) = pure cl ∧
      (∀ n c, cl.lookup n = some c → env.cells.lookup n = some c) ∧ (∀ n, (acc.lookup n).isSome = true → (cl.lookup n).isSome = true) ∧ (∀ y ∈ names, y.2 = .free → (cl.lookup y.1).isSome = true)
  | [], acc, _, ha => ⟨acc, rfl, ha, fun _ h => h, fun _ h => nomatch h⟩
  | (n, k) :: r, acc, hf, ha => by
    by_cases hk : k = .free
    · subst hk
      obtain ⟨c, hc⟩ := hf (n, .free) List.mem_cons_self rfl
      obtain ⟨cl, e, h1, h2, h3⟩ := closure_go (env := env) r ((n, c) :: acc) (fun y hy => hf y (List.mem_cons_of_mem _ hy)) (fun m d hd => by
        rw [List.lookup_cons] at hd
        split at hd
        · rename_i he
          rw [← hd, ← hc, eq_of_beq he]
        · exact ha m d hd)
      refine ⟨cl, ?_, h1, fun m hm => h2 m ?_, fun y hy hyk => ?_⟩
      · rw [List.forIn_cons]
        show ((if (NameKind.free == NameKind.free) = true then do let c ← cellOf env n; pure (ForInStep.yield ((n, c) :: acc)) else pure (ForInStep.yield acc)) >>= _) = _
        rw [if_pos (show (NameKind.free == NameKind.free) = true from rfl)]
        have ec : cellOf env n = pure c := by unfold cellOf; rw [hc]
        rw [ec, pure_bind, pure_bind]
        exact e
      · rw [List.lookup_cons]; split
        · rfl
        · exact hm
      · rcases List.mem_cons.mp hy with rfl | hy
        · exact h2 n (by rw [List.lookup_cons]; simp)
        · exact h3 y hy hyk
    · obtain ⟨cl, e, h1, h2, h3⟩ := closure_go (env := env) r acc (fun y hy => hf y (List.mem_cons_of_mem _ hy)) ha
      refine ⟨cl, ?_, h1, h2, fun y hy hyk => ?_⟩
      · rw [List.forIn_cons]
        show ((if (k == NameKind.free) = true then do let c ← cellOf env n; pure (ForInStep.yield ((n, c) :: acc)) else pure (ForInStep.yield acc)) >>= _) = _
        rw [if_neg (by simpa using hk), pure_bind]
        exact e
      · rcases List.mem_cons.mp hy with rfl | hy
        · exact absurd hyk hk
        · exact h3 y hy hyk
theorem closure_ok {env : Env} {scope : Scope} (h : ∀ y ∈ scope.names, y.2 = .free → ∃ c, env.cells.lookup y.1 = some c) : ∃ cl, closureFor scope env = pure cl ∧
      (∀ n c, cl.lookup n = some c → env.cells.lookup n = some c) ∧ (∀ y ∈ scope.names, y.2 = .free → ∃ c, cl.lookup y.1 = some c) := by
  obtain ⟨cl, e, h1, _, h3⟩ := closure_go (env := env) scope.names [] h (fun _ _ z => by cases z)
  refine ⟨cl, ?_, h1, fun y hy hk => Option.isSome_iff_exists.mp (h3 y hy hk)⟩
  unfold closureFor
  show (forIn scope.names ([] : List (Str × Addr)) _ >>= _) = _
  refine (congrArg (fun m => m >>= fun (cs : List (Str × Addr)) => (pure cs : Sem _)) e).trans ?_
  exact pure_bind _ _
end L2

set_option Elab.async false
set_option linter.all false
set_option maxRecDepth 100000
set_option maxHeartbeats 4000000
namespace L2
open PySem PySem.Spec PyProof.Rows

/-! ### a comprehension's loop, no exception -/
section
variable {prog : Program} {w : World} {A : Around} {R : Result → Shared → Prop} {s : Shared}
abbrev FF : Value → Shared → Prop := fun _ _ => False
theorem toF {α : Type} {M : Model} {A : Around} {t : Sem α} {Q Q' : α → Shared → Prop} {E : Value → Shared → Prop} {s : Shared} (h : wpAny M A t Q FF s) (hQ : ∀ a s, Q a s → Q' a s) : wpAny M A t Q' E s := wpAny_mono h hQ fun _ _ x => x.elim
theorem comp_loop {elt target iter : Expr} {ifs : List Expr} {scope : Scope} {pos : Pos} {it acc : Value} {env : Env} (I : Nat → Shared → Prop)
    (turn : ∀ n s, I n s → wpAny (model prog w) A (pyNext it) (fun r s₁ => match r with
      | none => R (.ok .next) s₁
      | some v => wpAny (model prog w) A (letOwnedTupleGo target it v) (fun _ s₁' => wpAny (model prog w) A (assign target env v) (fun _ s₂ =>
          wpAny (model prog w) A (forIn ifs true fun c r => if r = true then do let ok ← isTrue c env (eval c env); pure (ForInStep.yield ok) else pure (ForInStep.yield r)) (fun ok s₃ =>
            if ok = true then wpAny (model prog w) A (eval elt env) (fun x s₄ =>
              wpAny (model prog w) A (call (.builtin "list.append") [acc, x]) (fun _ s₅ => ∃ m, m < n ∧ I m s₅) FF s₄) FF s₃
            else ∃ m, m < n ∧ I m s₃) FF s₂) FF s₁') FF s₁) FF s)
    (n : Nat) (h : I n s) : codeAny (model prog w) A (.compLoop (.ListComp elt [⟨target, iter, ifs, 0⟩] scope pos) 0 it acc env) R s := by
  refine codeAny_loop rfl I (fun n s hI => ?_) n h
  show wpAny _ A ((compTurn (.ListComp elt [⟨target, iter, ifs, 0⟩] scope pos) 0 it acc env).onRaise (fun x => do noteFrame x env; theTreesLotGoes x)) _ _ s
  refine wpAny_noted ?_
  rw [compTurn_list]
  refine wpAny_bind (wpAny_standAt (wpAny_bind (toF (turn n s hI) fun r s₁ h₁ => ?_)))
  cases r with
  | none => exact wpAny_pure h₁
  | some v =>
    refine wpAny_bind (toF h₁ fun _ s₁' h₁' => ?_)
    refine wpAny_bind (toF h₁' fun _ s₂ h₂ => wpAny_bind (toF h₂ fun ok s₃ h₃ => ?_))
    cases ok with
    | false => exact wpAny_pure ⟨rfl, h₃⟩
    | true =>
      exact wpAny_bind (wpAny_bind (toF h₃ fun x s₄ h₄ => wpAny_bind (toF h₄ fun _ s₅ h₅ => wpAny_pure (wpAny_pure ⟨rfl, h₅⟩))))
end

/-! ### the block's context -/
/-- the captured names: place in the frame, name -/
def CapOk (X : Cx) (scope : Scope) : List (Nat × Str) → Prop
  | [] => True
  | p :: r => (X.N[p.1]? = some p.2 ∧ X.env.scope.names.lookup p.2 = some .cell ∧ scope.names.lookup p.2 = some .free) ∧ CapOk X scope r
structure CompScope (X : Cx) (scope : Scope) (x : Str) (cp : List (Nat × Str)) : Prop where
  kind : scope.kind = .function
  hx : scope.names.lookup x = some .local
  nd : (x :: cp.map (·.2)).Nodup
  names : ∀ y ∈ scope.names, y.2 = .local → scope.names.lookup y.1 = some .local
  nocell : ∀ y ∈ scope.names, y.2 ≠ .cell
  free : ∀ y ∈ scope.names, y.2 = .free → X.env.scope.names.lookup y.1 = some .cell
  cap : CapOk X scope cp
def compCx (X : Cx) (scope : Scope) (cl : List (Str × Addr)) (C : Addr) (N : List Str) (s : Shared) (H : Hp) (fp : List Addr) : Cx where
  prog := X.prog
  w := X.w
  K := X.K
  mg := X.mg
  base := X.base
  A := X.A
  N := N
  s₀ := s
  H₀ := H
  env := compEnvC scope cl C X.env
  outer := X.stack
  stack := X.stack
  ex := fp
  fn := fun _ => false
  calm := X.calm
  pn := []
  xe := FF
def capV (σ : St) (cp : List (Nat × Str)) : St := cp.map fun p => (σ[p.1]?).join
theorem capV_len (σ : St) (cp : List (Nat × Str)) : (capV σ cp).length = cp.length := List.length_map _
theorem CapOk.get {X : Cx} {scope : Scope} : ∀ {cp : List (Nat × Str)} {i : Nat} {p : Nat × Str}, CapOk X scope cp → cp[i]? = some p → X.N[p.1]? = some p.2 ∧ X.env.scope.names.lookup p.2 = some .cell ∧ scope.names.lookup p.2 = some .free
  | [], _, _, _, h => by simp at h
  | _ :: _, 0, _, hc, h => by simp at h; subst h; exact hc.1
  | _ :: r, i + 1, p, hc, h => CapOk.get (cp := r) (i := i) hc.2 (by simpa using h)
theorem relabel_look {scope : Scope} {env : Env} {y : Str} {k : NameKind} : (relabel scope env).names.lookup y = some k → ∃ k0, scope.names.lookup y = some k0 ∧ (k = k0 ∨ (k0 = .free ∧ k = .cell)) := by
  unfold relabel
  show (scope.names.map _).lookup y = some k → _
  generalize scope.names = l
  induction l with
  | nil => intro h; cases h
  | cons p r ih =>
    obtain ⟨n, q⟩ := p
    intro h
    by_cases hc : (q == NameKind.free && env.scope.kind == .function && env.kindOf n == some .cell) = true
    · have e : (List.map (fun (x : Str × NameKind) => if (x.2 == NameKind.free && env.scope.kind == .function && env.kindOf x.1 == some .cell) = true then (x.1, NameKind.cell) else (x.1, x.2)) ((n, q) :: r)) = (n, .cell) :: List.map (fun (x : Str × NameKind) => if (x.2 == NameKind.free && env.scope.kind == .function && env.kindOf x.1 == some .cell) = true then (x.1, NameKind.cell) else (x.1, x.2)) r := by
        rw [List.map_cons]; dsimp only; rw [if_pos hc]
      have h' := e ▸ h
      rw [List.lookup_cons] at h' ⊢
      split at h'
      · rename_i he
        simp only [Bool.and_eq_true, beq_iff_eq] at hc
        exact ⟨q, rfl, .inr ⟨hc.1.1, (Option.some.inj h').symm⟩⟩
      · rename_i he
        exact ih h'
    · have e : (List.map (fun (x : Str × NameKind) => if (x.2 == NameKind.free && env.scope.kind == .function && env.kindOf x.1 == some .cell) = true then (x.1, NameKind.cell) else (x.1, x.2)) ((n, q) :: r)) = (n, q) :: List.map (fun (x : Str × NameKind) => if (x.2 == NameKind.free && env.scope.kind == .function && env.kindOf x.1 == some .cell) = true then (x.1, NameKind.cell) else (x.1, x.2)) r := by
        rw [List.map_cons]; dsimp only; rw [if_neg hc]
      have h' := e ▸ h
      rw [List.lookup_cons] at h' ⊢
      split at h'
      · rename_i he
        exact ⟨q, rfl, .inl (Option.some.inj h').symm⟩
      · rename_i he
        exact ih h'

section
variable {X : Cx} {pins : List (Addr × Obj)} {σ : St} {H : Hp} {s : Shared}
/-- an untracked record of ours becomes tracked -/
theorem Inv.adopt {D : Addr} {o : HO} (I : Inv X pins σ H s) (hn : H D = none) (hL : D ≠ X.env.locals) (h1 : X.s₀.heap.objs.size ≤ D) (h2 : ∀ x c, X.env.cells.lookup x = some c → c ≠ D) (h3 : ∀ p ∈ X.pn ++ pins, p.1 ≠ D)
    (new : ObjOk X.prog X.w (upd H D o) s.heap D o) : Inv X pins σ (upd H D o) s := by
  have nit : ∀ b u, H b = some u → b ≠ D := fun b u e z => by rw [z, hn] at e; cases e
  have := I.step (h' := s.heap) (H' := upd H D o) (g' := s.gens) (d' := s.drawn) (t' := s.toks) (ch := [D]) (fun b hb => ?_) (fun b o _ _ hc e _ => e) (fun b o _ _ hc e _ => ⟨o.slots, e⟩)
    (fun b o hc e n => by rw [upd_ne (fun z => hc (by simp [z]))]; exact n) (fun b o hc e => ⟨o, e⟩) (fun b xs e => by rw [upd_ne (nit b _ e)]; exact e) (fun b o u e => by rw [upd_ne (nit b _ e)]; exact e)
    (fun b ps e => ⟨#[], by rw [upd_ne (nit b _ e), e]; simp⟩) (fun m hm => hm) (fun b u e => ?_) I.bare
  · exact this
  · have e : b = D := by simpa using hb
    subst e
    exact ⟨.inr h1, hL, h2, h3⟩
  · by_cases hb : b = D
    · subst hb; rw [upd_same] at e; cases e; exact new
    · rw [upd_ne hb] at e
      exact (I.hok b u e).stay (fun _ _ _ q => q) (fun c q => by rw [upd_ne (nit c _ q)]; exact q) fun c xs q => by rw [upd_ne (nit c _ q)]; exact q

/-- the state at the block's entry -/
theorem comp_enter {scope : Scope} {x : Str} {cp : List (Nat × Str)} {cl : List (Str × Addr)} {C : Addr} {h1 : Heap} {fp : List Addr} {m : Str → Option Value} {tk : Nat}
    (S : CompScope X scope x cp) (I : Inv X pins σ H s) (hcl : ∀ n c, cl.lookup n = some c → X.env.cells.lookup n = some c) (hfr : ∀ y ∈ scope.names, y.2 = .free → ∃ c, cl.lookup y.1 = some c)
    (hf : ∀ b ∈ fp, FpOk X pins H b) (hC : s.heap.objs.size ≤ C) (hfp : ∀ b ∈ fp, b < s.heap.objs.size) (hns : h1.Ns C m) (hk : ∀ b o, s.heap.get? b = some o → h1.get? b = some o) :
    Inv (compCx X scope cl C (x :: cp.map (·.2)) s H fp) pins (none :: capV σ cp) H { s with heap := h1, toks := tk } := by
  have lt : ∀ n c, cl.lookup n = some c → c < s.heap.objs.size := fun n c e => by
    obtain ⟨v, q⟩ := I.cell n c (hcl n c e)
    exact q.lt
  refine ⟨⟨I.ok.mod, S.kind, I.ok.glob, I.ok.blt, hC, fun y z c e1 e2 => I.ok.inj y z c (hcl y c e1) (hcl z c e2), fun y hy => ?_, (fun y c z => by cases z), I.ok.hd, I.ok.frames, .inl rfl, fun b hb => ⟨?_, fun y c e => ?_⟩, I.bs,
      Nat.le_trans I.ok.bsz I.sz, fun b o e hb => ?_, fun b hb => ?_, I.stack, I.stkFree⟩, rfl, I.bare, Un.kept hk, ⟨m, hns, fun i y v e1 e2 e3 => ?_⟩, fun y c e => ?_, ?_, fun y c e => ?_, fun p hp => ?_, I.hok.kept hk, ?_⟩
  · have hy' : (relabel scope X.env).names.lookup y = some .cell ∨ (relabel scope X.env).names.lookup y = some .free := hy
    rcases hy' with q | q
    · obtain ⟨k0, e, z | ⟨z, _⟩⟩ := relabel_look q
      · exact absurd z.symm (S.nocell (y, k0) (PySem.mem_of_lookup e))
      · exact hfr (y, k0) (PySem.mem_of_lookup e) z
    · obtain ⟨k0, e, z | ⟨_, z⟩⟩ := relabel_look q
      · exact hfr (y, k0) (PySem.mem_of_lookup e) z.symm
      · cases z
  · exact Nat.ne_of_lt (Nat.lt_of_lt_of_le (hfp b hb) hC)
  · obtain ⟨_, _, _, _, q, _⟩ := hf b hb
    exact q y c (hcl y c e)
  · obtain ⟨_, _, _, q, _⟩ := hf b hb
    rcases q with q | q
    · exact I.ok.noex b o e q
    · exact absurd (Nat.lt_of_lt_of_le (Heap.lt_size (I.ok.bs b o e).1) q) (Nat.lt_irrefl _)
  · obtain ⟨_, q1, q2, _⟩ := hf b hb
    intro z
    rcases List.mem_cons.mp (I.stkSub b z) with e | e
    · exact q1 e
    · exact q2 e
  · cases i with
    | zero => cases e2
    | succ i =>
      have e1' : (cp.map (·.2))[i]? = some y := e1
      have e2' : (capV σ cp)[i]? = some (some v) := e2
      unfold capV at e2'
      rw [List.getElem?_map] at e1' e2'
      cases ep : cp[i]? with
      | none => rw [ep] at e1'; cases e1'
      | some p =>
        rw [ep] at e1' e2'
        have ey : p.2 = y := Option.some.inj e1'
        have ev : (σ[p.1]?).join = some v := Option.some.inj e2'
        obtain ⟨c1, c2, c3⟩ := S.cap.get ep
        subst ey
        have eσ : σ[p.1]? = some (some v) := by
          cases q : σ[p.1]? with
          | none => rw [q] at ev; cases ev
          | some z => rw [q] at ev; have : z = some v := ev; rw [this]
        obtain ⟨mm, _, hl⟩ := I.loc
        obtain ⟨u, r, l⟩ := hl p.1 p.2 v c1 eσ (.inr (.inl c2))
        refine ⟨u, r, ?_⟩
        rcases l with ⟨z, _⟩ | ⟨_, c, ec, hc⟩
        · have z' : X.env.scope.names.lookup p.2 = some .local := z
          rw [c2] at z'; cases z'
        · obtain ⟨c', ec'⟩ := hfr (p.2, .free) (PySem.mem_of_lookup c3) rfl
          have := hcl _ _ ec'
          rw [ec] at this; cases this
          have k : (compEnvC scope cl C X.env).kindOf p.2 = some .cell ∨ (compEnvC scope cl C X.env).kindOf p.2 = some .free := by
            rcases e3 with z | z | z
            · have z' : (relabel scope X.env).names.lookup p.2 = some .local := z
              obtain ⟨k0, e, zz | ⟨_, zz⟩⟩ := relabel_look z'
              · rw [c3] at e; cases e; cases zz
              · cases zz
            · exact .inl z
            · exact .inr z
          obtain ⟨oc, hoc, hod⟩ := hc
          exact .inr ⟨k, c, ec', oc, hk c oc hoc, hod⟩
  · obtain ⟨v, oc, hoc, hod⟩ := I.cell y c (hcl y c e)
    exact ⟨v, oc, hk c oc hoc, hod⟩
  · exact I.hok.fresh hC
  · exact I.freeC y c (hcl y c e)
  · have hp' : p ∈ pins := hp
    obtain ⟨e, n, n1, n2, d⟩ := I.pin p (List.mem_append_right _ hp')
    refine ⟨hk _ _ e, n, Nat.ne_of_lt (Nat.lt_of_lt_of_le (Heap.lt_size e) hC), fun z => ?_, d⟩
    rcases List.mem_cons.mp (I.stkSub _ z) with q | q
    · exact n1 q
    · exact n2 q
  · show (none :: capV σ cp).length = (x :: cp.map (·.2)).length
    rw [List.length_cons, List.length_cons, capV_len, List.length_map]
end
end L2

set_option Elab.async false
set_option linter.all false
set_option maxRecDepth 100000
set_option maxHeartbeats 4000000
namespace L2
open PySem PySem.Spec PyProof.Rows

/-- a comprehension's tests -/
def PTs (X : Cx) (ifs : List Expr) (t : TT) : Prop :=
  ∀ (pins : List (Addr × Obj)) (s : Shared) (σ : St) (H : Hp) (Q : Bool → Hp → Prop), Inv X pins σ H s → t σ H Q →
    wpAny (model X.prog X.w) X.A (forIn ifs true fun c r => if r = true then do let ok ← isTrue c X.env (eval c X.env); pure (ForInStep.yield ok) else pure (ForInStep.yield r)) (TP X pins σ Q) X.xe s
def tAlways : TT := fun _ H Q => Q true H
theorem pts_nil {X : Cx} : PTs X [] tAlways := fun _ _ _ H _ I h => wpAny_tests_nil ⟨H, I, h⟩
theorem pts_one {X : Cx} {c : Expr} {t : TT} (h : PT X c t) : PTs X [c] t := fun pins s σ H Q I q => wpAny_tests_one (h pins s σ H Q I q)

/-- W: by the turn, a measure, the items so far; END: what is wanted of the items and the heap -/
def compW (J : It) (cv : St) (tt : TT) (te : TE) (END : List V → Hp → Prop) (H1 : Hp) : Prop :=
  ∃ W : Nat → Nat → List V → Hp → Prop, (∃ m, W 0 m [] H1) ∧ ∀ i m ys H2, W i m ys H2 →
    (J.stop i H2 ∧ ys.length ≤ sizeLine ∧ END ys H2) ∨
    (J.go i H2 ∧ ys.length < sizeLine ∧ ∀ v H3, J.yld i H2 v H3 → ∃ (N : V → Hp → Prop) (N' : Hp → Prop), (∀ y H5, N y H5 → ∃ m', m' < m ∧ W (i + 1) m' (ys ++ [y]) H5) ∧ (∀ H4, N' H4 → ∃ m', m' < m ∧ W (i + 1) m' ys H4) ∧
      tt (some v :: cv) H3 fun b H4 => if b = true then te (some v :: cv) H4 N else N' H4)

section
variable {X : Cx} {pins : List (Addr × Obj)} {σ : St} {H : Hp} {s : Shared} {scope : Scope} {x : Str} {cp : List (Nat × Str)} {px pos : Pos} {elt iter : Expr} {ifs : List Expr} {tt : TT} {te : TE}
theorem comp_block {cl : List (Str × Addr)} {it : Addr} {fp : List Addr} {tn : Nat → Heap → Prop} {J : It} {END : List V → Hp → Prop} {E : Value → Shared → Prop} {RR : Value → Addr → Result → Shared → Prop}
    (S : CompScope X scope x cp) (hc : X.calm = true) (I : Inv X pins σ H s) (hcl : ∀ n c, cl.lookup n = some c → X.env.cells.lookup n = some c) (hfr : ∀ y ∈ scope.names, y.2 = .free → ∃ c, cl.lookup y.1 = some c)
    (T : Turn X.prog X.w X.K (.Name x px) J fp it tn) (st : tn 0 s.heap) (hf : ∀ b ∈ fp, FpOk X pins H b)
    (ht : ∀ cl C s H fp, PTs (compCx X scope cl C (x :: cp.map (·.2)) s H fp) ifs tt) (he : ∀ cl C s H fp, PE (compCx X scope cl C (x :: cp.map (·.2)) s H fp) elt te)
    (hw : compW J (capV σ cp) tt te END H)
    (hRR : ∀ D C s' ys H2 o, Inv X (pins ++ [(C, o)]) σ (upd H2 D (.lst ys)) s' → (∃ m, ∀ h : Heap, h.get? C = some o → h.Ns C m) → H2 D = none → END ys H2 → (∀ H', H' C = none → FpOk X pins H' C) → RR (.ref D) C (.ok .next) s') :
    wpAny (model X.prog X.w) X.A (newList []) (fun acc s₃ => wpAny (model X.prog X.w) X.A (newFunctionEnv scope X.env.globals cl [] X.env.qual none .none (some X.env)) (fun cenv s₄ =>
      codeAny (model X.prog X.w) X.A (.compStart (.ListComp elt [⟨.Name x px, iter, ifs, 0⟩] scope pos) 0 (.ref it) acc { cenv with scope := relabel scope X.env }) (RR acc cenv.locals) s₄) E s₃) E s := by
  refine wpAny_newObj_type (wpAny_newFunctionEnv S.nocell (by intro y hy; simp at hy) (fun h₁ hns₁ hsb₁ => ?_) S.kind)
  dsimp only at hns₁ hsb₁ ⊢
  generalize hH2 : s.heap.push { cls := .type "list", dict := none, data := .seq ([] : List Value).toArray } = G at hns₁ hsb₁ ⊢
  have hC : G.objs.size = s.heap.objs.size + 1 := by rw [← hH2, Heap.size_push]
  have hDC : s.heap.objs.size ≠ G.objs.size := by rw [hC]; exact Nat.ne_of_lt (Nat.lt_succ_self _)
  have hCle : s.heap.objs.size ≤ G.objs.size := by rw [hC]; exact Nat.le_succ _
  have below : ∀ b, b < s.heap.objs.size → b ≠ G.objs.size := fun b hb => by rw [hC]; exact Nat.ne_of_lt (Nat.lt_succ_of_lt hb)
  have old : ∀ b o, s.heap.get? b = some o → h₁.get? b = some o := fun b o e => hsb₁.extBut b o (below b (Heap.lt_size e)) (Heap.get?_push_of_some _ (hH2 ▸ Heap.get?_push_of_some _ e))
  have hacc : h₁.PlainList s.heap.objs.size #[] := ⟨_, hsb₁.extBut _ _ hDC (Heap.get?_push_of_some _ (hH2 ▸ Heap.get?_push_size _ rfl))⟩
  have hfp : ∀ b ∈ fp, b < s.heap.objs.size := fun b hb => by
    obtain ⟨o, e, _⟩ := T.obj 0 s.heap st b hb
    exact Heap.lt_size e
  have st₁ : tn 0 h₁ := T.keep _ _ _ st fun b _ o e => old b o e
  generalize hDe : s.heap.objs.size = D at *
  generalize hCe : G.objs.size = C at *
  have I₁ := comp_enter (tk := s.toks + ([] : List (Str × Value)).length) (C := C) S I hcl hfr hf (by rw [hDe]; exact hCle) (by rw [hDe]; exact hfp) hns₁ old
  generalize hX' : compCx X scope cl C (x :: cp.map (·.2)) s H fp = X' at I₁
  have eP : X'.prog = X.prog := by rw [← hX']; rfl
  have eW : X'.w = X.w := by rw [← hX']; rfl
  have eK : X'.K = X.K := by rw [← hX']; rfl
  have eA : X'.A = X.A := by rw [← hX']; rfl
  have eV : X'.env = compEnvC scope cl C X.env := by rw [← hX']; rfl
  have eX : X'.xe = FF := by rw [← hX']; rfl
  have eC : X'.calm = true := by rw [← hX']; exact hc
  have ht' := ht cl C s H fp
  have he' := he cl C s H fp
  rw [hX'] at ht' he'
  have hN : X'.N.Nodup := by rw [← hX']; exact S.nd
  have hg : PG X' (.Name x px) (gName 0) := pg_name hN (by rw [← hX']; rfl) (by rw [← hX']; exact .inl (lookup_relabel_local S.hx)) (.inr (by rw [← hX']; exact lookup_relabel_local S.hx))
  have fL : X'.env.locals = C := by rw [eV]; rfl
  have fpD : ∀ H' : Hp, H' D = none → FpOk X' pins H' D := fun H' hn => by
    refine ⟨hn, by rw [fL]; exact hDC, fun z => ?_, .inr (by rw [← hX', ← hDe]; exact Nat.le_refl _), fun y c e z => ?_, fun p hp z => ?_⟩
    · rw [← hX'] at z
      obtain ⟨_, o, ho, _⟩ := I.stack.mem z
      exact absurd (Heap.lt_size ho) (by rw [hDe]; exact Nat.lt_irrefl _)
    · rw [eV] at e
      obtain ⟨v, q⟩ := I.cell y c (hcl y c e)
      exact absurd q.lt (by rw [z, hDe]; exact Nat.lt_irrefl _)
    · have hp' : p ∈ pins := by rw [← hX'] at hp; exact hp
      exact absurd (Heap.lt_size (I.pin p (List.mem_append_right _ hp')).1) (by rw [z, hDe]; exact Nat.lt_irrefl _)
  have fpF : ∀ (pl : List (Addr × Obj)) (H' : Hp), (∀ b ∈ fp, H' b = none) → (∀ p ∈ pl, p ∈ pins ∨ p.1 = D) → ∀ b ∈ fp, FpOk X' pl H' b := fun pl H' hn hpl b hb => by
    obtain ⟨_, f1, f2, f3, f4, f5⟩ := hf b hb
    refine ⟨hn b hb, by rw [fL]; exact below b (hfp b hb), fun z => ?_, .inl (by rw [← hX']; exact hb), fun y c e => f4 y c (hcl y c (by rw [eV] at e; exact e)), fun p hp z => ?_⟩
    · rw [← hX'] at z
      rcases List.mem_cons.mp (I.stkSub b z) with q | q
      · exact f1 q
      · exact f2 q
    · have hp' : p ∈ pl := by rw [← hX'] at hp; exact hp
      rcases hpl p hp' with q | q
      · exact f5 p (List.mem_append_right _ q) z
      · have := hfp b hb
        rw [← z, q] at this
        exact absurd this (Nat.lt_irrefl _)
  obtain ⟨W, ⟨m0, w0⟩, turn⟩ := hw
  have loop : ∀ s₃ : Shared, s₃ = { s with heap := h₁, toks := s.toks + ([] : List (Str × Value)).length } →
      codeAny (model X.prog X.w) X.A (.compLoop (.ListComp elt [⟨.Name x px, iter, ifs, 0⟩] scope pos) 0 (.ref it) (.ref D) (compEnvC scope cl C X.env)) (RR (.ref D) C) s₃ := by
    rintro s₃ rfl
    refine comp_loop (fun n s' => ∃ i ys us ox H', Inv X' pins (ox :: capV σ cp) H' s' ∧ tn i s'.heap ∧ (∀ b ∈ fp, H' b = none) ∧ s'.heap.PlainList D us.toArray ∧ Vals ys us ∧ H' D = none ∧ W i n ys H') ?_ m0
      ⟨0, [], [], none, H, I₁, st₁, fun b hb => (hf b hb).1, hacc, .nil, I.hok.fresh (by rw [hDe]; exact Nat.le_refl _), w0⟩
    rintro n s3 ⟨i, ys, us, ox, H3, I3, st3, fr3, pl3, v3, n3, w3⟩
    obtain ⟨nD, oD⟩ := pl3
    -- the list is pinned
    have I3p : Inv X' (pins ++ [((D, { cls := .type "list", data := .seq us.toArray nD }) : Addr × Obj)]) (ox :: capV σ cp) H3 s3 := I3.pins_of fun p hp => by
      rcases List.mem_append.mp hp with z | z
      · exact I3.pin p (List.mem_append_right _ z)
      · have e : p = ((D, { cls := .type "list", data := .seq us.toArray nD }) : Addr × Obj) := by simpa using z
        subst e
        obtain ⟨f0, f1, f2, _⟩ := fpD H3 n3
        exact ⟨oD, f0, f1, f2, fun v z => by cases z⟩
    have plOk : ∀ p ∈ pins ++ [((D, { cls := .type "list", data := .seq us.toArray nD }) : Addr × Obj)], p ∈ pins ∨ p.1 = D := fun p hp => by
      rcases List.mem_append.mp hp with z | z
      · exact .inl z
      · have e : p = ((D, { cls := .type "list", data := .seq us.toArray nD }) : Addr × Obj) := by simpa using z
        subst e
        exact .inr rfl
    have dPin : ∀ {pl : List (Addr × Obj)} {σ' : St} {H' : Hp} {s' : Shared}, Inv X' ((pins ++ [((D, { cls := .type "list", data := .seq us.toArray nD }) : Addr × Obj)]) ++ pl) σ' H' s' → s'.heap.get? D = some { cls := .type "list", data := .seq us.toArray nD } ∧ H' D = none := fun I' => by
      obtain ⟨e, n, _⟩ := I'.pin (D, _) (List.mem_append_right _ (List.mem_append_left _ (List.mem_append_right _ (List.mem_singleton.mpr rfl))))
      exact ⟨e, n⟩
    rcases turn i n ys H3 w3 with ⟨stop, hl, hend⟩ | ⟨go, hl, step⟩
    · refine thn (eA ▸ T.done X' eP eW eK eC i _ s3 _ H3 FF I3p (fpF _ H3 fr3 plOk) st3 stop) fun r s4 ⟨hr, I4⟩ => ?_
      subst hr
      obtain ⟨e4, n4⟩ := dPin (pl := []) (by rw [List.append_nil]; exact I4)
      have I4' : Inv X' pins (ox :: capV σ cp) H3 s4 := I4.unpinned
      -- back to X
      have un : Un (frs X.stack) fp H H3 s.heap s4.heap := by
        have := I4'.base
        rw [← hX'] at this
        exact this
      have os4 : s4.os = s.os := by
        have := I4'.os
        rw [← hX'] at this
        exact this
      have J4 : Inv X pins σ H3 s4 := I.call' (ch := fp) os4 un (by have := I4'.hok; rw [eP, eW] at this; exact this) I4'.bare fun b hb => by
        obtain ⟨_, f1, f2, f3, f4, f5⟩ := hf b hb
        exact ⟨f3, f1, f4, f5⟩
      obtain ⟨mC, hnsC, _⟩ := I4'.loc
      rw [fL] at hnsC
      obtain ⟨oC, esC, epC, hoC, hdC, rC⟩ := hnsC
      have fpC : ∀ H', H' C = none → FpOk X pins H' C := fun H' hn => I.fpOk (by rw [hDe]; exact hCle) hn
      have nC : H3 C = none := by have := I4'.free; rw [fL] at this; exact this
      have J5 : Inv X (pins ++ [(C, oC)]) σ H3 s4 := J4.pins_of fun p hp => by
        rcases List.mem_append.mp hp with z | z
        · exact J4.pin p (List.mem_append_right _ z)
        · have e : p = (C, oC) := by simpa using z
          subst e
          obtain ⟨f0, f1, f2, _⟩ := fpC H3 nC
          exact ⟨hoC, f0, f1, f2, fun v z => by rw [hdC] at z; cases z⟩
      have fD : FpOk X pins H3 D := I.fpOk (by rw [hDe]; exact Nat.le_refl _) n4
      refine hRR D C s4 ys H3 oC (J5.adopt n4 fD.2.1 (Nat.le_trans I.sz (by rw [hDe]; exact Nat.le_refl _)) fD.2.2.2.2.1 (fun p hp => ?_) ⟨hl, us, nD, v3, e4⟩) ⟨mC, fun h q => ⟨oC, esC, epC, q, hdC, rC⟩⟩ n4 hend fpC
      rcases List.mem_append.mp hp with z | z
      · exact fD.2.2.2.2.2 p (List.mem_append_left _ z)
      · rcases List.mem_append.mp z with z | z
        · exact fD.2.2.2.2.2 p (List.mem_append_right _ z)
        · have e : p = (C, oC) := by simpa using z
          subst e
          exact Ne.symm hDC
    · refine thn (eA ▸ T.item X' eP eW eK eC i _ s3 _ H3 FF I3p (fpF _ H3 fr3 plOk) st3 go) fun r s4 ⟨u, hr, h4⟩ => ?_
      subst hr
      refine thn h4 fun _ s5 ⟨v, H5, I5, r5, y5, st5, fr5⟩ => ?_
      have I5' := I5.pinned (fpF _ H5 fr5 plOk) (T.obj _ _ st5)
      obtain ⟨N, N', hNn, hNn', q5⟩ := step v H5 y5
      have hgo := hg _ s5 _ H5 v u (fun σ' H' => σ' = some v :: capV σ cp ∧ H' = H5) I5' r5 ⟨rfl, rfl⟩
      rw [eP, eW, eA, eX, eV] at hgo
      refine thn hgo fun _ s6 ⟨σ6, H6, I6, e6, e6'⟩ => ?_
      subst e6 e6'
      have hto := ht' _ s6 _ H6 _ I6 q5
      rw [eP, eW, eA, eX, eV] at hto
      refine thn hto fun b s7 ⟨H7, I7, q7⟩ => ?_
      have keepTn : ∀ {σ' : St} {H' : Hp} {s' : Shared}, Inv X' ((pins ++ [((D, { cls := .type "list", data := .seq us.toArray nD }) : Addr × Obj)]) ++ pinsAt fp s5.heap) σ' H' s' → tn (i + 1) s'.heap ∧ ∀ b ∈ fp, H' b = none := fun I' =>
        ⟨T.keep _ _ _ st5 fun b hb o e => (I'.pin (b, o) (List.mem_append_right _ (List.mem_append_right _ (mem_pinsAt hb e)))).1, fun b hb => by
          obtain ⟨o, e, d⟩ := T.obj _ _ st5 b hb
          exact (I'.pin (b, o) (List.mem_append_right _ (List.mem_append_right _ (mem_pinsAt hb e)))).2.1⟩
      cases b with
      | false =>
        rw [if_neg (by decide)] at q7 ⊢
        obtain ⟨m', hm, w7⟩ := hNn' _ q7
        obtain ⟨e7, n7⟩ := dPin I7
        obtain ⟨t7, f7⟩ := keepTn I7
        exact ⟨m', hm, i + 1, ys, us, some v, H7, I7.unpinned.unpinned, t7, f7, ⟨nD, e7⟩, v3, n7, w7⟩
      | true =>
        rw [if_pos rfl] at q7 ⊢
        have heo := he' _ s7 _ H7 _ I7 q7
        rw [eP, eW, eA, eX, eV] at heo
        refine thn heo fun y s8 ⟨y8, H8, I8, r8, q8⟩ => ?_
        obtain ⟨e8, n8⟩ := dPin I8
        obtain ⟨t8, f8⟩ := keepTn I8
        obtain ⟨m', hm, w8⟩ := hNn _ _ q8
        refine wpAny_list_append_plain ⟨nD, e8⟩ (fun h9 p9 sb9 => ?_) (by rw [List.size_toArray, ← v3.length]; exact Nat.le_of_lt hl)
        obtain ⟨g0, g1, g2, g3, g4, g5⟩ := fpD H8 n8
        have I9 : Inv X' pins (some v :: capV σ cp) H8 { s8 with heap := h9 } := I8.unpinned.unpinned.turned (t' := s8.toks) (fun b o hb e => (sb9.2 b hb).trans e) g0 g1 g3 g4 g5
        refine ⟨m', hm, i + 1, ys ++ [y8], us ++ [y], some v, H8, I9, T.keep _ _ _ t8 fun b hb o e => ?_, f8, ?_, v3.snoc r8, n8, w8⟩
        · refine (sb9.2 b ?_).trans e
          have := hfp b hb
          intro z
          rw [z] at this
          exact absurd this (Nat.lt_irrefl _)
        · have : (us ++ [y]).toArray = us.toArray.push y := by simp
          rw [this]
          exact p9
  exact codeAny_compStart_list (loop _ rfl) (T.self _ 0 _ _ _ st₁ (loop _ rfl))
end
end L2

set_option Elab.async false
set_option linter.all false
set_option maxRecDepth 100000
set_option maxHeartbeats 4000000
namespace L2
open PySem PySem.Spec PyProof.Rows
section
variable {X : Cx} {scope : Scope} {x : Str} {cp : List (Nat × Str)} {px pos : Pos} {elt iter : Expr} {ifs : List Expr} {tt : TT} {te : TE} {wi : TI}
def tComp (wi : TI) (cp : List (Nat × Str)) (tt : TT) (te : TE) : TE := fun σ H Q => wi σ H fun J H1 => compW J (capV σ cp) tt te (fun ys H2 => ∀ p, H2 p = none → Q (.ref p) (upd H2 p (.lst ys))) H1
/-- [elt for x in iter if ..] -/
theorem pe_comp (S : CompScope X scope x cp) (hc : X.calm = true) (hi : PI X (.Name x px) iter wi)
    (ht : ∀ cl C s H fp, PTs (compCx X scope cl C (x :: cp.map (·.2)) s H fp) ifs tt) (he : ∀ cl C s H fp, PE (compCx X scope cl C (x :: cp.map (·.2)) s H fp) elt te)
    (hs : ∀ v, foldedSetIterable iter X.env v = pure v := by intro _; rfl) : PE X (.ListComp elt [⟨.Name x px, iter, ifs, 0⟩] scope pos) (tComp wi cp tt te) := by
  intro pins s σ H Q I h
  rw [eval_ListComp]
  obtain ⟨cl, ec, hcl, hfr⟩ := closure_ok (env := X.env) (scope := scope) fun y hy hk => I.ok.has y.1 (.inl (S.free y hy hk))
  refine wpAny_comprehension_free (use := none) rfl hs ec S.kind S.names (thn (hi pins s σ H _ I h) fun v s1 h1 => thn h1 fun itv s2 h2 => ?_)
  obtain ⟨it, fp, tn, J, H2, e, I2, T, st2, f2, hw⟩ := h2
  subst e
  refine comp_block (RR := fun acc C => compPost (model X.prog X.w) X.A X.xe none (EP X pins σ Q) acc C) S hc I2 hcl hfr T st2 f2 ht he hw ?_
  intro D C s' ys H3 o I3 hm nD hend fC
  obtain ⟨m, hm⟩ := hm
  obtain ⟨e3, n3, _⟩ := I3.pin (C, o) (List.mem_append_right _ (List.mem_append_right _ (List.mem_singleton.mpr rfl)))
  refine ⟨m, hm _ e3, fun h' sb => ?_⟩
  obtain ⟨f0, f1, f2', f3, f4, f5⟩ := fC _ n3
  exact ⟨.ref D, upd H3 D (.lst ys), I3.unpinned.turned (t' := s'.toks) (fun b o hb e => (sb.2 b hb).trans e) f0 f1 f3 f4 f5, rfl, hend D nD⟩
/-- y = [elt for x in iter if ..], y a plain local -/
theorem ps_setComp {i : Nat} {y : Str} {py spos : Pos} (hN : X.N.Nodup) (hi' : X.N[i]? = some y) (hy : X.env.scope.names.lookup y = some .local) (S : CompScope X scope x cp) (hc : X.calm = true) (hi : PI X (.Name x px) iter wi)
    (ht : ∀ cl C s H fp, PTs (compCx X scope cl C (x :: cp.map (·.2)) s H fp) ifs tt) (he : ∀ cl C s H fp, PE (compCx X scope cl C (x :: cp.map (·.2)) s H fp) elt te)
    (hsw : swapsWith (.ListComp elt [⟨.Name x px, iter, ifs, 0⟩] scope pos) (some (.Name y py)) spos.line X.env = pure true := by rfl)
    (hs : ∀ v, foldedSetIterable iter X.env v = pure v := by intro _; rfl) : PS X (.Assign [.Name y py] (.ListComp elt [⟨.Name x px, iter, ifs, 0⟩] scope pos) spos) (tAsg (tComp wi cp tt te) (gName i)) := by
  intro pins s σ H D I h
  rw [exec_Assign_Name_used _ _ _ _ hsw]
  refine wpAny_bind (wpAny_standAt (wpAny_bind ?_))
  show wpAny _ X.A (do let _ ← comprehension (.ListComp elt [⟨.Name x px, iter, ifs, 0⟩] scope pos) scope X.env _ (newList []) false (eval iter X.env) (some (assign (.Name y py) X.env))) _ _ s
  obtain ⟨cl, ec, hcl, hfr⟩ := closure_ok (env := X.env) (scope := scope) fun y hy hk => I.ok.has y.1 (.inl (S.free y hy hk))
  refine wpAny_bind (wpAny_mono (wpAny_comprehension_free (use := some (assign (.Name y py) X.env)) (Q := fun _ s' => SP X pins D .next s') rfl hs ec S.kind S.names
    (thn (hi pins s σ H _ I h) fun v s1 h1 => thn h1 fun itv s2 h2 => ?_)) (fun _ s' hq => wpAny_pure (wpAny_pure hq)) fun _ _ e => e)
  obtain ⟨it, fp, tn, J, H2, e, I2, T, st2, f2, hw⟩ := h2
  subst e
  refine comp_block (RR := fun acc C => compPost (model X.prog X.w) X.A X.xe (some (assign (.Name y py) X.env)) (fun _ s' => SP X pins D .next s') acc C) S hc I2 hcl hfr T st2 f2 ht he hw ?_
  intro D' C s' ys H3 o I3 hm nD hend fC
  obtain ⟨m, hm⟩ := hm
  show wpAny _ X.A (assign (.Name y py) X.env (.ref D')) _ _ _
  refine wpAny_assign_Name (store_ok I3 hN hi' (.inl hy) (v := .ref D') rfl (fun s4 I4 => ?_) (.inr hy))
  obtain ⟨e3, n3, _⟩ := I4.pin (C, o) (List.mem_append_right _ (List.mem_append_right _ (List.mem_singleton.mpr rfl)))
  refine ⟨m, hm _ e3, fun h' sb => ?_⟩
  obtain ⟨f0, f1, f2', f3, f4, f5⟩ := fC _ n3
  exact ⟨_, upd H3 D' (.lst ys), I4.unpinned.turned (t' := s4.toks) (fun b o hb e => (sb.2 b hb).trans e) f0 f1 f3 f4 f5, hend D' nD⟩

/-! ### the forms one uses: every item, by a list, a range; with a test, by a list -/
/-- the items ys grow with the places; Pv: what holds behind i items -/
theorem comp_list {K : PySem.W.Frag} {a : Addr} {xs : List V} {cv : St} {te : TE} {END : List V → Hp → Prop} {H : Hp} (Pv : Nat → List V → Hp → Prop) (h0 : Pv 0 [] H) (hl : ∀ i ys H, i ≤ xs.length → Pv i ys H → SqL K H a xs ∧ ys.length ≤ i) (hz : xs.length ≤ sizeLine)
    (hs : ∀ i x ys H, xs[i]? = some x → Pv i ys H → te (some x :: cv) H fun y H5 => Pv (i + 1) (ys ++ [y]) H5) (hd : ∀ ys H, Pv xs.length ys H → END ys H) : compW (Itl K a) cv tAlways te END H := by
  refine ⟨fun i m ys H => m = xs.length - i ∧ i ≤ xs.length ∧ Pv i ys H, ⟨xs.length, by simp, Nat.zero_le _, h0⟩, ?_⟩
  rintro i m ys H ⟨rfl, hi, p⟩
  obtain ⟨q, hy⟩ := hl i ys H hi p
  by_cases hlt : i < xs.length
  · refine .inr ⟨⟨xs, xs[i], q, by simp [hlt]⟩, by omega, fun v H' y => ?_⟩
    obtain ⟨e, y⟩ := y
    subst e
    refine ⟨fun v' H1 => Pv (i + 1) (ys ++ [v']) H1, fun _ => False, fun v' H1 p' => ⟨xs.length - (i + 1), by omega, rfl, hlt, p'⟩, fun _ z => z.elim, ?_⟩
    exact iteT (B := False) (hs i v ys _ (y xs q) p)
  · have e : i = xs.length := by omega
    subst e
    exact .inl ⟨⟨xs, q, Nat.le_refl _⟩, by omega, hd ys H p⟩
theorem comp_listT {K : PySem.W.Frag} {a : Addr} {xs : List V} {cv : St} {tt : TT} {te : TE} {END : List V → Hp → Prop} {H : Hp} (Pv : Nat → List V → Hp → Prop) (h0 : Pv 0 [] H) (hl : ∀ i ys H, i ≤ xs.length → Pv i ys H → SqL K H a xs ∧ ys.length ≤ i) (hz : xs.length ≤ sizeLine)
    (hs : ∀ i x ys H, xs[i]? = some x → Pv i ys H → tt (some x :: cv) H fun b H4 => if b = true then te (some x :: cv) H4 (fun y H5 => Pv (i + 1) (ys ++ [y]) H5) else Pv (i + 1) ys H4) (hd : ∀ ys H, Pv xs.length ys H → END ys H) : compW (Itl K a) cv tt te END H := by
  refine ⟨fun i m ys H => m = xs.length - i ∧ i ≤ xs.length ∧ Pv i ys H, ⟨xs.length, by simp, Nat.zero_le _, h0⟩, ?_⟩
  rintro i m ys H ⟨rfl, hi, p⟩
  obtain ⟨q, hy⟩ := hl i ys H hi p
  by_cases hlt : i < xs.length
  · refine .inr ⟨⟨xs, xs[i], q, by simp [hlt]⟩, by omega, fun v H' y => ?_⟩
    obtain ⟨e, y⟩ := y
    subst e
    exact ⟨fun v' H1 => Pv (i + 1) (ys ++ [v']) H1, fun H1 => Pv (i + 1) ys H1, fun v' H1 p' => ⟨xs.length - (i + 1), by omega, rfl, hlt, p'⟩, fun H1 p' => ⟨xs.length - (i + 1), by omega, rfl, hlt, p'⟩, hs i v ys _ (y xs q) p⟩
  · have e : i = xs.length := by omega
    subst e
    exact .inl ⟨⟨xs, q, Nat.le_refl _⟩, by omega, hd ys H p⟩
theorem comp_range {lo : Int} {n : Nat} {cv : St} {te : TE} {END : List V → Hp → Prop} {H : Hp} (Pv : Nat → List V → Hp → Prop) (h0 : Pv 0 [] H) (hl : ∀ i ys H, i ≤ n → Pv i ys H → ys.length ≤ i) (hz : n ≤ sizeLine)
    (hs : ∀ i ys H, i < n → Pv i ys H → te (some (.int (lo + i)) :: cv) H fun y H5 => Pv (i + 1) (ys ++ [y]) H5) (hd : ∀ ys H, Pv n ys H → END ys H) : compW (Itr lo n) cv tAlways te END H := by
  refine ⟨fun i m ys H => m = n - i ∧ i ≤ n ∧ Pv i ys H, ⟨n, by simp, Nat.zero_le _, h0⟩, ?_⟩
  rintro i m ys H ⟨rfl, hi, p⟩
  have hy := hl i ys H hi p
  by_cases hlt : i < n
  · refine .inr ⟨hlt, by omega, fun v H' y => ?_⟩
    obtain ⟨e, y⟩ := y
    subst e y
    refine ⟨fun v' H1 => Pv (i + 1) (ys ++ [v']) H1, fun _ => False, fun v' H1 p' => ⟨n - (i + 1), by omega, rfl, hlt, p'⟩, fun _ z => z.elim, ?_⟩
    exact iteT (B := False) (hs i ys _ hlt p)
  · have e : i = n := by omega
    subst e
    exact .inl ⟨Nat.le_refl _, by omega, hd ys H p⟩
end
end L2

set_option Elab.async false
set_option linter.all false
set_option maxRecDepth 100000
set_option maxHeartbeats 4000000
namespace L2
open PySem PySem.Spec PyProof.Rows

/-! ### the signs of a text -/
def Its (z : Str) : It := ⟨fun i _ => i < z.cps.size, fun i H x H' => H' = H ∧ ∃ c, z.cps[i]? = some c ∧ x = .str ⟨#[c]⟩, fun i _ => z.cps.size ≤ i⟩
theorem turn_str {P : Program} {w : World} {K : PySem.W.Frag} {x : Str} {px : Pos} {ty : String} (z : Str) (t : Tok) (it : Addr)
    (W : ∀ A : Around, A.handled = none → Walks P w A it [it] [it] z.cps.size (SignAt z) (fun i h => h.IsStrIter it ty z t i))
    (hs : ∀ (A : Around) (i : Nat) (s : Shared) (Q : Value → Shared → Prop) (E : Value → Shared → Prop), s.heap.IsStrIter it ty z t i → Q (.ref it) s → wpAny (model P w) A (pyIter (.ref it)) Q E s) : Turn P w K (.Name x px) (Its z) [it] it (fun i h => i ≤ z.cps.size ∧ h.IsStrIter it ty z t i) where
  mem := by simp
  obj := fun i h st b hb => by
    have e : b = it := by simpa using hb
    subst e
    obtain ⟨_, o, e, c, d⟩ := st
    exact ⟨o, e, fun v z => by rw [d] at z; cases z⟩
  keep := fun i h h' st k => ⟨st.1, let ⟨o, ho, r⟩ := st.2; ⟨o, k it (by simp) o ho, r⟩⟩
  item := by
    intro X hP hw hK hc i pins s σ H E I hf st hg
    subst hP hw hK
    obtain ⟨f0, f1, f2, f3, f4, f5⟩ := hf it (by simp)
    have hi : i < z.cps.size := hg
    refine (W X.A (I.ok.hd hc)).item i s _ _ hi st.2 fun v h' tk hv st' kk => ?_
    obtain ⟨c, u, hcu, rfl⟩ := hv
    have I1 : Inv X pins σ H { s with heap := h', toks := tk } := I.turned (fun b o hb e => kk b o (by simpa using hb) e) f0 f1 f3 f4 f5
    exact ⟨_, rfl, wpAny_pure ⟨.str ⟨#[c]⟩, H, I1, ⟨u, rfl⟩, ⟨rfl, c, hcu, rfl⟩, ⟨hi, st'⟩, fun b hb => (hf b hb).1⟩⟩
  done := by
    intro X hP hw hK hc i pins s σ H E I hf st hg
    subst hP hw hK
    obtain ⟨f0, f1, f2, f3, f4, f5⟩ := hf it (by simp)
    have hi : i = z.cps.size := Nat.le_antisymm st.1 hg
    refine (W X.A (I.ok.hd hc)).done s _ _ (hi ▸ st.2) fun h' tk kk => ?_
    exact ⟨rfl, I.turned (fun b o hb e => kk b o (by simpa using hb) e) f0 f1 f3 f4 f5⟩
  self := fun A i s Q E st h => hs A i s Q E st.2 h
section
variable {X : Cx} {x : Str} {px : Pos}
def iStr (tl : TE) : TI := fun σ H R => tl σ H fun x H1 => ∃ z, x = .str z ∧ R (Its z) H1
theorem pi_str {l : Expr} {tl : TE} (hl : PE X l tl) : PI X (.Name x px) l (iStr tl) := by
  intro pins s σ H R I h
  refine thn (hl pins s σ H _ I h) fun v s1 ⟨xv, H1, I1, r1, q1⟩ => ?_
  obtain ⟨z, e, q⟩ := q1
  subst e
  obtain ⟨t, rfl⟩ := r1
  have fin : ∀ (o : Obj) (ty : String), o.cls = .type ty → o.data = .fields #[.str z t, .int 0 0] → o.isFreed = false → (∀ A : Around, A.handled = none → Walks X.prog X.w A s1.heap.objs.size [s1.heap.objs.size] [s1.heap.objs.size] z.cps.size (SignAt z) (fun i h => h.IsStrIter s1.heap.objs.size ty z t i)) →
      (∀ (A : Around) (i : Nat) (s : Shared) (Q : Value → Shared → Prop) (E : Value → Shared → Prop), s.heap.IsStrIter s1.heap.objs.size ty z t i → Q (.ref s1.heap.objs.size) s → wpAny (model X.prog X.w) A (pyIter (.ref s1.heap.objs.size)) Q E s) →
      PIE X pins σ (.Name x px) R (.ref s1.heap.objs.size) { s1 with heap := s1.heap.push o } := fun o ty h1 h2 h3 W hs => by
    refine ⟨s1.heap.objs.size, [s1.heap.objs.size], _, _, H1, rfl, I1.kept (t' := s1.toks) fun b o e => Heap.get?_push_of_some _ e, turn_str z t _ W hs, ⟨Nat.zero_le _, o, Heap.get?_push_size _ h3, h1, h2⟩, fun b hb => ?_, q⟩
    have e : b = s1.heap.objs.size := by simpa using hb
    subst e
    exact I1.fpOk (Nat.le_refl _) (I1.hok.fresh (Nat.le_refl _))
  cases ha : z.cps.all (· < 128)
  · exact wpAny_pyIter_wide ha (fin { cls := .type "str_iterator", data := .fields #[.str z t, .int 0 0] } "str_iterator" rfl rfl rfl (fun A' hA => Walks.strWide hA _ z t) fun A i s Q E st h => wpAny_pyIter_striter_wide st h)
  · exact wpAny_pyIter_ascii ha (fin { cls := .type "str_ascii_iterator", data := .fields #[.str z t, .int 0 0] } "str_ascii_iterator" rfl rfl rfl (fun A' hA => Walks.strAscii hA _ z t) fun A i s Q E st h => wpAny_pyIter_striter_ascii st h)
end
theorem for_str {z : Str} {g : TG} {tb : TS} {D : Ends} {σ : St} {H : Hp} (Pv : Nat → St → Hp → Prop) (h0 : Pv 0 σ H)
    (hs : ∀ i c σ H, z.cps[i]? = some c → Pv i σ H → g (.str ⟨#[c]⟩) σ H fun σ2 H2 => tb { D with nx := Pv (i + 1), ct := Pv (i + 1), bk := D.nx } σ2 H2) (hd : ∀ σ H, Pv z.cps.size σ H → D.nx σ H) :
    ∃ W : Nat → Nat → St → Hp → Prop, (∃ m, W 0 m σ H) ∧ ∀ i m σ H, W i m σ H →
      ((Its z).stop i H ∧ D.nx σ H) ∨ ((Its z).go i H ∧ ∃ N : St → Hp → Prop, (∀ σ' H', N σ' H' → ∃ m', m' < m ∧ W (i + 1) m' σ' H') ∧ ∀ x H', (Its z).yld i H x H' → g x σ H' fun σ2 H2 => tb { D with nx := N, ct := N, bk := D.nx } σ2 H2) := by
  refine ⟨fun i m σ H => m = z.cps.size - i ∧ i ≤ z.cps.size ∧ Pv i σ H, ⟨z.cps.size, by simp, Nat.zero_le _, h0⟩, ?_⟩
  rintro i m σ H ⟨rfl, hi, p⟩
  by_cases hlt : i < z.cps.size
  · refine .inr ⟨hlt, Pv (i + 1), fun σ' H' p' => ⟨z.cps.size - (i + 1), by omega, rfl, hlt, p'⟩, fun x H' y => ?_⟩
    obtain ⟨e, c, hc, y⟩ := y
    subst e y
    exact hs i c σ _ hc p
  · have e : i = z.cps.size := by omega
    subst e
    exact .inl ⟨Nat.le_refl _, hd σ H p⟩
theorem comp_str {z : Str} {cv : St} {te : TE} {END : List V → Hp → Prop} {H : Hp} (Pv : Nat → List V → Hp → Prop) (h0 : Pv 0 [] H) (hl : ∀ i ys H, i ≤ z.cps.size → Pv i ys H → ys.length ≤ i) (hz : z.cps.size ≤ sizeLine)
    (hs : ∀ i c ys H, z.cps[i]? = some c → Pv i ys H → te (some (.str ⟨#[c]⟩) :: cv) H fun y H5 => Pv (i + 1) (ys ++ [y]) H5) (hd : ∀ ys H, Pv z.cps.size ys H → END ys H) : compW (Its z) cv tAlways te END H := by
  refine ⟨fun i m ys H => m = z.cps.size - i ∧ i ≤ z.cps.size ∧ Pv i ys H, ⟨z.cps.size, by simp, Nat.zero_le _, h0⟩, ?_⟩
  rintro i m ys H ⟨rfl, hi, p⟩
  have hy := hl i ys H hi p
  by_cases hlt : i < z.cps.size
  · refine .inr ⟨hlt, by omega, fun v H' y => ?_⟩
    obtain ⟨e, c, hc, y⟩ := y
    subst e y
    refine ⟨fun v' H1 => Pv (i + 1) (ys ++ [v']) H1, fun _ => False, fun v' H1 p' => ⟨z.cps.size - (i + 1), by omega, rfl, hlt, p'⟩, fun _ z => z.elim, ?_⟩
    exact iteT (B := False) (hs i c ys _ hc p)
  · have e : i = z.cps.size := by omega
    subst e
    exact .inl ⟨Nat.le_refl _, by omega, hd ys H p⟩

/-! ### the keys of a dict, which stands frozen meanwhile -/
section
variable {X : Cx} {pins : List (Addr × Obj)} {σ : St} {H : Hp} {s : Shared} {d : Addr} {o : Obj}
end
section
variable {X : Cx} {x : Str} {px pos : Pos}
end
end L2

set_option Elab.async false
set_option linter.all false
set_option maxRecDepth 100000
set_option maxHeartbeats 4000000
namespace L2
open PySem PySem.Spec PyProof.Rows

/-! ### the texts that differ -/
def addOne (l : List Str) (x : Str) : List Str := if x ∈ l then l else l ++ [x]
def dd (ts : List Str) : List Str := ts.foldl addOne []
theorem dd_snoc (ts : List Str) (x : Str) : dd (ts ++ [x]) = addOne (dd ts) x := by unfold dd; rw [List.foldl_append]; rfl
theorem addOne_len (l : List Str) (x : Str) : (addOne l x).length ≤ l.length + 1 := by
  unfold addOne; split
  · omega
  · rw [List.length_append]; exact Nat.le_refl _
theorem fold_len (ts : List Str) : ∀ l : List Str, (ts.foldl addOne l).length ≤ l.length + ts.length := by
  induction ts with
  | nil => intro l; exact Nat.le_refl _
  | cons x r ih =>
    intro l
    have h1 := ih (addOne l x)
    have h2 := addOne_len l x
    rw [List.foldl_cons, List.length_cons]; omega
theorem dd_len (ts : List Str) : (dd ts).length ≤ ts.length := by have := fold_len ts []; rw [List.length_nil] at this; unfold dd; omega
theorem fold_nd : ∀ (ts l : List Str), (∀ x ∈ ts, x ∉ l) → ts.Nodup → ts.foldl addOne l = l ++ ts
  | [], l, _, _ => by simp
  | x :: r, l, h, nd => by
    have hx : x ∉ l := h x List.mem_cons_self
    have e : addOne l x = l ++ [x] := by unfold addOne; rw [if_neg hx]
    rw [List.foldl_cons, e, fold_nd r (l ++ [x]) (fun y hy hm => ?_) (List.nodup_cons.mp nd).2, List.append_assoc]
    · rfl
    · rcases List.mem_append.mp hm with z | z
      · exact h y (List.mem_cons_of_mem _ hy) z
      · have : y = x := by simpa using z
        subst this
        exact (List.nodup_cons.mp nd).1 hy
theorem dd_nodup {ts : List Str} (h : ts.Nodup) : dd ts = ts := by
  unfold dd; rw [fold_nd ts [] (fun _ _ z => by cases z) h]; rfl
section
variable {prog : Program} {w : World} {A : Around} {R : Result → Shared → Prop} {I : Addr} {fp wr : List Addr} {P : Nat → Value → Prop} {St : Nat → Heap → Prop}
abbrev SetS (prog : Program) (w : World) (h : Heap) (S : Addr) (l : List Str) : Prop := h.SetOf (strKind prog w) S (fun x => decide (x ∈ l)) l.length
theorem SetS.add {h : Heap} {S : Addr} {l : List Str} {x : Str} (q : h.SetOf (strKind prog w) S (fun k => decide (k ∈ l) || decide (k = x)) (if decide (x ∈ l) = true then l.length else l.length + 1)) : SetS prog w h S (addOne l x) := by
  have e1 : (fun k => decide (k ∈ l) || decide (k = x)) = fun k => decide (k ∈ addOne l x) := by
    funext k
    unfold addOne
    split
    · rename_i hx
      by_cases e : k = x
      · subst e; simp [hx]
      · simp [e]
    · simp
  have e2 : (if decide (x ∈ l) = true then l.length else l.length + 1) = (addOne l x).length := by
    unfold addOne
    by_cases hx : x ∈ l
    · simp [hx]
    · simp [hx]
  rw [e1, e2] at q
  exact q
theorem SetS.at {h h' : Heap} {S : Addr} {l : List Str} (q : SetS prog w h S l) (k : ∀ o, h.get? S = some o → h'.get? S = some o) : SetS prog w h' S l := by
  obtain ⟨o, es, ep, t, ho, r⟩ := q
  exact ⟨o, es, ep, t, k o ho, r⟩
theorem set_loop {vals : List Str} (W : Walks prog w A.in1 I fp wr vals.length P St) (S : Addr) (hSf : S ∉ fp) (hval : ∀ i v, P i v → ∃ x t, vals[i]? = some x ∧ v = .str x t) (hb : vals.length + 1 < scanBound) :
    ∀ (k i : Nat) (s : Shared), vals.length - i = k → i ≤ vals.length → St i s.heap → SetS prog w s.heap S (dd (vals.take i)) →
      (∀ h' tk, (∀ b o, b ≠ S → b ∉ wr → s.heap.get? b = some o → h'.get? b = some o) → SetS prog w h' S (dd vals) → R (.ok (.ret .none)) { s with heap := h', toks := tk }) →
      codeAny (model prog w) A (.builtin "set.update.loop" ⟨[.ref S, .ref I], []⟩) R s := by
  have hSw : S ∉ wr := fun z => hSf (W.sub _ z)
  intro k
  induction k with
  | zero =>
    intro i s hk hi st hS hR
    have e : i = vals.length := by omega
    subst e
    rw [List.take_length] at hS
    refine codeAny_builtin PyProof.Rows.F.entry_set_update_loop ?_
    rw [Around.under_plainId PyProof.Rows.F.plain_set_update_loop _]
    show wpAny _ A.in1 (pyNext (.ref I) >>= _) _ _ s
    exact wpAny_bind (W.done s _ _ st fun h' tk kk => wpAny_pure (hR h' tk (fun b o _ hb e => kk b o hb e) (hS.at fun o e => kk S o hSw e)))
  | succ k ih =>
    intro i s hk hi st hS hR
    have hlt : i < vals.length := by omega
    refine codeAny_builtin PyProof.Rows.F.entry_set_update_loop ?_
    rw [Around.under_plainId PyProof.Rows.F.plain_set_update_loop _]
    show wpAny _ A.in1 (pyNext (.ref I) >>= _) _ _ s
    refine wpAny_bind (W.item i s _ _ hlt st fun v h1 tk hP st' kk => ?_)
    obtain ⟨x, t, hx, rfl⟩ := hval i v hP
    have hS1 : SetS prog w h1 S (dd (vals.take i)) := hS.at fun o e => kk S o hSw e
    show wpAny _ A.in1 (holding [Value.str x t] (setAdd S (.str x t)) >>= _) _ _ _
    refine wpAny_bind (wpAny_holding ?_)
    unfold setAdd
    refine wpAny_holding (wpAny_bind ((strKind prog w).pyHash (k := x) (strKind_is _ _ _ _) ?_))
    have hlen := dd_len (vals.take i)
    rw [List.length_take] at hlen
    refine wpAny_setAddHashed_of (knd := strKind prog w) (s := { s with heap := h1, toks := tk + 1 }) (strKind_is _ _ _ _) rfl hS1 (by omega) fun h2 sb hS2 => ?_
    have hS3 := SetS.add hS2
    rw [← dd_snoc] at hS3
    have et : vals.take i ++ [x] = vals.take (i + 1) := by
      rw [List.take_add_one, hx]
      rfl
    rw [et] at hS3
    refine wpAny_pure ⟨plainId_quiet PyProof.Rows.F.plain_set_update_loop _, ih (i + 1) _ (by omega) hlt (W.frame _ _ _ st' fun b hb o e => ?_) hS3 fun h3 tk3 k3 q3 => ?_⟩
    · rw [sb.2 b (fun z : b = S => hSf (by rw [← z]; exact hb))]; exact e
    · refine hR h3 tk3 (fun b o hb hw e => k3 b o hb hw ?_) q3
      show h2.get? b = some o
      rw [sb.2 b hb]
      exact kk b o hw e
end
end L2

set_option Elab.async false
set_option linter.all false
set_option maxRecDepth 100000
set_option maxHeartbeats 4000000
namespace L2
open PySem PySem.Spec PyProof.Rows
theorem sub_str_set : isSubtype (.type "str") (.type "set") = pure false := by rw [isSubtype_type]; kernel_rfl
theorem sub_str_frozenset : isSubtype (.type "str") (.type "frozenset") = pure false := by rw [isSubtype_type]; kernel_rfl
section
variable {prog : Program} {w : World} {A : Around} {E : Value → Shared → Prop} {s : Shared}
abbrev freshSet (led : Bool) : Obj := { cls := .type "set", dict := none, data := .set #[] 0 (.fresh 0 0 led) }
/-- set(v): v's own iterator is walked -/
theorem make_set {v : Value} {T : String} {vals : List Str} {Q : Value → Shared → Prop} (hh : A.handled = none) (hT : ∀ led, Shared.TypeIs { s with heap := s.heap.push (freshSet led) } v T)
    (h1 : isSubtype (.type T) (.type "set") = pure false) (h2 : isSubtype (.type T) (.type "frozenset") = pure false) (h3 : (Value.type T == Value.type "dict") = false) (hb : vals.length + 1 < scanBound)
    (hit : ∀ led (A' : Around) (E' : Value → Shared → Prop) (Q' : Value → Shared → Prop), (∀ (I : Addr) (fp wr : List Addr) (P : Nat → Value → Prop) (St : Nat → Heap → Prop) (o : Obj), (∀ A'' : Around, A''.handled = none → Walks prog w A'' I fp wr vals.length P St) → s.heap.objs.size ∉ fp →
        (∀ b ∈ wr, s.heap.objs.size < b) → (∀ i v, P i v → ∃ x t, vals[i]? = some x ∧ v = .str x t) → St 0 ((s.heap.push (freshSet led)).push o) → Q' (.ref I) { s with heap := (s.heap.push (freshSet led)).push o }) →
      wpAny (model prog w) A' (pyIter v) Q' E' { s with heap := s.heap.push (freshSet led) })
    (h : ∀ (h' : Heap) (tk : Nat), SetS prog w h' s.heap.objs.size (dd vals) → (∀ b o, s.heap.get? b = some o → h'.get? b = some o) → Q (.ref s.heap.objs.size) { s with heap := h', toks := tk }) :
    wpAny (model prog w) A (call (.type "set") [v]) Q E s := by
  obtain ⟨c, tl, hmro⟩ := F.called_set.mro
  have hmade := F.called_set.made
  have hsub := F.called_set.sub
  refine wpAny_call (codeAny_of_tree ?_)
  show wpAny _ _ (callAny (.type "set") _) _ _ _
  refine wpAny_pure ⟨Code.quiet_builtin _ (by decide +kernel), codeAny_builtin F.entry_type_call ?_⟩
  rw [Around.under_plain (weight_type_call_type "set" [v] []) rfl]
  have g1 := F.called_set.notType
  have g2 := F.called_set.canCreate
  have g3 := F.typeCall_set_1 v
  repeat (any_goals (first | assumption | wp_step))
  refine codeAny_mono (code_set_new_1 v (E := E) (Q₁ := fun obj s₁ => ∃ led : Bool, obj = .ref s.heap.objs.size ∧ s₁ = { s with heap := s.heap.push (freshSet led) }) fun led => ⟨led, rfl, rfl⟩) fun r s₁ hr => ?_
  cases r with
  | error e => exact hr
  | ok fl =>
    cases fl with
    | ret obj =>
      obtain ⟨led, rfl, rfl⟩ := hr
      have hS : (s.heap.push (freshSet led)).get? s.heap.objs.size = some (freshSet led) := Heap.get?_push_size _ rfl
      have hTs : Shared.TypeIs { s with heap := s.heap.push (freshSet led) } (.ref s.heap.objs.size) "set" := ⟨_, hS, rfl⟩
      have hli := F.called_set.init.lookup
      have hbi := F.called_set.init.bind (.ref s.heap.objs.size)
      repeat (any_goals (first | assumption | wp_step))
      refine codeAny_mono (codeAny_call_builtin (R := wants (fun r s₂ => r = .none ∧ ∃ h' tk, s₂ = { s with heap := h', toks := tk } ∧ SetS prog w h' s.heap.objs.size (dd vals) ∧ (∀ b o, s.heap.get? b = some o → h'.get? b = some o)) E)
        F.called_set.init.plain F.entry_set_init (check_set_init_1 hTs ?_)) fun r₂ s₂ hr₂ => ?_
      · have hTv := hT led
        unfold Builtin.«set.__init__» noKeywords Builtin.Frozenset.updateFrom
        generalize hPI : pyIter = PI
        wp_walk
        subst hPI
        refine hit led _ _ _ fun I fp wr P St o W hnf hwr hP st => ?_
        refine wpAny_bind (wpAny_runValue ?_)
        refine set_loop (W _ (by simp [hh])) s.heap.objs.size hnf hP hb (vals.length - 0) 0 _ (by omega) (Nat.zero_le _) st ?_ fun h' tk kk q => ?_
        · have hget : ((s.heap.push (freshSet led)).push o).get? s.heap.objs.size = some (freshSet led) := Heap.get?_push_of_some _ hS
          have q := (setObjOf_fresh (knd := strKind prog w) led).setOf hget (by unfold scanBound; omega)
          exact SetOf_congr q (fun k => by simp [dd]) rfl
        · refine wpAny_pure (wpAny_pure ⟨rfl, h', tk, rfl, q, fun b o' e => ?_⟩)
          refine kk b o' (Nat.ne_of_lt (Heap.lt_size e)) (fun z => ?_) (Heap.get?_push_of_some _ (Heap.get?_push_of_some _ e))
          exact absurd (Nat.lt_trans (hwr b z) (Heap.lt_size e)) (Nat.lt_irrefl _)
      · cases r₂ with
        | error e => exact hr₂
        | ok fl₂ =>
          cases fl₂ with
          | ret r =>
            obtain ⟨rfl, h', tk, rfl, hS', hk'⟩ := hr₂
            repeat (any_goals (first | assumption | wp_step))
            exact h _ _ hS' hk'
          | _ => exact hr₂.elim
    | _ => exact hr.elim
theorem mkset_list {l : Addr} {items : Array Value} {ts : List Str} {Q : Value → Shared → Prop} (hh : A.handled = none) (hl : s.heap.IsList l items) (hv : Vals (ts.map V.str) items.toList) (hb : ts.length + 1 < scanBound)
    (h : ∀ (h' : Heap) (tk : Nat), SetS prog w h' s.heap.objs.size (dd ts) → (∀ b o, s.heap.get? b = some o → h'.get? b = some o) → Q (.ref s.heap.objs.size) { s with heap := h', toks := tk }) :
    wpAny (model prog w) A (call (.type "set") [.ref l]) Q E s := by
  have hlt : l < s.heap.objs.size := by obtain ⟨o, ho, _⟩ := hl; exact Heap.lt_size ho
  have hlen : items.size = ts.length := by have := hv.length; simpa using this.symm
  refine make_set (T := "list") hh (fun led => (hl.push _).typeIs) F.sub_list_set F.sub_list_frozenset (by decide) hb (fun led A' E' Q' hQ => ?_) h
  refine wpAny_pyIter_list (hl.push (freshSet led)) ?_
  have hne : l ≠ (s.heap.push (freshSet led)).objs.size := by rw [Heap.size_push]; exact Nat.ne_of_lt (Nat.lt_succ_of_lt hlt)
  refine hQ _ _ _ (fun i v => items[i]? = some v) (fun i h => h.IsListIter (s.heap.push (freshSet led)).objs.size l i ∧ h.IsList l items) _ (fun A'' hA => hlen ▸ Walks.list hA _ l hne items) ?_ ?_ ?_ ⟨⟨_, Heap.get?_push_size _ rfl, rfl, rfl⟩, (hl.push _).push _⟩
  · rw [Heap.size_push]
    intro z
    rcases List.mem_cons.mp z with z | z
    · exact absurd z (Nat.ne_of_lt (Nat.lt_succ_self _))
    · have e : s.heap.objs.size = l := by simpa using z
      rw [← e] at hlt
      exact absurd hlt (Nat.lt_irrefl _)
  · intro b hb
    rw [Heap.size_push] at hb
    have e : b = s.heap.objs.size + 1 := by simpa using hb
    rw [e]
    exact Nat.lt_succ_self _
  · intro i v hv'
    have hi : items.toList[i]? = some v := by rw [Array.getElem?_toList]; exact hv'
    have hlt' : i < ts.length := by
      rw [← hlen]
      exact (Array.getElem?_eq_some_iff.mp hv').1
    have e : (ts.map V.str)[i]? = some (V.str ts[i]) := by rw [List.getElem?_map, List.getElem?_eq_getElem hlt']; rfl
    obtain ⟨u, hu, r⟩ := hv.get e
    rw [hi] at hu; cases hu
    obtain ⟨t, rfl⟩ := r
    exact ⟨_, t, List.getElem?_eq_getElem hlt', rfl⟩
/-- the signs of a text, each a text -/
def sgn (z : Str) : List Str := z.cps.toList.map fun c => ⟨#[c]⟩
theorem mkset_text {z : Str} {t : Tok} {Q : Value → Shared → Prop} (hh : A.handled = none) (hb : z.cps.size + 1 < scanBound)
    (h : ∀ (h' : Heap) (tk : Nat), SetS prog w h' s.heap.objs.size (dd (sgn z)) → (∀ b o, s.heap.get? b = some o → h'.get? b = some o) → Q (.ref s.heap.objs.size) { s with heap := h', toks := tk }) :
    wpAny (model prog w) A (call (.type "set") [.str z t]) Q E s := by
  have hlen : (sgn z).length = z.cps.size := by unfold sgn; simp
  refine make_set (T := "str") hh (fun led => typeIs_str _ z t) sub_str_set sub_str_frozenset (by decide) (by rw [hlen]; exact hb) (fun led A' E' Q' hQ => ?_) h
  refine wpAny_pyIter_str fun o St W st => ?_
  refine hQ _ _ _ (SignAt z) St o (fun A'' hA => hlen ▸ W A'' hA) ?_ ?_ ?_ st
  · rw [Heap.size_push]; simp
  · intro b hb
    rw [Heap.size_push] at hb
    have e : b = s.heap.objs.size + 1 := by simpa using hb
    rw [e]
    exact Nat.lt_succ_self _
  · rintro i v ⟨c, u, hc, rfl⟩
    refine ⟨⟨#[c]⟩, u, ?_, rfl⟩
    unfold sgn
    rw [List.getElem?_map, Array.getElem?_toList, hc]
    rfl
end
/-- a set of texts, tracked -/
def SetO (P : Program) (w : World) (a : Addr) (l : List Str) : HO := .ext fun h => SetS P w h a l
section
variable {X : Cx}
theorem SetO.ok {H : Hp} {h : Heap} {a : Addr} {l : List Str} (q : SetS X.prog X.w h a l) : ObjOk X.prog X.w H h a (SetO X.prog X.w a l) := by
  refine ⟨q, ?_, fun h1 h2 p k => p.at k⟩
  obtain ⟨o, _, _, _, ho, _⟩ := q
  exact ⟨o, ho⟩
theorem call_set_listS (hc : X.calm = true) : CallR X (.type "set") (fun xs H Q => ∃ p ts, xs = [.ref p] ∧ SqL X.K H p (ts.map V.str) ∧ ts.length + 1 < scanBound ∧ ∀ l, H l = none → Q (.ref l) (upd H l (SetO X.prog X.w l (dd ts)))) := by
  intro pins s σ H xs us Q I r h
  obtain ⟨p, ts, rfl, hq, hb, q⟩ := h
  obtain ⟨u, rfl, ru⟩ := vals1 r
  cases ru
  obtain ⟨its, rv, pl, _⟩ := I.list hq
  refine mkset_list (I.ok.hd hc) pl.isList (by simpa using rv) hb fun h' tk qs kk => ?_
  exact ⟨.ref s.heap.objs.size, _, I.laid (a := s.heap.objs.size) kk (Nat.le_refl _) (SetO.ok qs), rfl, q _ (I.hok.fresh (Nat.le_refl _))⟩
theorem call_set_textS (hc : X.calm = true) : CallR X (.type "set") (fun xs H Q => ∃ z, xs = [.str z] ∧ z.cps.size + 1 < scanBound ∧ ∀ l, H l = none → Q (.ref l) (upd H l (SetO X.prog X.w l (dd (sgn z))))) := by
  intro pins s σ H xs us Q I r h
  obtain ⟨z, rfl, hb, q⟩ := h
  obtain ⟨u, rfl, ru⟩ := vals1 r
  obtain ⟨t, rfl⟩ := ru
  refine mkset_text (I.ok.hd hc) hb fun h' tk qs kk => ?_
  exact ⟨.ref s.heap.objs.size, _, I.laid (a := s.heap.objs.size) kk (Nat.le_refl _) (SetO.ok qs), rfl, q _ (I.hok.fresh (Nat.le_refl _))⟩
theorem call_len_setS : CallR X (.builtin "len") (fun xs H Q => ∃ p l, xs = [.ref p] ∧ H p = some (SetO X.prog X.w p l) ∧ Q (.int l.length) H) := by
  intro pins s σ H xs us Q I r h
  obtain ⟨p, l, rfl, hp, q⟩ := h
  obtain ⟨u, rfl, ru⟩ := vals1 r
  cases ru
  obtain ⟨⟨o, es, ep, t, ho, hex, hd, hel, hm, hbd, hf, hn⟩, _⟩ := (show ObjOk X.prog X.w H s.heap p (SetO X.prog X.w p l) from I.hok p _ hp)
  refine call_len_set ho hex hd hf (by unfold scanBound at hbd; omega) ?_
  rw [hn]
  exact ⟨.int l.length, H, I.tok _, ⟨_, rfl⟩, q⟩
end
end L2

set_option Elab.async false
set_option linter.all false
set_option maxRecDepth 100000
set_option maxHeartbeats 4000000
namespace L2
open PySem PySem.Spec PyProof.Rows
section
variable {X : Cx} {a b c d : Expr} {ta tb tc td : TE} {pos : Pos}

/-! ### one sign in a text -/
def rInSign (neg : Bool) : R2 := fun x y H Q => ∃ k j, x = .str ⟨#[k]⟩ ∧ y = .str j ∧ Q (.bl (if neg then !decide (k ∈ j.cps.toList) else decide (k ∈ j.cps.toList))) H
theorem op_inSign : OpR X (compareOp .In) (rInSign false) := by
  intro pins s σ H x y v u Q I rx ry h
  obtain ⟨k, j, rfl, rfl, q⟩ := h
  refine op_in_str pins s σ H _ _ v u Q I rx ry ⟨_, _, rfl, rfl, ?_⟩
  rw [StrLaws.found_one]
  exact q
theorem op_notInSign : OpR X (compareOp .NotIn) (rInSign true) := by
  intro pins s σ H x y v u Q I rx ry h
  obtain ⟨k, j, rfl, rfl, q⟩ := h
  refine op_notIn_str pins s σ H _ _ v u Q I rx ry ⟨_, _, rfl, rfl, ?_⟩
  rw [StrLaws.found_one]
  exact q

/-! ### sep.join(list of texts) -/
theorem str_vals : ∀ {ts : List Str} {us : List Value}, Vals (ts.map V.str) us → ∃ l : List (Str × Tok), us = strValues l ∧ l.map (·.1) = ts
  | [], _, .nil => ⟨[], rfl, rfl⟩
  | x :: r, _, .cons q t => by
    obtain ⟨tk, rfl⟩ := q
    obtain ⟨l, e1, e2⟩ := str_vals (ts := r) t
    exact ⟨(x, tk) :: l, by rw [e1]; rfl, by rw [List.map_cons, e2]⟩
def rJoin (K : PySem.W.Frag) : V → List V → Hp → VK → Prop := fun x xs H Q => ∃ sep p ts, x = .str sep ∧ xs = [.ref p] ∧ SqL K H p (ts.map V.str) ∧ JoinOk sep ts = true ∧ Q (.str (Str.join sep ts)) H
theorem mt_join : MtR X "str.join" (rJoin X.K) := by
  intro pins s σ H x xs v us Q I rx rs h
  obtain ⟨sep, p, ts, rfl, rfl, hq, hok, q⟩ := h
  obtain ⟨t, rfl⟩ := rx
  obtain ⟨u, rfl, ru⟩ := vals1 rs
  cases ru
  obtain ⟨its, rv, pl, _⟩ := I.list hq
  obtain ⟨l, e1, e2⟩ := str_vals rv
  subst e1
  refine SC.join pl.isList e2 hok fun t' k => ?_
  rw [show Txt.join sep ts = Str.join sep ts from StrLaws.glued_eq_join sep ts]
  exact ⟨.str (Str.join sep ts), H, I.tok _, ⟨t', rfl⟩, q⟩
/-- a bound for join -/
theorem joinOk_of {sep : Str} : ∀ {ts : List Str} {n : Nat}, (∀ t ∈ ts, t.length + sep.length ≤ n) → ts.length * n ≤ sizeLine → JoinOk sep ts = true := by
  intro ts n h hz
  have e : ∀ (l : List Str) (k : Nat), (∀ t ∈ l, t.length + sep.length ≤ n) → l.foldl (fun x1 x2 => x1 + x2.length + sep.length) k ≤ k + l.length * n := by
    intro l
    induction l with
    | nil => intro k _; simp
    | cons t r ih =>
      intro k hk
      have h1 := ih (k + t.length + sep.length) fun u hu => hk u (List.mem_cons_of_mem _ hu)
      have h2 := hk t List.mem_cons_self
      rw [List.foldl_cons, List.length_cons, Nat.succ_mul]
      omega
  unfold JoinOk Builtin.Str.tooLong
  have := e ts 0 h
  rw [List.foldl_toArray]
  simp only [Bool.not_eq_true', decide_eq_false_iff_not]
  omega

/-! ### isinstance -/
def rIsInst (K : PySem.W.Frag) : List V → Hp → VK → Prop := fun xs H Q => ∃ x t k, ((∃ C, xs = [x, .ref C] ∧ PySem.W.kitOne K t (.ref C) = some k) ∨ ∃ T, xs = [x, .ty T] ∧ PySem.W.kitOne K t (.type T) = some k) ∧ TyOf K H x t ∧ Q (.bl k) H
theorem call_isinst : CallR X (.builtin "isinstance") (rIsInst X.K) := by
  intro pins s σ H xs us Q I r h
  obtain ⟨x, t, k, hx, ty, q⟩ := h
  rcases hx with ⟨C, rfl, e⟩ | ⟨T, rfl, e⟩
  · obtain ⟨u, u', rfl, ru, ru'⟩ := vals2 r
    cases ru'
    exact isinst_ok I ru ty e fun tk => ⟨.bl k, H, I.tok _, rfl, q⟩
  · obtain ⟨u, u', rfl, ru, ru'⟩ := vals2 r
    cases ru'
    exact isinst_ok I ru ty e fun tk => ⟨.bl k, H, I.tok _, rfl, q⟩

/-! ### all(list of bools) -/
theorem all_bl {bs : List Bool} {its : List Value} (r : Vals (bs.map V.bl) its) : ∀ (i : Nat) (v : Value), its[i]? = some v → ∃ k, bs[i]? = some k ∧ v = Value.bool k := by
  intro i v e
  have hl : i < bs.length := by
    have := r.length
    rw [List.length_map] at this
    rw [this]
    exact (List.getElem?_eq_some_iff.mp e).1
  obtain ⟨u, hu, ru⟩ := r.get (i := i) (x := V.bl bs[i]) (by rw [List.getElem?_map, List.getElem?_eq_getElem hl]; rfl)
  rw [e] at hu; cases hu
  exact ⟨bs[i], List.getElem?_eq_getElem hl, ru⟩
theorem range_all (bs : List Bool) : (List.range bs.length).all (fun i => bs[i]?.getD false) = bs.all id := by
  rw [Bool.eq_iff_iff, List.all_eq_true, List.all_eq_true]
  constructor
  · intro h x hx
    obtain ⟨i, hi, e⟩ := List.mem_iff_getElem.mp hx
    have := h i (List.mem_range.mpr hi)
    rw [List.getElem?_eq_getElem hi, e] at this
    exact this
  · intro h i hi
    have hi' := List.mem_range.mp hi
    rw [List.getElem?_eq_getElem hi']
    exact h _ (List.getElem_mem hi')
theorem call_all (hc : X.calm = true) : CallR X (.builtin "all") (fun xs H Q => ∃ (p : Addr) (bs : List Bool), xs = [.ref p] ∧ SqL X.K H p (bs.map V.bl) ∧ Q (.bl (bs.all id)) H) := by
  intro pins s σ H xs us Q I r h
  obtain ⟨p, bs, rfl, hq, q⟩ := h
  obtain ⟨u, rfl, ru⟩ := vals1 r
  cases ru
  obtain ⟨its, rv, pl, _⟩ := I.list hq
  have hlen : its.toArray.size = bs.length := by have := rv.length; rw [List.length_map] at this; rw [List.size_toArray, this]
  have hlt : p < s.heap.objs.size := by obtain ⟨o, _, ho, _⟩ := pl; exact Heap.lt_size ho
  refine call_function_tree F.kind_all F.plain_all F.entry_all (F.args_all1 _) ?_
  unfold Builtin.«all»
  refine wpAny_bind (wpAny_pure (wpAny_bind (wpAny_pyIter_list pl.isList ?_)))
  refine wpAny_pure ⟨plainId_quiet F.plain_all_loop _, ?_⟩
  have W := Walks.list (prog := X.prog) (w := X.w) (A := X.A.in1) (by simp [I.ok.hd hc]) s.heap.objs.size p (Nat.ne_of_lt hlt) its.toArray
  refine codeAny_all_loop W (fun i => bs[i]?.getD false) (fun i v s Q E hP hQ => ?_) (its.toArray.size - 0) 0 _ (by omega) (Nat.zero_le _) ⟨⟨_, Heap.get?_push_size _ rfl, rfl, rfl⟩, pl.isList.push _⟩ fun h' tk kk => ?_
  · obtain ⟨k, e1, rfl⟩ := all_bl rv i v (by simpa using hP)
    have hQ' : Q k s := by simpa [e1] using hQ
    exact wpAny_truthy_bool hQ'
  · rw [List.drop_zero, hlen, range_all]
    refine ⟨.bl (bs.all id), H, ?_, rfl, q⟩
    exact I.kept (h' := h') (t' := tk) fun b o e => kk b o (by have := Heap.lt_size e; simp; exact Nat.ne_of_lt this) (Heap.get?_push_of_some _ e)

/-! ### f"{x}.." of a text -/
theorem pe_fstr {v : Expr} {tv : TE} {y : Str} {j : Nat} {p1 p2 : Pos} (hv : PE X v tv) : PE X (.JoinedStr [.FormattedValue v (-1) none p1, .Constant (.str y) j p2] pos)
    (fun σ H Q => tv σ H fun x H1 => ∃ z, x = .str z ∧ z.length + y.length ≤ sizeLine ∧ Q (.str (z ++ y)) H1) := by
  intro pins s σ H Q I h
  refine JoinedStr_many (joinParts_cons (FormattedValue_plain (thn (hv pins s σ H _ I h) fun u s1 ⟨x, H1, I1, r1, z, e, hz, q⟩ => ?_)))
  subst e
  obtain ⟨t, rfl⟩ := r1
  refine formatField_str (fun t' tk => ?_) (by omega)
  have e0 : Str.empty ++ z = z := Str.empty_append z
  show (Str.empty ++ z).length ≤ sizeLine ∧ _
  rw [e0]
  refine ⟨by omega, joinParts_cons (Calls.Constant_str ?_)⟩
  show (z ++ y).length ≤ sizeLine ∧ _
  rw [strLen_append]
  exact ⟨hz, joinParts_nil ⟨.str (z ++ y), H1, (I1.tok _).tok _, ⟨_, rfl⟩, q⟩ (by rw [strLen_append]; exact hz)⟩

/-! ### a op1 b op2 c op3 d -/
def tChain3 (r r' r'' : R2) (ta tb tc td : TE) : TE := fun σ H Q => ta σ H fun x H1 => tb σ H1 fun y H2 => r x y H2 fun z H3 => ∃ k, z = .bl k ∧
  (if k = true then tc σ H3 fun w' H4 => r' y w' H4 fun z2 H5 => ∃ k2, z2 = .bl k2 ∧ (if k2 = true then td σ H5 fun v' H6 => r'' w' v' H6 Q else Q (.bl false) H5) else Q (.bl false) H3)
theorem pe_chain3 {op op' op'' : CmpOp} {r r' r'' : R2} (ho : OpR X (compareOp op) r) (ho' : OpR X (compareOp op') r') (ho'' : OpR X (compareOp op'') r'') (ha : PE X a ta) (hb : PE X b tb) (hc : PE X c tc) (hd : PE X d td)
    (hm : lastMarks [op, op', op''] [b, c, d] = false := by with_unfolding_all rfl) : PE X (.Compare a [op, op', op''] [b, c, d] pos) (tChain3 r r' r'' ta tb tc td) := by
  intro pins s σ H Q I h
  refine Compare_chain (thn (ha pins s σ H _ I h) fun v s1 ⟨x, H1, I1, r1, q1⟩ => chain_link (thn (hb pins s1 σ H1 _ I1 q1) fun u s2 ⟨y, H2, I2, r2, q2⟩ =>
    thn (ho pins s2 σ H2 x y v u _ I2 r1 r2 q2) fun d s3 ⟨z, H3, I3, r3, k, e, q3⟩ => ?_)) hm
  subst e
  cases r3
  refine wpAny_truthy_bool ?_
  cases k with
  | false => exact ite_ff ⟨.bl false, H3, I3, rfl, q3⟩
  | true =>
    refine ite_tt (chain_link (thn (hc pins s3 σ H3 _ I3 q3) fun u4 s4 ⟨z', H4, I4, r4, q4⟩ => thn (ho' pins s4 σ H4 y z' u u4 _ I4 r2 r4 q4) fun d5 s5 ⟨z5, H5, I5, r5, k5, e5, q5⟩ => ?_))
    subst e5
    cases r5
    refine wpAny_truthy_bool ?_
    cases k5 with
    | false => exact ite_ff ⟨.bl false, H5, I5, rfl, q5⟩
    | true => exact ite_tt (chain_last (thn (hd pins s5 σ H5 _ I5 q5) fun w6 s6 ⟨z6, H6, I6, r6, q6⟩ => ho'' pins s6 σ H6 z' z6 u4 w6 Q I6 r4 r6 q6))
end
end L2

set_option Elab.async false
set_option linter.all false
set_option maxRecDepth 100000
set_option maxHeartbeats 4000000
namespace L2
open PySem PySem.Spec PyProof.Rows
open AutoSeq1 (wpAny_loadPart')
open MeetsSeq MeetsSeq2 MeetsSeq3 SeqRoads2

/-! ### two values are equal, in this world -/
def EqI (prog : Program) (w : World) (A : Around) (s : Shared) (y x : Value) : Prop := ∀ (E : Value → Shared → Prop) (Q : Bool → Shared → Prop), Q true s → wpAny (model prog w) A (eqBool y x) Q E s
def RcI (prog : Program) (w : World) (op : CmpOp) (A : Around) (s : Shared) (y x : Value) (k : Bool) : Prop := ∀ (E : Value → Shared → Prop) (Q : Value → Shared → Prop), Q (.bool k) s → wpAny (model prog w) A (richCompare op y x) Q E s
section
variable {prog : Program} {w : World} {A : Around} {s : Shared}
theorem EqI.of {y x : Value} (h : SeqAt.EqAt A s y x true) : EqI prog w A s y x := fun E Q q => h prog w E Q q
theorem EqI.refs {l b : Addr} (h : l ≠ b → RcI prog w .Eq A s (.ref l) (.ref b) true) : EqI prog w A s (.ref l) (.ref b) := fun E Q q => by
  by_cases e : l = b
  · subst e; exact SeqAt.EqAt.same _ prog w E Q q
  · unfold eqBool
    refine wpAny_holding (wpAny_ite_split (fun hab => absurd (by have := eq_of_beq hab; injection this) e) (fun _ => ?_))
    exact wpAny_bind (h e E _ (wpAny_truthy_bool q))

/-- the loop of two lists of one length whose items are equal -/
theorem eqi_loop (l b : Addr) (xs ys : Array Value) (n n2 : Nat) (dd dd2 : Option Addr) (sl sl2 : Array (Option Value)) (hsz : xs.size = ys.size) (c : Int) (k0 : Bool) (hc0 : (c = 2 ∧ k0 = true) ∨ (c = 3 ∧ k0 = false)) (k : Nat) :
    ∀ i : Nat, xs.size - i = k → MeetsIn prog w (Builtin.«list.__eq__.loop» ⟨[.ref l, .ref b, rawInt i, rawInt c], []⟩)
      (fun A R s => s.heap.get? l = some ⟨.type "list", dd, .seq xs n, sl⟩ ∧ s.heap.get? b = some ⟨.type "list", dd2, .seq ys n2, sl2⟩ ∧ (∀ j (h1 : j < xs.size) (h2 : j < ys.size), EqI prog w A.in1 s xs[j] ys[j]) ∧ R (.ok (.ret (.bool k0))) s) := by
  induction k with
  | zero =>
    intro i hk A R s h
    obtain ⟨hp, g, d, tk, os⟩ := s
    obtain ⟨hl, hb, he, h⟩ := h
    have i1 : xs[((i : Nat) : Int).toNat]? = none := by simp; omega
    have i2 : ys[((i : Nat) : Int).toNat]? = none := by simp; omega
    rcases hc0 with ⟨rfl, rfl⟩ | ⟨rfl, rfl⟩
    · wp_walk using wpAny_loadPart' hl, wpAny_loadPart' hb
      rw [i1, i2]
      wp_walk using wpAny_loadPart' hl, wpAny_loadPart' hb
      show R (.ok (.ret (.bool (xs.size == ys.size)))) _
      rw [hsz]
      simpa using h
    · wp_walk using wpAny_loadPart' hl, wpAny_loadPart' hb
      rw [i1, i2]
      wp_walk using wpAny_loadPart' hl, wpAny_loadPart' hb
      show R (.ok (.ret (.bool (xs.size != ys.size)))) _
      rw [hsz]
      simpa using h
  | succ k ih =>
    intro i hk A R s h
    obtain ⟨hp, g, d, tk, os⟩ := s
    obtain ⟨hl, hb, he, h⟩ := h
    have hlt : i < xs.size := by omega
    have hlt2 : i < ys.size := by omega
    have i1 : xs[((i : Nat) : Int).toNat]? = some xs[i] := by simp [hlt]
    have i2 : ys[((i : Nat) : Int).toNat]? = some ys[i] := by simp [hlt2]
    have hc : ((i : Int) + 1) = ((i + 1 : Nat) : Int) := by push_cast; rfl
    rcases hc0 with ⟨rfl, rfl⟩ | ⟨rfl, rfl⟩
    all_goals
      wp_walk using wpAny_loadPart' hl, wpAny_loadPart' hb
      rw [i1, i2]
      refine wpAny_bind (he i hlt hlt2 _ _ ?_)
      wp_walk
      rw [hc]
      refine ⟨plainId_quiet plain_eq_loop _, codeAny_builtin entry_eq_loop ?_⟩
      rw [Around.under_plainId plain_eq_loop _]
      exact ih (i + 1) (by omega) A R _ ⟨hl, hb, he, h⟩
theorem eqi_lists {l b : Addr} {xs ys : Array Value} (hl : s.heap.IsList l xs) (hb : s.heap.IsList b ys) (hsz : xs.size = ys.size) (hu : A.units < cLine) (he : ∀ j (h1 : j < xs.size) (h2 : j < ys.size), EqI prog w A.in1 s xs[j] ys[j]) :
    RcI prog w .Eq A s (.ref l) (.ref b) true ∧ RcI prog w .NotEq A s (.ref l) (.ref b) false := by
  obtain ⟨⟨cls, dd, data, sl⟩, ho, hc, n, hd⟩ := id hl
  obtain ⟨⟨cls2, dd2, data2, sl2⟩, ho2, hc2, n2, hd2⟩ := id hb
  simp only at hc hd hc2 hd2
  subst hc hd hc2 hd2
  have f3 := AutoSeq1.sub_list_list
  have hne : ¬ (xs.size != ys.size) = true := by simp [hsz]
  constructor
  · intro E Q q
    refine wpAny_richCompare_same_room (op := .Eq) ⟨_, ho, rfl⟩ ⟨_, ho2, rfl⟩ PySem.F.slot_list_eq (call_meetsIn PySem.F.slot_list_eq ⟨_, ho, rfl⟩ PySem.F.entry_list_eq (PySem.F.args_list_eq_2 _ _) (S := fun A R s => s.heap.get? l = some ⟨.type "list", dd, .seq xs n, sl⟩ ∧ s.heap.get? b = some ⟨.type "list", dd2, .seq ys n2, sl2⟩ ∧ (∀ j (h1 : j < xs.size) (h2 : j < ys.size), EqI prog w A.in1 s xs[j] ys[j]) ∧ R (.ok (.ret (.bool true))) s) (fun A R s h => ?_) ⟨ho, ho2, he, (show Value.bool true ≠ Value.notImplemented ∧ Q (.bool true) s from ⟨(fun x => nomatch x), q⟩)⟩) hu
    obtain ⟨hp, g, d, tk, os⟩ := s
    obtain ⟨hl, hb, he, h⟩ := h
    wp_walk using wpAny_loadPart' hl, wpAny_loadPart' hb
    refine ⟨plainId_quiet plain_eq_loop _, codeAny_builtin entry_eq_loop ?_⟩
    rw [Around.under_plainId plain_eq_loop _]
    exact eqi_loop l b xs ys n n2 dd dd2 sl sl2 hsz 2 true (.inl ⟨rfl, rfl⟩) _ 0 rfl A R _ ⟨hl, hb, he, h⟩
  · intro E Q q
    refine wpAny_richCompare_same_room (op := .NotEq) ⟨_, ho, rfl⟩ ⟨_, ho2, rfl⟩ PySem.F.slot_list_ne (call_meetsIn PySem.F.slot_list_ne ⟨_, ho, rfl⟩ PySem.F.entry_list_ne (PySem.F.args_list_ne_2 _ _) (S := fun A R s => s.heap.get? l = some ⟨.type "list", dd, .seq xs n, sl⟩ ∧ s.heap.get? b = some ⟨.type "list", dd2, .seq ys n2, sl2⟩ ∧ (∀ j (h1 : j < xs.size) (h2 : j < ys.size), EqI prog w A.in1 s xs[j] ys[j]) ∧ R (.ok (.ret (.bool false))) s) (fun A R s h => ?_) ⟨ho, ho2, he, (show Value.bool false ≠ Value.notImplemented ∧ Q (.bool false) s from ⟨(fun x => nomatch x), q⟩)⟩) hu
    obtain ⟨hp, g, d, tk, os⟩ := s
    obtain ⟨hl, hb, he, h⟩ := h
    wp_walk using wpAny_loadPart' hl, wpAny_loadPart' hb
    refine ⟨plainId_quiet plain_eq_loop _, codeAny_builtin entry_eq_loop ?_⟩
    rw [Around.under_plainId plain_eq_loop _]
    exact eqi_loop l b xs ys n n2 dd dd2 sl sl2 hsz 3 false (.inr ⟨rfl, rfl⟩) _ 0 rfl A R _ ⟨hl, hb, he, h⟩
/-- two dicts of one length: each pair of the first is met in the second -/
theorem eqi_pairs {K : Type} [DecidableEq K] {knd : KeyKind prog w K} {E : Value → Shared → Prop} {nm : String} {a b : Addr} {ka kb : List (K × Value)} {Q : Bool → Shared → Prop} (ha : (a == sysModules) = false) (hb : (b == sysModules) = false) (da : s.heap.DictOf knd a ka) (db : s.heap.DictOf knd b kb)
    (hlen : ka.length = kb.length) (hits : ∀ k v, (k, v) ∈ ka → ∃ y, valueAt kb k = some y ∧ EqI prog w A s v y) (h : Q true s) : wpAny (model prog w) A (Builtin.Dict.samePairs nm a b) Q E s := by
  obtain ⟨oa, es, ep, hoa, _, hda, hka, hpa, _⟩ := da
  obtain ⟨ob, es', ep', hob, _, hdb, hkb, hpb, _⟩ := db
  have la : ka.length = es.size := by rw [← hpa.length]; exact Array.length_toList
  have lb : kb.length = es'.size := by rw [← hpb.length]; exact Array.length_toList
  have hsz : es.size = es'.size := by rw [← la, ← lb]; exact hlen
  have hfind : ∀ k, findBy knd.is es' k = valueAt kb k := fun k => by
    rw [← hpb.find k]
    clear lb hpb hkb hdb hob hsz
    obtain ⟨l⟩ := es'
    simp [findBy]
  unfold Builtin.Dict.samePairs Builtin.Dict.showsAll
  rw [if_neg (show ¬ (a == sysModules) = true by rw [ha]; exact Bool.false_ne_true), if_neg (show ¬ (b == sysModules) = true by rw [hb]; exact Bool.false_ne_true)]
  refine wpAny_bind (wpAny_pure (wpAny_bind (wpAny_pure (wpAny_bind (wpAny_dictEntries hoa hda ?_)))))
  dsimp only
  refine wpAny_bind (wpAny_dictEntries hob hdb ?_)
  rw [if_neg (by rw [hsz]; simp)]
  refine wpAny_bind (wpAny_dictEpoch hoa hda (wpAny_bind ?_))
  rw [Std.Legacy.Range.forIn_eq_forIn_range']
  simp only [Std.Legacy.Range.size, Nat.sub_zero, Nat.add_sub_cancel, Nat.div_one]
  refine wpAny_forIn_list _ (fun rest q s' => s' = s ∧ q = (none, ()) ∧ ∃ i, rest = List.range' i (es.size - i) ∧ i ≤ es.size) _ ?_ ?_ _ _ ⟨rfl, rfl, 0, by simp, Nat.zero_le _⟩
  · rintro x rest q s' ⟨rfl, rfl, i, hr, hi⟩
    have hlt : i < es.size := by
      rcases Nat.lt_or_ge i es.size with z | z
      · exact z
      · rw [Nat.sub_eq_zero_of_le z] at hr; simp at hr
    obtain ⟨rfl, hrest⟩ : x = i ∧ rest = List.range' (i + 1) (es.size - (i + 1)) := by
      rw [show es.size - i = (es.size - (i + 1)) + 1 by omega, List.range'_succ] at hr
      injection hr with h1 h2
      exact ⟨h1, h2⟩
    refine wpAny_bind (wpAny_dictEntries hoa hda ?_)
    rw [Array.getElem?_eq_getElem hlt]
    have hlt' : x < ka.length := by rw [la]; exact hlt
    obtain ⟨k, v, hkv⟩ : ∃ k v, ka[x] = (k, v) := ⟨_, _, rfl⟩
    obtain ⟨hkey, hval⟩ := hpa.get? (i := x) (e := es[x]) (k := k) (v := v) (by rw [Array.getElem?_toList]; exact Array.getElem?_eq_getElem hlt) (by rw [List.getElem?_eq_getElem hlt', hkv])
    obtain ⟨k', hk', hh⟩ := hka es[x] (Array.getElem_mem hlt)
    have ekk : k' = k := knd.inj _ _ _ hk' hkey
    rw [ekk] at hh
    obtain ⟨y, hy, he⟩ := hits k v (by rw [← hkv]; exact List.getElem_mem hlt')
    show wpAny _ _ (holding [es[x].key, es[x].val] _ >>= _) _ _ _
    rw [hh]
    refine wpAny_bind (wpAny_holding (wpAny_bind (wpAny_dictFind_of hkey hob hdb hkb ?_)))
    cases hj : es'.findIdx? fun e => knd.is k e.key with
    | none =>
      have hn : valueAt kb k = none := by rw [← hfind k, findBy_of_findIdx?, hj]
      rw [hn] at hy
      cases hy
    | some j =>
      obtain ⟨hjlt, _, _⟩ := Array.findIdx?_eq_some_iff_getElem.mp hj
      have hv' : valueAt kb k = some es'[j].val := by
        rw [← hfind k, findBy_of_findIdx?, hj]
        simp [Array.getElem?_eq_getElem hjlt]
      refine wpAny_bind (wpAny_dictEntries hob hdb ?_)
      rw [Array.getElem?_eq_getElem hjlt]
      have ey : es'[j].val = y := Option.some.inj (hv'.symm.trans hy)
      rw [← ey, ← hval] at he
      refine wpAny_holding (he _ _ ?_)
      show wpAny _ _ (if (!true) = true then _ else _) _ _ _
      rw [if_neg (by decide)]
      refine wpAny_bind (wpAny_dictEpoch hoa hda ?_)
      rw [if_neg (by simp)]
      exact wpAny_pure ⟨rfl, rfl, x + 1, hrest, hlt⟩
  · rintro q s' ⟨rfl, rfl, i, hr, hi⟩
    exact wpAny_pure h
theorem eqi_dicts {K : Type} [DecidableEq K] {knd : KeyKind prog w K} {a b : Addr} {ka kb : List (K × Value)} (ha : (a == sysModules) = false) (hb : (b == sysModules) = false) (da : s.heap.DictOf knd a ka) (db : s.heap.DictOf knd b kb)
    (hlen : ka.length = kb.length) (hu : A.units < cLine) (hits : ∀ k v, (k, v) ∈ ka → ∃ y, valueAt kb k = some y ∧ EqI prog w A.in1 s v y) : RcI prog w .Eq A s (.ref a) (.ref b) true ∧ RcI prog w .NotEq A s (.ref a) (.ref b) false := by
  constructor
  · intro E Q q
    refine wpAny_richCompare_same_room (op := .Eq) da.typeIs db.typeIs PySem.F.slot_dict_eq (wpAny_call_entry PySem.F.slot_dict_eq da.typeIs PySem.F.entry_dict_eq ?_ (PySem.F.args_dict_eq_2 _ _)) hu
    show wpAny _ _ (Builtin.Dict.dictSlotArgs "__eq__" ⟨[.ref a, .ref b], []⟩ >>= _) _ _ s
    refine wpAny_bind ?_
    unfold Builtin.Dict.dictSlotArgs
    refine wpAny_bind (wpAny_notOrdered_dict da.typeIs ?_)
    show wpAny _ _ (pure (Value.ref a, Value.ref b)) _ _ s
    refine wpAny_pure (wpAny_bind (wpAny_isInstance (T := "dict") db.typeIs PySem.F.sub_dict_dict ?_))
    simp only [Bool.not_true, Bool.false_eq_true, if_false]
    refine wpAny_bind (wpAny_pure (wpAny_bind (wpAny_pure (wpAny_bind (eqi_pairs ha hb da db hlen hits ?_)))))
    exact wpAny_pure ⟨_, rfl, (fun x => nomatch x), q⟩
  · intro E Q q
    refine wpAny_richCompare_same_room (op := .NotEq) da.typeIs db.typeIs PySem.F.slot_dict_ne (wpAny_call_entry PySem.F.slot_dict_ne da.typeIs PySem.F.entry_dict_ne ?_ (PySem.F.args_dict_ne_2 _ _)) hu
    show wpAny _ _ (Builtin.Dict.dictSlotArgs "__ne__" ⟨[.ref a, .ref b], []⟩ >>= _) _ _ s
    refine wpAny_bind ?_
    unfold Builtin.Dict.dictSlotArgs
    refine wpAny_bind (wpAny_notOrdered_dict da.typeIs ?_)
    show wpAny _ _ (pure (Value.ref a, Value.ref b)) _ _ s
    refine wpAny_pure (wpAny_bind (wpAny_isInstance (T := "dict") db.typeIs PySem.F.sub_dict_dict ?_))
    simp only [Bool.not_true, Bool.false_eq_true, if_false]
    refine wpAny_bind (wpAny_pure (wpAny_bind (wpAny_pure (wpAny_bind (eqi_pairs ha hb da db hlen hits ?_)))))
    exact wpAny_pure ⟨_, rfl, (fun x => nomatch x), q⟩
end

/-! ### equal by the abstract heap, to a depth -/
def plainV : V → Prop
  | .byt _ => False
  | .flt _ => False
  | .ty _ => False
  | _ => True
/-- texts, numbers, lists and tuples of them -/
def EqT (K : PySem.W.Frag) (H : Hp) : Nat → V → V → Prop
  | 0, x, y => x = y ∧ plainV x
  | n + 1, x, y => EqT K H n x y ∨ (∃ a b xs ys, x = .ref a ∧ y = .ref b ∧ SqL K H a xs ∧ SqL K H b ys ∧ Paired (EqT K H n) xs ys) ∨
      (∃ a b xs ys, x = .ref a ∧ y = .ref b ∧ SqT K H a xs ∧ SqT K H b ys ∧ Paired (EqT K H n) xs ys)
/-- dicts too, and lists of dicts -/
def EqD (K : PySem.W.Frag) (H : Hp) : Nat → V → V → Prop
  | 0, x, y => EqT K H 0 x y
  | n + 1, x, y => EqT K H (n + 1) x y ∨ (∃ a b xs ys, x = .ref a ∧ y = .ref b ∧ SqL K H a xs ∧ SqL K H b ys ∧ Paired (EqD K H n) xs ys) ∨
      (∃ a b ka kb, x = .ref a ∧ y = .ref b ∧ Rd H a (.dK ka) ∧ Rd H b (.dK kb) ∧ ka.length = kb.length ∧ ∀ k v, (k, v) ∈ ka → ∃ v', valV kb k = some v' ∧ EqD K H n v v')
theorem paired_get {α β : Type} {F : α → β → Prop} : ∀ {l₁ : List α} {l₂ : List β} {i : Nat} {x : α} {y : β}, Paired F l₁ l₂ → l₁[i]? = some x → l₂[i]? = some y → F x y
  | _, _, _, _, _, .nil, e, _ => by simp at e
  | _, _, 0, _, _, .cons r _, e, e' => by simp at e e'; subst e e'; exact r
  | _, _, i + 1, _, _, .cons _ t, e, e' => paired_get (i := i) t (by simpa using e) (by simpa using e')
section
variable {X : Cx} {pins : List (Addr × Obj)} {σ : St} {H : Hp} {s : Shared}
theorem all_tt (n : Nat) : (List.range n).all (fun _ => true) = true := by simp
theorem eqT_at (I : Inv X pins σ H s) : ∀ (n : Nat) {x y : V} {u v : Value} {A : Around}, EqT X.K H n x y → RelV x u → RelV y v → A.units + n < cLine → SeqAt.EqAt A s u v true
  | 0, x, y, u, v, A, h, rx, ry, hu => by
    obtain ⟨e, p⟩ := h
    subst e
    cases x with
    | non => cases rx; cases ry; exact SeqAt.EqAt.same _
    | bl b => cases rx; cases ry; exact SeqAt.EqAt.same _
    | int i =>
      obtain ⟨t, rfl⟩ := rx
      obtain ⟨t', rfl⟩ := ry
      have := SeqAt.EqAt.int_int (A := A) (s := s) i t i t'
      rw [beq_self_eq_true] at this
      exact this
    | str z =>
      obtain ⟨t, rfl⟩ := rx
      obtain ⟨t', rfl⟩ := ry
      have := SeqAt.EqAt.str_str (A := A) (s := s) z t z t'
      rw [beq_self_eq_true] at this
      exact this
    | ref a => cases rx; cases ry; exact SeqAt.EqAt.same _
    | _ => exact False.elim p
  | n + 1, x, y, u, v, A, h, rx, ry, hu => by
    rcases h with h | ⟨a, b, xs, ys, rfl, rfl, ha, hb, hp⟩ | ⟨a, b, xs, ys, rfl, rfl, ha, hb, hp⟩
    · exact eqT_at I n h rx ry (by omega)
    · cases rx; cases ry
      obtain ⟨ia, ra, pa, _⟩ := I.list ha
      obtain ⟨ib, rb, pb, _⟩ := I.list hb
      by_cases e : a = b
      · subst e; exact SeqAt.EqAt.same _
      · have hsz : ia.toArray.size = ib.toArray.size := by rw [List.size_toArray, List.size_toArray, ← ra.length, ← rb.length]; exact hp.length
        have q := SeqAt.RcAt.lists (A := A) (e := fun _ => true) pa.isList pb.isList hsz (by omega) fun j j1 j2 => by
          have j1' : j < ia.length := by simpa using j1
          have j2' : j < ib.length := by simpa using j2
          have k1 : j < xs.length := by rw [ra.length]; exact j1'
          have k2 : j < ys.length := by rw [rb.length]; exact j2'
          obtain ⟨u1, e1, r1⟩ := ra.get (List.getElem?_eq_getElem k1)
          obtain ⟨u2, e2, r2⟩ := rb.get (List.getElem?_eq_getElem k2)
          have g1 : ia.toArray[j] = u1 := by
            have : ia[j]? = some ia[j] := List.getElem?_eq_getElem j1'
            rw [e1] at this
            simpa using (Option.some.inj this).symm
          have g2 : ib.toArray[j] = u2 := by
            have : ib[j]? = some ib[j] := List.getElem?_eq_getElem j2'
            rw [e2] at this
            simpa using (Option.some.inj this).symm
          rw [g1, g2]
          exact eqT_at I n (paired_get hp (List.getElem?_eq_getElem k1) (List.getElem?_eq_getElem k2)) r1 r2 (by show A.units + 1 + n < cLine; omega)
        rw [all_tt] at q
        exact SeqAt.EqAt.of_refs e q
    · cases rx; cases ry
      obtain ⟨ia, ra, pa, _⟩ := I.tuple ha
      obtain ⟨ib, rb, pb, _⟩ := I.tuple hb
      by_cases e : a = b
      · subst e; exact SeqAt.EqAt.same _
      · have hsz : ia.toArray.size = ib.toArray.size := by rw [List.size_toArray, List.size_toArray, ← ra.length, ← rb.length]; exact hp.length
        have q := SeqAt.RcAt.tuples (A := A) (e := fun _ => true) (show s.heap.IsTuple a ia.toArray from pa) (show s.heap.IsTuple b ib.toArray from pb) (by omega) fun j j1 j2 => by
          have j1' : j < ia.length := by simpa using j1
          have j2' : j < ib.length := by simpa using j2
          have k1 : j < xs.length := by rw [ra.length]; exact j1'
          have k2 : j < ys.length := by rw [rb.length]; exact j2'
          obtain ⟨u1, e1, r1⟩ := ra.get (List.getElem?_eq_getElem k1)
          obtain ⟨u2, e2, r2⟩ := rb.get (List.getElem?_eq_getElem k2)
          have g1 : ia.toArray[j] = u1 := by
            have : ia[j]? = some ia[j] := List.getElem?_eq_getElem j1'
            rw [e1] at this
            simpa using (Option.some.inj this).symm
          have g2 : ib.toArray[j] = u2 := by
            have : ib[j]? = some ib[j] := List.getElem?_eq_getElem j2'
            rw [e2] at this
            simpa using (Option.some.inj this).symm
          rw [g1, g2]
          exact eqT_at I n (paired_get hp (List.getElem?_eq_getElem k1) (List.getElem?_eq_getElem k2)) r1 r2 (by show A.units + 1 + n < cLine; omega)
        rw [all_tt, hsz] at q
        exact SeqAt.EqAt.of_refs e (by simpa using q)
/-- the items of two lists -/
theorem eqI_items {n : Nat} {A : Around} {xs ys : List V} {ia ib : List Value} (ra : Vals xs ia) (rb : Vals ys ib) (hp : Paired (EqD X.K H n) xs ys)
    (ih : ∀ {x y : V} {u v : Value}, EqD X.K H n x y → RelV x u → RelV y v → EqI X.prog X.w A s u v) (j : Nat) (j1 : j < ia.toArray.size) (j2 : j < ib.toArray.size) : EqI X.prog X.w A s ia.toArray[j] ib.toArray[j] := by
  have j1' : j < ia.length := by simpa using j1
  have j2' : j < ib.length := by simpa using j2
  have k1 : j < xs.length := by rw [ra.length]; exact j1'
  have k2 : j < ys.length := by rw [rb.length]; exact j2'
  obtain ⟨u1, e1, r1⟩ := ra.get (List.getElem?_eq_getElem k1)
  obtain ⟨u2, e2, r2⟩ := rb.get (List.getElem?_eq_getElem k2)
  have g1 : ia.toArray[j] = u1 := by
    have : ia[j]? = some ia[j] := List.getElem?_eq_getElem j1'
    rw [e1] at this
    simpa using (Option.some.inj this).symm
  have g2 : ib.toArray[j] = u2 := by
    have : ib[j]? = some ib[j] := List.getElem?_eq_getElem j2'
    rw [e2] at this
    simpa using (Option.some.inj this).symm
  rw [g1, g2]
  exact ih (paired_get hp (List.getElem?_eq_getElem k1) (List.getElem?_eq_getElem k2)) r1 r2
theorem kv_mem : ∀ {kvs : List (Key × V)} {vs : List (Key × Value)} {k : Key} {u : Value}, KV kvs vs → (k, u) ∈ vs → ∃ v, (k, v) ∈ kvs ∧ RelV v u
  | _, _, _, _, .nil, h => by cases h
  | _, _, k, u, .cons (a := p) (b := q) r t, h => by
    rcases List.mem_cons.mp h with e | h
    · subst e
      exact ⟨p.2, by rw [show (k, p.2) = p from by rw [← show p.1 = k from r.1]]; exact List.mem_cons_self, r.2⟩
    · obtain ⟨v, h1, h2⟩ := kv_mem t h
      exact ⟨v, List.mem_cons_of_mem _ h1, h2⟩
theorem eqD_dict {n : Nat} {A : Around} {a b : Addr} {ka kb : List (Key × V)} (I : Inv X pins σ H s) (ha : Rd H a (.dK ka)) (hb : Rd H b (.dK kb)) (hl : ka.length = kb.length) (hits : ∀ k v, (k, v) ∈ ka → ∃ v', valV kb k = some v' ∧ EqD X.K H n v v') (hu : A.units < cLine)
    (ih : ∀ {x y : V} {u v : Value}, EqD X.K H n x y → RelV x u → RelV y v → EqI X.prog X.w A.in1 s u v) : RcI X.prog X.w .Eq A s (.ref a) (.ref b) true ∧ RcI X.prog X.w .NotEq A s (.ref a) (.ref b) false := by
  obtain ⟨za, ma, va, qa, da⟩ := dk_rd I.hok ha
  obtain ⟨zb, mb, vb, qb, db⟩ := dk_rd I.hok hb
  refine eqi_dicts ma mb da db (by rw [← qa.length, ← qb.length]; exact hl) hu fun k u hm => ?_
  obtain ⟨v, hv, rv⟩ := kv_mem qa hm
  obtain ⟨v', e', q⟩ := hits k v hv
  obtain ⟨y, ey, ry⟩ := RelO.some_of (v := v') (o := valueAt vb k) (by rw [← e']; exact qb.val k)
  exact ⟨y, ey, ih q rv ry⟩
theorem eqD_at (I : Inv X pins σ H s) : ∀ (n : Nat) {x y : V} {u v : Value} {A : Around}, EqD X.K H n x y → RelV x u → RelV y v → A.units + n < cLine → EqI X.prog X.w A s u v
  | 0, x, y, u, v, A, h, rx, ry, hu => EqI.of (eqT_at I 0 h rx ry hu)
  | n + 1, x, y, u, v, A, h, rx, ry, hu => by
    have ih : ∀ {x y : V} {u v : Value}, EqD X.K H n x y → RelV x u → RelV y v → EqI X.prog X.w A.in1 s u v := fun {x y u v} h rx ry => eqD_at I n h rx ry (by show A.units + 1 + n < cLine; omega)
    rcases h with h | ⟨a, b, xs, ys, rfl, rfl, ha, hb, hp⟩ | ⟨a, b, ka, kb, rfl, rfl, ha, hb, hl, hits⟩
    · exact EqI.of (eqT_at I (n + 1) h rx ry hu)
    · cases rx; cases ry
      obtain ⟨ia, ra, pa, _⟩ := I.list ha
      obtain ⟨ib, rb, pb, _⟩ := I.list hb
      have hsz : ia.toArray.size = ib.toArray.size := by rw [List.size_toArray, List.size_toArray, ← ra.length, ← rb.length]; exact hp.length
      exact EqI.refs fun _ => (eqi_lists pa.isList pb.isList hsz (by omega) (eqI_items ra rb hp ih)).1
    · cases rx; cases ry
      exact EqI.refs fun _ => (eqD_dict I ha hb hl hits (by omega) ih).1
/-- two lists, two dicts: ==, != -/
def rSame (X : Cx) (k : Bool) : R2 := fun x y H Q => ∃ n, X.A.units + n + 1 < cLine ∧ ((∃ a b xs ys, x = .ref a ∧ y = .ref b ∧ SqL X.K H a xs ∧ SqL X.K H b ys ∧ Paired (EqD X.K H n) xs ys) ∨
  (∃ a b ka kb, x = .ref a ∧ y = .ref b ∧ Rd H a (.dK ka) ∧ Rd H b (.dK kb) ∧ ka.length = kb.length ∧ ∀ k v, (k, v) ∈ ka → ∃ v', valV kb k = some v' ∧ EqD X.K H n v v')) ∧ Q (.bl k) H
theorem same_both {x y : V} {u v : Value} {Q : VK} {k : Bool} (I : Inv X pins σ H s) (rx : RelV x u) (ry : RelV y v) (h : rSame X k x y H Q) : (RcI X.prog X.w .Eq X.A s u v true ∧ RcI X.prog X.w .NotEq X.A s u v false) ∧ Q (.bl k) H := by
  obtain ⟨n, hu, h, q⟩ := h
  refine ⟨?_, q⟩
  have ih : ∀ {x y : V} {u v : Value}, EqD X.K H n x y → RelV x u → RelV y v → EqI X.prog X.w X.A.in1 s u v := fun {x y u v} h rx ry => eqD_at I n h rx ry (by show X.A.units + 1 + n < cLine; omega)
  rcases h with ⟨a, b, xs, ys, rfl, rfl, ha, hb, hp⟩ | ⟨a, b, ka, kb, rfl, rfl, ha, hb, hl, hits⟩
  · cases rx; cases ry
    obtain ⟨ia, ra, pa, _⟩ := I.list ha
    obtain ⟨ib, rb, pb, _⟩ := I.list hb
    have hsz : ia.toArray.size = ib.toArray.size := by rw [List.size_toArray, List.size_toArray, ← ra.length, ← rb.length]; exact hp.length
    exact eqi_lists pa.isList pb.isList hsz (by omega) (eqI_items ra rb hp ih)
  · cases rx; cases ry
    exact eqD_dict I ha hb hl hits (by omega) ih
theorem op_eqSame : OpR X (compareOp .Eq) (rSame X true) := by
  intro pins s σ H x y v u Q I rx ry h
  obtain ⟨⟨h1, _⟩, q⟩ := same_both I rx ry h
  exact h1 _ _ ⟨.bl true, H, I, rfl, q⟩
theorem op_neSame : OpR X (compareOp .NotEq) (rSame X false) := by
  intro pins s σ H x y v u Q I rx ry h
  obtain ⟨⟨_, h1⟩, q⟩ := same_both I rx ry h
  exact h1 _ _ ⟨.bl false, H, I, rfl, q⟩
end
end L2

set_option Elab.async false
set_option linter.all false
set_option maxRecDepth 100000
set_option maxHeartbeats 4000000
namespace L2
open PySem PySem.Spec PyProof.Rows
/-- a comprehension's scope, decided -/
def compC (sc : Scope) (N : List Str) (scope : Scope) (x : Str) (cp : List (Nat × Str)) : Bool :=
  (scope.kind == .function) && (scope.names.lookup x == some .local) && decide ((x :: cp.map (·.2)).Nodup) && scope.names.all (fun y => !(y.2 == .local) || (scope.names.lookup y.1 == some .local)) &&
  scope.names.all (fun y => !(y.2 == .cell)) && scope.names.all (fun y => !(y.2 == .free) || (sc.names.lookup y.1 == some .cell)) &&
  cp.all (fun p => (N[p.1]? == some p.2) && (sc.names.lookup p.2 == some .cell) && (scope.names.lookup p.2 == some .free))
theorem CompScope.of {X : Cx} {scope : Scope} {x : Str} {cp : List (Nat × Str)} (sc : Scope) (N : List Str) (e1 : X.env.scope = sc) (e2 : X.N = N) (h : compC sc N scope x cp = true) : CompScope X scope x cp := by
  subst e1 e2
  unfold compC at h
  simp only [Bool.and_eq_true, beq_iff_eq, decide_eq_true_eq, List.all_eq_true, Bool.or_eq_true, Bool.not_eq_true', beq_eq_false_iff_ne] at h
  obtain ⟨⟨⟨⟨⟨⟨h1, h2⟩, h3⟩, h4⟩, h5⟩, h6⟩, h7⟩ := h
  refine ⟨h1, h2, h3, fun y hy hk => (h4 y hy).resolve_left fun z => z hk, fun y hy => h5 y hy, fun y hy hk => (h6 y hy).resolve_left fun z => z hk, ?_⟩
  have go : ∀ l : List (Nat × Str), (∀ p ∈ l, (X.N[p.1]? = some p.2 ∧ X.env.scope.names.lookup p.2 = some .cell) ∧ scope.names.lookup p.2 = some .free) → CapOk X scope l := by
    intro l
    induction l with
    | nil => intro _; trivial
    | cons p r ih =>
      intro hp
      obtain ⟨⟨a, b⟩, c⟩ := hp p List.mem_cons_self
      exact ⟨⟨a, b, c⟩, ih fun q hq => hp q (List.mem_cons_of_mem _ hq)⟩
  exact go cp h7
/-! a dict of the module, its keys texts -/
section
variable {X : Cx}
def tKGet (kvs : List (Key × V)) (ty : TE) : TE := fun σ H Q => ty σ H fun y H1 => ∃ k v, y = kV k ∧ valV kvs k = some v ∧ Q v H1
theorem pe_kget {x : Str} {a : Addr} {i : Expr} {ty : TE} {p pos : Pos} {kvs : List (Key × V)} (hg : Gl X x) (hm : X.mg x = some (.ref a)) (hd : ∀ h : Heap, X.K.In h → ∃ vs, KV kvs vs ∧ h.DictOf (mixKind X.prog X.w) a vs) (hi : PE X i ty) (hs : NoSl i)
    (hdb : (x == ("__debug__" : Str)) = false := by decide) : PE X (.Subscript (.Name x p) i pos) (tKGet kvs ty) := by
  intro pins s σ H Q I h
  have ho : PE X (.Name x p) (tC (.ref a)) := pe_glob hg hm rfl hdb
  refine subD_of PySem.F.slot_dict_getitem.lookup hs (thn (ho pins s σ H (fun v H' => v = .ref a ∧ H' = H) I ⟨rfl, rfl⟩) fun u s1 ⟨xv, H1, I1, rx, e1, e2⟩ => ?_)
  subst e1 e2
  obtain rfl : u = Value.ref a := rx
  refine thn (hi pins s1 σ H1 _ I1 h) fun iv s2 ⟨y, H2, I2, ry, k, v, ey, ev, q2⟩ => ?_
  subst ey
  obtain ⟨vs, rel, dd⟩ := hd s2.heap I2.kIn
  obtain ⟨w', hw, rw'⟩ := RelO.some_of (v := v) (o := valueAt vs k) (by rw [← ev]; exact rel.val k)
  exact ⟨dd.typeIs, wpAny_getItem_of (kV_is ry) dd.mapOf hw ⟨v, H2, I2.tok _, rw', q2⟩⟩
end
theorem upd_upd_same {H : Hp} {a : Addr} {o o' : HO} : upd (upd H a o) a o' = upd H a o' := by
  funext b; unfold upd; split <;> rfl
theorem same_new {H : Hp} {p : Addr} (h : H p = none) (o : HO) : Same H (upd H p o) := fun b u q => by rw [upd_ne (ne_of_none q h)]; exact q
theorem small {n : Nat} (h : n ≤ 1000) : n ≤ sizeLine := Nat.le_of_lt (small1000 h)
theorem iteD {c A B : Prop} [Decidable c] (hc : c) (h : A) : if decide c = true then A else B := by rw [decide_eq_true hc]; exact iteT h
theorem iteDF {c A B : Prop} [Decidable c] (hc : ¬ c) (h : B) : if decide c = true then A else B := by rw [decide_eq_false hc]; exact iteF h
theorem iteN {c A B : Prop} [Decidable c] (hc : ¬ c) (h : A) : if (!decide c) = true then A else B := by rw [decide_eq_false hc]; exact iteT h
/-- a value that is decided -/
theorem blT {c : Prop} [Decidable c] {Q : VK} {H : Hp} (hc : c) (h : Q (.bl true) H) : Q (.bl (decide c)) H := by rw [decide_eq_true hc]; exact h
theorem arr_mem {z : Array Nat} {i c : Nat} (h : z[i]? = some c) : c ∈ z.toList := by rw [← Array.getElem?_toList] at h; exact List.mem_of_getElem? h
theorem addSmall {a b : Nat} (ha : a ≤ 500) (hb : b ≤ 500) : a + b ≤ sizeLine := small (by omega)
/-! ### a display of written texts -/
def strsE : List Expr → Option (List Str)
  | [] => some []
  | .Constant (.str x) _ _ :: r => (strsE r).map (x :: ·)
  | _ => none
def tStrs (zs : List Str) : TA := fun _ H Q => Q (zs.map V.str) H
theorem pa_strs {X : Cx} : ∀ {es : List Expr} {zs : List Str}, strsE es = some zs → PA X es (tStrs zs)
  | [], zs, h => by
    have e : zs = [] := (Option.some.inj h).symm
    subst e
    exact fun pos pins s σ H Q I q => pa_nil pos pins s σ H Q I q
  | e :: r, zs, h => by
    cases e with
    | Constant c j pos =>
      cases c with
      | str x =>
        have h' : (strsE r).map (x :: ·) = some zs := h
        cases hr : strsE r with
        | none => rw [hr] at h'; cases h'
        | some ys =>
          rw [hr] at h'
          have e : zs = x :: ys := (Option.some.inj h').symm
          subst e
          exact fun pos pins s σ H Q I q => pa_cons (pe_str (X := X)) (pa_strs hr) rfl pos pins s σ H Q I q
      | _ => cases h
    | _ => cases h
theorem pe_strs {X : Cx} {es : List Expr} {pos : Pos} (zs : List Str) (h : strsE es = some zs) : PE X (.List es pos) (tLst (tStrs zs)) := pe_lst (pa_strs h)
end L2

set_option Elab.async false
set_option linter.all false
set_option maxRecDepth 100000
set_option maxHeartbeats 4000000
namespace Lf
open PySem L2
def SIGNS : Str := "abcdefghijklmnopqrstuvwxyzABCDEFGHIJKLMNOPQRSTUVWXYZ0123456789 .,:;-/()\n"
/-! ### pieces -/
inductive Pc where
  | say (t : Str)
  | ask (n sg : Str) (lo hi : Int)
inductive Pie where
  | one (p : Pc)
  | rows (n : Str) (inner : List Pc) (gap : Str) (lo hi : Int)
def Pc.tup : Pc → List V
  | .say t => [.str "say", .str t]
  | .ask n sg lo hi => [.str "ask", .str n, .str sg, .int lo, .int hi]
def Pc.At (H : Hp) (p : Pc) (v : V) : Prop := ∃ a, v = .ref a ∧ H a = some (.tup p.tup)
def Pie.At (H : Hp) : Pie → V → Prop
  | .one p, v => p.At H v
  | .rows n inner gap lo hi, v => ∃ a l vs, v = .ref a ∧ H a = some (.tup [.str "rows", .str n, .ref l, .str gap, .int lo, .int hi]) ∧ H l = some (.lst vs) ∧ Paired (Pc.At H) inner vs
theorem Pc.At.mono {H H' : Hp} (e : Same H H') {p : Pc} {v : V} (h : p.At H v) : p.At H' v := by
  obtain ⟨a, rfl, q⟩ := h
  exact ⟨a, rfl, e _ _ q⟩
theorem Pie.At.mono {H H' : Hp} (e : Same H H') : ∀ {p : Pie} {v : V}, p.At H v → p.At H' v
  | .one p, v, h => Pc.At.mono (p := p) e h
  | .rows .., v, ⟨a, l, vs, h1, h2, h3, h4⟩ => ⟨a, l, vs, h1, e _ _ h2, e _ _ h3, Paired.mapP h4 fun _ _ q => q.mono e⟩
/-! ### what is asked of them -/
structure SignsOk (z : Str) (lo hi : Nat) : Prop where
  lo : lo ≤ z.length
  hi : z.length ≤ hi
  all : ∀ c ∈ z.cps.toList, c ∈ SIGNS.cps.toList
def Pc.ok : Pc → Prop
  | .say t => SignsOk t 1 12
  | .ask n sg lo hi => n ≠ "" ∧ SignsOk sg 1 20 ∧ (sgn sg).Nodup ∧ 0 ≤ lo ∧ lo ≤ hi ∧ hi ≤ 4
def Pc.nm : Pc → List Str
  | .say _ => []
  | .ask n .. => [n]
structure PartsOk (ps : List Pc) : Prop where
  lo : 1 ≤ ps.length
  hi : ps.length ≤ 3
  all : ∀ p ∈ ps, p.ok
  nd : (ps.flatMap Pc.nm).Nodup
def Pie.ok : Pie → Prop
  | .one p => p.ok
  | .rows n inner gap lo hi => n ≠ "" ∧ PartsOk inner ∧ SignsOk gap 0 5 ∧ 0 ≤ lo ∧ lo ≤ hi ∧ hi ≤ 3
def Pie.nm : Pie → List Str
  | .one p => p.nm
  | .rows n .. => [n]
structure FormOk (ps : List Pie) : Prop where
  lo : 1 ≤ ps.length
  hi : ps.length ≤ 6
  all : ∀ p ∈ ps, p.ok
  nd : (ps.flatMap Pie.nm).Nodup
/-! ### the program's own objects -/
structure Cl where
  (say ask rows form : Addr)
def Fld (H : Hp) (a C : Addr) (fs : List (Str × V)) : Prop := ∃ dx l, H a = some (.ins C dx l) ∧ ∀ p ∈ fs, l.lookup p.1 = some p.2
def Pc.Obj (c : Cl) (H : Hp) : Pc → V → Prop
  | .say t, v => ∃ a, v = .ref a ∧ Fld H a c.say [("text", .str t)]
  | .ask n sg lo hi, v => ∃ a, v = .ref a ∧ Fld H a c.ask [("name", .str n), ("signs", .str sg), ("least", .int lo), ("most", .int hi)]
/-- lists are younger than H0 -/
def Pie.AtF (H0 H : Hp) : Pie → V → Prop
  | .one p, v => p.At H v
  | .rows n inner gap lo hi, v => ∃ a l vs, v = .ref a ∧ H a = some (.tup [.str "rows", .str n, .ref l, .str gap, .int lo, .int hi]) ∧ H l = some (.lst vs) ∧ H0 l = none ∧ Paired (Pc.At H) inner vs
def Pie.Obj (c : Cl) (H0 H : Hp) : Pie → V → Prop
  | .one p, v => p.Obj c H v
  | .rows n inner gap lo hi, v => ∃ a l vs, v = .ref a ∧ Fld H a c.rows [("name", .str n), ("parts", .ref l), ("gap", .str gap), ("least", .int lo), ("most", .int hi)] ∧ H l = some (.lst vs) ∧ H0 l = none ∧ Paired (Pc.Obj c H) inner vs
def FormAt (c : Cl) (H0 H : Hp) (ps : List Pie) (v : V) : Prop := ∃ a l vs m us, v = .ref a ∧ Fld H a c.form [("plan", .ref l), ("pieces", .ref m)] ∧ H l = some (.lst vs) ∧ H0 l = none ∧ Paired (Pie.Obj c H0 H) ps vs ∧ H m = some (.lst us) ∧ H0 m = none ∧ Paired (Pie.AtF H0 H) ps us
/-- all but lists that H0 knows are as they were -/
def Keep (H0 H H' : Hp) : Prop := ∀ b o, H b = some o → ((∃ xs, o = .lst xs) → H0 b = none) → H' b = some o
theorem keepOf {H0 H H' : Hp} (e : Same H H') : Keep H0 H H' := fun b o h _ => e b o h
theorem Pc.At.keep {H0 H H' : Hp} (e : Keep H0 H H') {p : Pc} {v : V} (h : p.At H v) : p.At H' v := by
  obtain ⟨a, rfl, q⟩ := h
  exact ⟨a, rfl, e _ _ q fun ⟨_, z⟩ => by cases z⟩
theorem Fld.keep {H0 H H' : Hp} (e : Keep H0 H H') {a C : Addr} {fs : List (Str × V)} (h : Fld H a C fs) : Fld H' a C fs := by
  obtain ⟨dx, l, h1, h2⟩ := h
  exact ⟨dx, l, e _ _ h1 (fun ⟨_, z⟩ => by cases z), h2⟩
theorem Fld.mono {H H' : Hp} (e : Same H H') {a C : Addr} {fs : List (Str × V)} (h : Fld H a C fs) : Fld H' a C fs := h.keep (H0 := H) (keepOf e)
theorem Pc.Obj.keep {c : Cl} {H0 H H' : Hp} (e : Keep H0 H H') : ∀ {p : Pc} {v : V}, p.Obj c H v → p.Obj c H' v
  | .say _, _, ⟨a, h1, h2⟩ => ⟨a, h1, h2.keep e⟩
  | .ask .., _, ⟨a, h1, h2⟩ => ⟨a, h1, h2.keep e⟩
theorem Pie.Obj.keep {c : Cl} {H0 H H' : Hp} (e : Keep H0 H H') : ∀ {p : Pie} {v : V}, p.Obj c H0 H v → p.Obj c H0 H' v
  | .one p, _, h => Pc.Obj.keep (p := p) e h
  | .rows .., _, ⟨a, l, vs, h1, h2, h3, h5, h4⟩ => ⟨a, l, vs, h1, h2.keep e, e _ _ h3 (fun _ => h5), h5, Paired.mapP h4 fun _ _ q => q.keep e⟩
theorem Pie.AtF.keep {H0 H H' : Hp} (e : Keep H0 H H') : ∀ {p : Pie} {v : V}, p.AtF H0 H v → p.AtF H0 H' v
  | .one p, _, h => Pc.At.keep (p := p) e h
  | .rows .., _, ⟨a, l, vs, h1, h2, h3, h5, h4⟩ => ⟨a, l, vs, h1, e _ _ h2 (fun ⟨_, z⟩ => by cases z), e _ _ h3 (fun _ => h5), h5, Paired.mapP h4 fun _ _ q => q.keep e⟩
theorem FormAt.keep {c : Cl} {H0 H H' : Hp} (e : Keep H0 H H') {ps : List Pie} {v : V} (h : FormAt c H0 H ps v) : FormAt c H0 H' ps v := by
  obtain ⟨a, l, vs, m, us, h1, h2, h3, hl, h4, h5, hm, h6⟩ := h
  exact ⟨a, l, vs, m, us, h1, h2.keep e, e _ _ h3 (fun _ => hl), hl, Paired.mapP h4 fun _ _ q => q.keep e, e _ _ h5 (fun _ => hm), hm, Paired.mapP h6 fun _ _ q => q.keep e⟩
theorem Pc.Obj.mono {c : Cl} {H H' : Hp} (e : Same H H') {p : Pc} {v : V} (h : p.Obj c H v) : p.Obj c H' v := h.keep (H0 := H) (keepOf e)
theorem Pie.Obj.mono {c : Cl} {H0 H H' : Hp} (e : Same H H') {p : Pie} {v : V} (h : p.Obj c H0 H v) : p.Obj c H0 H' v := h.keep (keepOf e)
theorem Pie.AtF.mono {H0 H H' : Hp} (e : Same H H') {p : Pie} {v : V} (h : p.AtF H0 H v) : p.AtF H0 H' v := h.keep (keepOf e)
theorem FormAt.mono {c : Cl} {H0 H H' : Hp} (e : Same H H') {ps : List Pie} {v : V} (h : FormAt c H0 H ps v) : FormAt c H0 H' ps v := h.keep (keepOf e)
theorem noneOf {H H' : Hp} (e : Same H H') {a : Addr} (h : H' a = none) : H a = none := e.free h
/-- younger than a later heap is younger than an earlier one -/
theorem Pie.Obj.older {c : Cl} {H0 H1 H : Hp} (e : Same H0 H1) : ∀ {p : Pie} {v : V}, p.Obj c H1 H v → p.Obj c H0 H v
  | .one p, _, h => h
  | .rows .., _, ⟨a, l, vs, h1, h2, h3, h5, h4⟩ => ⟨a, l, vs, h1, h2, h3, noneOf e h5, h4⟩
theorem Pie.AtF.older {H0 H1 H : Hp} (e : Same H0 H1) : ∀ {p : Pie} {v : V}, p.AtF H1 H v → p.AtF H0 H v
  | .one p, _, h => h
  | .rows .., _, ⟨a, l, vs, h1, h2, h3, h5, h4⟩ => ⟨a, l, vs, h1, h2, h3, noneOf e h5, h4⟩
/-! ### values and what is written -/
abbrev Row := Str → Option Str
inductive Val where
  | text (t : Str)
  | rows (rs : List Row)
abbrev Vs := Str → Option Val
def RowAt (H : Hp) (f : Row) (v : V) : Prop := ∃ a kvs, v = .ref a ∧ Rd H a (.dK kvs) ∧ ∀ n t, f n = some t → valV kvs (Sum.inr n) = some (.str t)
def ValAt (H : Hp) : Val → V → Prop
  | .text t, v => v = .str t
  | .rows rs, v => ∃ l vs, v = .ref l ∧ H l = some (.lst vs) ∧ Paired (RowAt H) rs vs
def VsAt (H : Hp) (F : Vs) (v : V) : Prop := ∃ a kvs, v = .ref a ∧ Rd H a (.dK kvs) ∧ ∀ n x, F n = some x → ∃ u, valV kvs (Sum.inr n) = some u ∧ ValAt H x u
theorem Rd.mono {H H' : Hp} (e : Same H H') {a : Addr} {u : HO} (h : Rd H a u) : Rd H' a u := by
  rcases h with h | ⟨o, h⟩
  · exact .inl (e _ _ h)
  · exact .inr ⟨o, e _ _ h⟩
theorem RowAt.mono {H H' : Hp} (e : Same H H') {f : Row} {v : V} (h : RowAt H f v) : RowAt H' f v := by
  obtain ⟨a, kvs, h1, h2, h3⟩ := h
  exact ⟨a, kvs, h1, Rd.mono e h2, h3⟩
theorem ValAt.mono {H H' : Hp} (e : Same H H') : ∀ {x : Val} {v : V}, ValAt H x v → ValAt H' x v
  | .text _, _, h => h
  | .rows _, _, ⟨l, vs, h1, h2, h3⟩ => ⟨l, vs, h1, e _ _ h2, Paired.mapP h3 fun _ _ q => q.mono e⟩
theorem VsAt.mono {H H' : Hp} (e : Same H H') {F : Vs} {v : V} (h : VsAt H F v) : VsAt H' F v := by
  obtain ⟨a, kvs, h1, h2, h3⟩ := h
  refine ⟨a, kvs, h1, Rd.mono e h2, fun n x q => ?_⟩
  obtain ⟨u, h4, h5⟩ := h3 n x q
  exact ⟨u, h4, h5.mono e⟩
/-- a text fits an ask -/
structure Fits (sg : Str) (lo hi : Int) (t : Str) : Prop where
  lo : lo ≤ t.length
  hi : (t.length : Int) ≤ hi
  all : ∀ c ∈ t.cps.toList, c ∈ sg.cps.toList
def FitPc (f : Row) : Pc → Prop
  | .say _ => True
  | .ask n sg lo hi => ∃ t, f n = some t ∧ Fits sg lo hi t
def FitRow (ps : List Pc) (f : Row) : Prop := ∀ p ∈ ps, FitPc f p
def FitPie (F : Vs) : Pie → Prop
  | .one (.say _) => True
  | .one (.ask n sg lo hi) => ∃ t, F n = some (.text t) ∧ Fits sg lo hi t
  | .rows n inner _ lo hi => ∃ rs, F n = some (.rows rs) ∧ lo ≤ (rs.length : Int) ∧ (rs.length : Int) ≤ hi ∧ ∀ f ∈ rs, FitRow inner f
def cat (l : List Str) : Str := Str.join Str.empty l
def wPc (f : Row) : Pc → Str
  | .say t => t
  | .ask n .. => (f n).getD Str.empty
def wRow (ps : List Pc) (f : Row) : Str := cat (ps.map (wPc f))
def wPie (F : Vs) : Pie → Str
  | .one (.say t) => t
  | .one (.ask n ..) => match F n with | some (.text t) => t | _ => Str.empty
  | .rows n inner gap .. => match F n with | some (.rows rs) => Str.join gap (rs.map (wRow inner)) | _ => Str.empty
def wForm (ps : List Pie) (F : Vs) : Str := cat (ps.map (wPie F))
end Lf

set_option Elab.async false
set_option linter.all false
set_option maxRecDepth 100000
set_option maxHeartbeats 4000000
namespace Lf
open PySem L2
def top (i : Nat) : Stmt := PySem.Challenge.pw_letterform_k01_forms.main.body.getD i (.Pass ⟨0, 0, 0, 0⟩)
abbrev sNamesOf : Stmt := top 13
abbrev sNamesIn : Stmt := top 14
abbrev sPartsOf : Stmt := top 15
abbrev sPartOf : Stmt := top 16
abbrev sCopyOf : Stmt := top 17
abbrev sNeed : Stmt := top 18
abbrev sNeedSigns : Stmt := top 19
abbrev sNeedBounds : Stmt := top 20
abbrev sFill : Stmt := top 22
abbrev sFilledParts : Stmt := top 23
abbrev sFilledPart : Stmt := top 24
abbrev sFilledAsk : Stmt := top 25
abbrev sFilledRows : Stmt := top 26
abbrev sValueOf : Stmt := top 27
abbrev sLawCellAt : Stmt := top 29
abbrev sLawDraw : Stmt := top 30
abbrev sLawSigns : Stmt := top 31
abbrev sLawSay : Stmt := top 32
abbrev sLawAsk : Stmt := top 33
abbrev sLawInner : Stmt := top 34
abbrev sLawPiece : Stmt := top 35
abbrev sLawPieces : Stmt := top 36
abbrev sLawWord : Stmt := top 37
abbrev sLawRow : Stmt := top 38
abbrev sLawValues : Stmt := top 39
abbrev sLawLine : Stmt := top 40
abbrev sLawWritten : Stmt := top 41
abbrev sLaw : Stmt := top 42
abbrev sFormI : Stmt := inClass (top 9) 0
abbrev sSayI : Stmt := inClass (top 10) 0
abbrev sAskI : Stmt := inClass (top 11) 0
abbrev sRowsI : Stmt := inClass (top 12) 0
structure Adr where
  (aNamesOf aNamesIn aPartsOf aPartOf aCopyOf aNeed aNeedSigns aNeedBounds aFill aFilledParts aFilledPart aFilledAsk aFilledRows aValueOf aLawCellAt aLawDraw aLawSigns aLawSay aLawAsk aLawInner aLawPiece aLawPieces aLawWord aLawRow aLawValues aLawLine aLawWritten aLaw aFormI aSayI aAskI aRowsI : Addr)
  (dNamesOf dNamesIn dPartsOf dPartOf dCopyOf dNeed dNeedSigns dNeedBounds dFill dFilledParts dFilledPart dFilledAsk dFilledRows dValueOf dLawCellAt dLawDraw dLawSigns dLawSay dLawAsk dLawInner dLawPiece dLawPieces dLawWord dLawRow dLawValues dLawLine dLawWritten dLaw dFormI dSayI dAskI dRowsI : FuncData)
  (cForm cSay cAsk cRows : Addr)
  (cWords cRow cLen : Addr)
structure ClsOk (K : PySem.W.Frag) (C : Addr) : Prop where
  cl : Cls K C
  ha : PySem.W.findIn K (.ref C) "__class__" = some (some (.builtin "object.__class__"))
  hn : PySem.W.specialIn K (.builtin "object.__class__") "__get__" = some (some (.builtin "getset_descriptor.__get__"))
  ht : PySem.W.takesIn K (.builtin "object.__class__") = some true
  hm : PySem.W.mroIn K C (.type "object") = some true
structure Txt (w : World) (K : PySem.W.Frag) (mg : Str → Option Value) (D : Adr) : Prop where
  fNamesOf : Fun K "names_of" "names_of" sNamesOf D.aNamesOf D.dNamesOf
  bNamesOf : Binds K D.dNamesOf ["form"] []
  mNamesOf : mg "names_of" = some (.ref D.aNamesOf)
  fNamesIn : Fun K "names_in" "names_in" sNamesIn D.aNamesIn D.dNamesIn
  bNamesIn : Binds K D.dNamesIn ["parts"] []
  mNamesIn : mg "names_in" = some (.ref D.aNamesIn)
  fPartsOf : Fun K "parts_of" "parts_of" sPartsOf D.aPartsOf D.dPartsOf
  bPartsOf : Binds K D.dPartsOf ["pieces", "words", "most"] []
  mPartsOf : mg "parts_of" = some (.ref D.aPartsOf)
  fPartOf : Fun K "part_of" "part_of" sPartOf D.aPartOf D.dPartOf
  bPartOf : Binds K D.dPartOf ["piece", "words"] []
  mPartOf : mg "part_of" = some (.ref D.aPartOf)
  fCopyOf : Fun K "copy_of" "copy_of" sCopyOf D.aCopyOf D.dCopyOf
  bCopyOf : Binds K D.dCopyOf ["piece"] []
  mCopyOf : mg "copy_of" = some (.ref D.aCopyOf)
  fNeed : Fun K "need" "need" sNeed D.aNeed D.dNeed
  bNeed : Binds K D.dNeed ["holds", "words"] []
  mNeed : mg "need" = some (.ref D.aNeed)
  fNeedSigns : Fun K "need_signs" "need_signs" sNeedSigns D.aNeedSigns D.dNeedSigns
  bNeedSigns : Binds K D.dNeedSigns ["text", "least", "most", "what"] []
  mNeedSigns : mg "need_signs" = some (.ref D.aNeedSigns)
  fNeedBounds : Fun K "need_bounds" "need_bounds" sNeedBounds D.aNeedBounds D.dNeedBounds
  bNeedBounds : Binds K D.dNeedBounds ["part", "highest"] []
  mNeedBounds : mg "need_bounds" = some (.ref D.aNeedBounds)
  fFill : Fun K "fill" "fill" sFill D.aFill D.dFill
  bFill : Binds K D.dFill ["form", "values"] []
  mFill : mg "fill" = some (.ref D.aFill)
  fFilledParts : Fun K "filled_parts" "filled_parts" sFilledParts D.aFilledParts D.dFilledParts
  bFilledParts : Binds K D.dFilledParts ["parts", "values"] []
  mFilledParts : mg "filled_parts" = some (.ref D.aFilledParts)
  fFilledPart : Fun K "filled_part" "filled_part" sFilledPart D.aFilledPart D.dFilledPart
  bFilledPart : Binds K D.dFilledPart ["part", "values"] []
  mFilledPart : mg "filled_part" = some (.ref D.aFilledPart)
  fFilledAsk : Fun K "filled_ask" "filled_ask" sFilledAsk D.aFilledAsk D.dFilledAsk
  bFilledAsk : Binds K D.dFilledAsk ["ask", "values"] []
  mFilledAsk : mg "filled_ask" = some (.ref D.aFilledAsk)
  fFilledRows : Fun K "filled_rows" "filled_rows" sFilledRows D.aFilledRows D.dFilledRows
  bFilledRows : Binds K D.dFilledRows ["rows", "values"] []
  mFilledRows : mg "filled_rows" = some (.ref D.aFilledRows)
  fValueOf : Fun K "value_of" "value_of" sValueOf D.aValueOf D.dValueOf
  bValueOf : Binds K D.dValueOf ["part", "values"] []
  mValueOf : mg "value_of" = some (.ref D.aValueOf)
  fLawCellAt : Fun K "_law_cell_at" "_law_cell_at" sLawCellAt D.aLawCellAt D.dLawCellAt
  bLawCellAt : Binds K D.dLawCellAt ["script", "k"] []
  mLawCellAt : mg "_law_cell_at" = some (.ref D.aLawCellAt)
  fLawDraw : Fun K "_law_draw" "_law_draw" sLawDraw D.aLawDraw D.dLawDraw
  bLawDraw : Binds K D.dLawDraw ["script", "k"] []
  mLawDraw : mg "_law_draw" = some (.ref D.aLawDraw)
  fLawSigns : Fun K "_law_signs" "_law_signs" sLawSigns D.aLawSigns D.dLawSigns
  bLawSigns : Binds K D.dLawSigns ["cell"] []
  mLawSigns : mg "_law_signs" = some (.ref D.aLawSigns)
  fLawSay : Fun K "_law_say" "_law_say" sLawSay D.aLawSay D.dLawSay
  bLawSay : Binds K D.dLawSay ["cell"] []
  mLawSay : mg "_law_say" = some (.ref D.aLawSay)
  fLawAsk : Fun K "_law_ask" "_law_ask" sLawAsk D.aLawAsk D.dLawAsk
  bLawAsk : Binds K D.dLawAsk ["script", "k", "name", "most"] []
  mLawAsk : mg "_law_ask" = some (.ref D.aLawAsk)
  fLawInner : Fun K "_law_inner" "_law_inner" sLawInner D.aLawInner D.dLawInner
  bLawInner : Binds K D.dLawInner ["script", "k", "many", "most"] []
  mLawInner : mg "_law_inner" = some (.ref D.aLawInner)
  fLawPiece : Fun K "_law_piece" "_law_piece" sLawPiece D.aLawPiece D.dLawPiece
  bLawPiece : Binds K D.dLawPiece ["script", "k", "name", "most"] []
  mLawPiece : mg "_law_piece" = some (.ref D.aLawPiece)
  fLawPieces : Fun K "_law_pieces" "_law_pieces" sLawPieces D.aLawPieces D.dLawPieces
  bLawPieces : Binds K D.dLawPieces ["script", "many", "most"] []
  mLawPieces : mg "_law_pieces" = some (.ref D.aLawPieces)
  fLawWord : Fun K "_law_word" "_law_word" sLawWord D.aLawWord D.dLawWord
  bLawWord : Binds K D.dLawWord ["script", "k", "piece"] []
  mLawWord : mg "_law_word" = some (.ref D.aLawWord)
  fLawRow : Fun K "_law_row" "_law_row" sLawRow D.aLawRow D.dLawRow
  bLawRow : Binds K D.dLawRow ["script", "k", "pieces"] []
  mLawRow : mg "_law_row" = some (.ref D.aLawRow)
  fLawValues : Fun K "_law_values" "_law_values" sLawValues D.aLawValues D.dLawValues
  bLawValues : Binds K D.dLawValues ["script", "start", "pieces"] []
  mLawValues : mg "_law_values" = some (.ref D.aLawValues)
  fLawLine : Fun K "_law_line" "_law_line" sLawLine D.aLawLine D.dLawLine
  bLawLine : Binds K D.dLawLine ["pieces", "values"] []
  mLawLine : mg "_law_line" = some (.ref D.aLawLine)
  fLawWritten : Fun K "_law_written" "_law_written" sLawWritten D.aLawWritten D.dLawWritten
  bLawWritten : Binds K D.dLawWritten ["pieces", "values"] []
  mLawWritten : mg "_law_written" = some (.ref D.aLawWritten)
  fLaw : Fun K "law" "law" sLaw D.aLaw D.dLaw
  bLaw : Binds K D.dLaw ["script"] []
  mLaw : mg "law" = some (.ref D.aLaw)
  fFormI : Fun K "__init__" "Form.__init__" sFormI D.aFormI D.dFormI
  bFormI : Binds K D.dFormI ["self", "pieces"] []
  fSayI : Fun K "__init__" "Say.__init__" sSayI D.aSayI D.dSayI
  bSayI : Binds K D.dSayI ["self", "piece"] []
  fAskI : Fun K "__init__" "Ask.__init__" sAskI D.aAskI D.dAskI
  bAskI : Binds K D.dAskI ["self", "piece"] []
  fRowsI : Fun K "__init__" "Rows.__init__" sRowsI D.aRowsI D.dRowsI
  bRowsI : Binds K D.dRowsI ["self", "piece"] []
  kForm : ClsOk K D.cForm
  mkForm : Mk K D.cForm D.aFormI
  mgForm : mg "Form" = some (.ref D.cForm)
  nFormPieces : NoAttr K D.cForm "pieces"
  nFormPlan : NoAttr K D.cForm "plan"
  kSay : ClsOk K D.cSay
  mkSay : Mk K D.cSay D.aSayI
  mgSay : mg "Say" = some (.ref D.cSay)
  nSayText : NoAttr K D.cSay "text"
  kAsk : ClsOk K D.cAsk
  mkAsk : Mk K D.cAsk D.aAskI
  mgAsk : mg "Ask" = some (.ref D.cAsk)
  nAskLeast : NoAttr K D.cAsk "least"
  nAskMost : NoAttr K D.cAsk "most"
  nAskName : NoAttr K D.cAsk "name"
  nAskSigns : NoAttr K D.cAsk "signs"
  kRows : ClsOk K D.cRows
  mkRows : Mk K D.cRows D.aRowsI
  mgRows : mg "Rows" = some (.ref D.cRows)
  nRowsGap : NoAttr K D.cRows "gap"
  nRowsLeast : NoAttr K D.cRows "least"
  nRowsMost : NoAttr K D.cRows "most"
  nRowsName : NoAttr K D.cRows "name"
  nRowsParts : NoAttr K D.cRows "parts"
  isSaySay : PySem.W.kitOne K (.ref D.cSay) (.ref D.cSay) = some true
  isSayAsk : PySem.W.kitOne K (.ref D.cSay) (.ref D.cAsk) = some false
  isAskSay : PySem.W.kitOne K (.ref D.cAsk) (.ref D.cSay) = some false
  isAskAsk : PySem.W.kitOne K (.ref D.cAsk) (.ref D.cAsk) = some true
  isRowsSay : PySem.W.kitOne K (.ref D.cRows) (.ref D.cSay) = some false
  isRowsAsk : PySem.W.kitOne K (.ref D.cRows) (.ref D.cAsk) = some false
  isStrStr : PySem.W.kitOne K (.type "str") (.type "str") = some true
  isStrList : PySem.W.kitOne K (.type "str") (.type "list") = some false
  isListList : PySem.W.kitOne K (.type "list") (.type "list") = some true
  gSigns : ∃ t, mg "SIGNS" = some (.str SIGNS t)
  gWords : mg "FORM_WORDS" = some (.ref D.cWords)
  gRow : mg "ROW_WORDS" = some (.ref D.cRow)
  gLen : mg "LENGTHS" = some (.ref D.cLen)
  tWords : ∃ t1 t2 t3 sl, K.lookup D.cWords = some ⟨.type "tuple", none, .seq #[.str "say" t1, .str "ask" t2, .str "rows" t3] 0, sl⟩
  tRow : ∃ t1 t2 sl, K.lookup D.cRow = some ⟨.type "tuple", none, .seq #[.str "say" t1, .str "ask" t2] 0, sl⟩
  tLen : ∃ t1 t2 t3 u1 u2 u3 ep, K.lookup D.cLen = some ⟨.type "dict", none, .dict #[⟨PyData.keyHash w.params "say", .str "say" t1, .int 2 u1⟩, ⟨PyData.keyHash w.params "ask", .str "ask" t2, .int 5 u2⟩, ⟨PyData.keyHash w.params "rows", .str "rows" t3, .int 6 u3⟩] ep, #[]⟩
  zLen : mg "len" = none
  zRange : mg "range" = none
  zIsinstance : mg "isinstance" = none
  zSet : mg "set" = none
  zAll : mg "all" = none
  zList : mg "list" = none
  zStr : mg "str" = none
  zDict : mg "dict" = none
end Lf

set_option Elab.async false
set_option linter.all false
set_option maxRecDepth 100000
set_option maxHeartbeats 4000000
namespace Lf
open PySem L2
section
variable {P : Program} {w : World} {K : PySem.W.Frag} {mg : Str → Option Value} {base : Heap} {D : Adr}
theorem scNeed : FnScope ["holds", "words"] ["holds", "words"] (defScope sNeed) := ⟨rfl, rfl, rfl, by decide +kernel, rfl, by decide +kernel, by decide +kernel⟩
def spNeed : Sp := fun vs H Q _ => ∃ wd, vs = [.bl true, wd] ∧ Q .non H
theorem ok_need (T : Txt w K mg D) : FnOk P w K mg base CX0 1 D.aNeed D.dNeed ["holds", "words"] spNeed := by
  refine T.fNeed.ok scNeed (fun vs H Q E h => ?_) (fun cdv A outer s H vs Q E hr h => ?_)
  · obtain ⟨wd, rfl, _⟩ := h; rfl
  · obtain ⟨wd, rfl, q⟩ := h
    refine ⟨_, pss_one (ps_if (pt_not (pt_val (pv 0))) pss_never pss_nil), ?_⟩
    exact ⟨_, rfl, _, rfl, iteF q⟩
theorem scNS : FnScope ["text", "least", "most", "what"] ["text", "least", "most", "what"] (defScope sNeedSigns) := ⟨rfl, rfl, rfl, by decide +kernel, rfl, by decide +kernel, by decide +kernel⟩
def spNS : Sp := fun vs H Q _ => ∃ (z : Str) (lo hi : Nat) (wt : Str), vs = [.str z, .int lo, .int hi, .str wt] ∧ SignsOk z lo hi ∧ hi ≤ 100 ∧ wt.length ≤ 100 ∧ ∀ H', Same H H' → Q .non H'
theorem ok_NS (T : Txt w K mg D) : FnOk P w K mg base CX0 2 D.aNeedSigns D.dNeedSigns ["text", "least", "most", "what"] spNS := by
  have G : FnOk P w K mg base CX0 1 D.aNeed D.dNeed ["holds", "words"] spNeed := ok_need T
  obtain ⟨tS, hS⟩ := T.gSigns
  refine T.fNeedSigns.ok scNS (fun vs H Q E h => ?_) (fun cdv A outer s H vs Q E hr h => ?_)
  · obtain ⟨z, lo, hi, wt, rfl, _⟩ := h; rfl
  · obtain ⟨z, lo, hi, wt, rfl, ok, h100, hw, q⟩ := h
    have hz : z.length ≤ sizeLine := small (by have := ok.hi; omega)
    refine ⟨_, pss_cons (ps_expr (pe_call G hr rfl T.mNeed T.fNeed.kp T.bNeed .nil pass0 (pa_cons (pe_chain op_le op_le (pv 1) (pe_callB call_len_str rfl T.zLen PySem.boot_len (pa_cons (pv 0) pa_nil)) (pv 2)) (pa_cons (pe_fstr (pv 3)) pa_nil))))
      (pss_one (ps_expr (pe_call G hr rfl T.mNeed T.fNeed.kp T.bNeed .nil pass0 (pa_cons (pe_callB (call_all rfl) rfl T.zAll PyProof.Rows.boot_all (pa_cons (pe_comp (cp := []) (CompScope.of (defScope sNeedSigns) ["text", "least", "most", "what"] rfl rfl (by decide +kernel)) rfl (pi_str (pv 0)) (fun _ _ _ _ _ => pts_nil)
        (fun _ _ _ _ _ => pe_cmpR op_inSign (pv 0) (pe_glob (v := .str SIGNS) rfl hS ⟨tS, rfl⟩) rfl)) pa_nil)) (pa_cons (pe_fstr (pv 3)) pa_nil))))), ?_⟩
    have hlo : (lo : Int) ≤ (z.length : Int) := by have := ok.lo; omega
    have hhi : (z.length : Int) ≤ (hi : Int) := by have := ok.hi; omega
    refine ⟨_, rfl, _, rfl, z, rfl, hz, _, _, rfl, rfl, _, rfl, iteD hlo ⟨_, rfl, _, _, rfl, rfl, _, rfl, wt, rfl, addSmall (by omega) (by decide +kernel), _, congrArg (fun b => [V.bl b, _]) (decide_eq_true hhi), ?_⟩⟩
    refine ⟨_, rfl, z, rfl, comp_str (fun i ys H' => H' = H ∧ ys = List.replicate i (V.bl true)) ⟨rfl, rfl⟩ (fun i ys H' _ e => by rw [e.2, List.length_replicate]; exact Nat.le_refl _) hz (fun i c ys H' hc e => ?_) (fun ys H' e p hp => ?_)⟩
    · obtain ⟨rfl, rfl⟩ := e
      refine ⟨_, rfl, c, SIGNS, rfl, rfl, ?_⟩
      refine blT (Q := fun y H5 => H5 = H' ∧ List.replicate i (V.bl true) ++ [y] = List.replicate (i + 1) (V.bl true)) (ok.all c (arr_mem hc)) ⟨rfl, ?_⟩
      rw [List.replicate_succ']
    · obtain ⟨rfl, rfl⟩ := e
      refine ⟨p, List.replicate z.cps.size true, rfl, SqL.of (by rw [upd_same, List.map_replicate]), _, rfl, wt, rfl, addSmall (by omega) (by decide +kernel), _, congrArg (fun b => [V.bl b, _]) ?_, q _ (same_new hp _)⟩
      simp
theorem scNB : FnScope ["part", "highest"] ["part", "highest"] (defScope sNeedBounds) := ⟨rfl, rfl, rfl, by decide +kernel, rfl, by decide +kernel, by decide +kernel⟩
structure HasB (K : PySem.W.Frag) (C : Addr) : Prop where
  cl : Cls K C
  l : NoAttr K C "least"
  m : NoAttr K C "most"
def spNB (K : PySem.W.Frag) : Sp := fun vs H Q _ => ∃ (a C : Addr) (lo hi h : Int), vs = [.ref a, .int h] ∧ HasB K C ∧ Fld H a C [("least", .int lo), ("most", .int hi)] ∧ 0 ≤ lo ∧ lo ≤ hi ∧ hi ≤ h ∧ Q .non H
theorem ok_NB (T : Txt w K mg D) : FnOk P w K mg base CX0 2 D.aNeedBounds D.dNeedBounds ["part", "highest"] (spNB K) := by
  have G : FnOk P w K mg base CX0 1 D.aNeed D.dNeed ["holds", "words"] spNeed := ok_need T
  refine T.fNeedBounds.ok scNB (fun vs H Q E h => ?_) (fun cdv A outer s H vs Q E hr h => ?_)
  · obtain ⟨a, C, lo, hi, h, rfl, _⟩ := h; rfl
  · obtain ⟨a, C, lo, hi, h, rfl, B, ⟨dx, fs, ha, hf⟩, h0, h1, h2, q⟩ := h
    have el := hf ("least", .int lo) (by simp)
    have em := hf ("most", .int hi) (by simp)
    refine ⟨_, pss_one (ps_expr (pe_call G hr rfl T.mNeed T.fNeed.kp T.bNeed .nil pass0 (pa_cons (pe_chain3 op_le op_le op_le pe_int (pe_fld (pv 0) rfl) (pe_fld (pv 0) rfl) (pv 1)) (pa_cons pe_str pa_nil)))), ?_⟩
    refine ⟨_, rfl, a, C, dx, _, _, rfl, ha, B.cl, B.l, el, _, _, rfl, rfl, _, rfl, iteD h0 ⟨_, rfl, a, C, dx, _, _, rfl, ha, B.cl, B.m, em, _, _, rfl, rfl, _, rfl, iteD h1 ⟨_, rfl, _, _, rfl, rfl, _, congrArg (fun b => [V.bl b, _]) (decide_eq_true h2), q⟩⟩⟩
/-! ### names_in -/
theorem scNI : FnScope ["parts"] ["parts"] (defScope sNamesIn) := ⟨rfl, rfl, rfl, by decide +kernel, rfl, by decide +kernel, by decide +kernel⟩
def Adr.cl (D : Adr) : Cl := ⟨D.cSay, D.cAsk, D.cRows, D.cForm⟩
/-- what an item of a plan is: its class is one of three, and it has a name where it is no say -/
def ItemAt (D : Adr) (H : Hp) (ns : List Str) (v : V) : Prop := ∃ a, v = .ref a ∧ ((ns = [] ∧ ∃ dx fs, H a = some (.ins D.cSay dx fs)) ∨ ∃ n, ns = [n] ∧ (Fld H a D.cAsk [("name", .str n)] ∨ Fld H a D.cRows [("name", .str n)]))
theorem ItemAt.mono {H H' : Hp} (e : Same H H') {ns : List Str} {v : V} (h : ItemAt D H ns v) : ItemAt D H' ns v := by
  obtain ⟨a, rfl, h⟩ := h
  refine ⟨a, rfl, ?_⟩
  rcases h with ⟨h1, dx, fs, h2⟩ | ⟨n, h1, h2 | h2⟩
  · exact .inl ⟨h1, dx, fs, e _ _ h2⟩
  · exact .inr ⟨n, h1, .inl (h2.mono e)⟩
  · exact .inr ⟨n, h1, .inr (h2.mono e)⟩
theorem Fld.sub {H : Hp} {a C : Addr} {fs gs : List (Str × V)} (h : Fld H a C fs) (hs : ∀ p ∈ gs, p ∈ fs) : Fld H a C gs := by
  obtain ⟨dx, l, h1, h2⟩ := h
  exact ⟨dx, l, h1, fun p hp => h2 p (hs p hp)⟩
def spNI (K : PySem.W.Frag) (D : Adr) : Sp := fun vs H Q _ => ∃ (l : Addr) (us : List V) (nss : List (List Str)), vs = [.ref l] ∧ H l = some (.lst us) ∧ us.length ≤ 100 ∧ Paired (ItemAt D H) nss us ∧ (∀ ns ∈ nss, ns.length ≤ 1) ∧
  ∀ r, H r = none → Q (.ref r) (upd H r (.lst (nss.flatten.map V.str)))
theorem ty_of {H : Hp} {a C : Addr} {dx : Addr} {fs : List (Str × V)} (k : ClsOk K C) (h : H a = some (.ins C dx fs)) : TyOf K H (.ref a) (.ref C) := .ins h k.cl k.ha k.hn k.ht k.hm
theorem ok_NI (T : Txt w K mg D) : FnOk P w K mg base CX0 1 D.aNamesIn D.dNamesIn ["parts"] (spNI K D) := by
  refine T.fNamesIn.ok scNI (fun vs H Q E h => ?_) (fun cdv A outer s H vs Q E hr h => ?_)
  · obtain ⟨l, us, nss, rfl, _⟩ := h; rfl
  · obtain ⟨l, us, nss, rfl, hl, h100, hp, hn1, q⟩ := h
    refine ⟨_, pss_one (ps_ret (pe_comp (cp := []) (tt := tNot (tB (tCB (rIsInst K) (tCons (tVar 0) (tCons (tC (.ref D.cSay)) tNil))))) (te := tFld K (tVar 0) "name") (CompScope.of (defScope sNamesIn) ["parts"] rfl rfl (by decide +kernel)) rfl (pi_list (pv 0))
      (fun _ _ _ _ _ => pts_one (pt_not (pt_val (pe_callB call_isinst rfl T.zIsinstance PyProof.Rows.boot_isinstance (pa_cons (pv 0) (pa_cons (pe_glob (v := .ref D.cSay) rfl T.mgSay rfl) pa_nil)))))) (fun _ _ _ _ _ => pe_fld (pv 0) rfl))), ?_⟩
    refine ⟨_, rfl, l, rfl, ⟨_, SqL.of hl⟩, comp_listT (xs := us) (fun i ys H' => H' = H ∧ ys = (nss.take i).flatten.map V.str) ⟨rfl, rfl⟩ (fun i ys H' hi e => ?_) (small (by omega)) (fun i x ys H' hx e => ?_) (fun ys H' e p hp' => ?_)⟩
    · obtain ⟨rfl, rfl⟩ := e
      refine ⟨SqL.of hl, ?_⟩
      rw [List.length_map]
      have go : ∀ (L : List (List Str)), (∀ ns ∈ L, ns.length ≤ 1) → L.flatten.length ≤ L.length := by
        intro L
        induction L with
        | nil => intro _; exact Nat.le_refl _
        | cons x r ih =>
          intro h
          have h1 := h x List.mem_cons_self
          have h2 := ih fun ns hns => h ns (List.mem_cons_of_mem _ hns)
          rw [List.flatten_cons, List.length_append, List.length_cons]
          omega
      have := go (nss.take i) fun ns hns => hn1 ns (List.mem_of_mem_take hns)
      rw [List.length_take] at this
      omega
    · obtain ⟨rfl, rfl⟩ := e
      have hi : i < us.length := (List.getElem?_eq_some_iff.mp hx).1
      have hi2 : i < nss.length := by rw [hp.length]; exact hi
      have hit := paired_get hp (List.getElem?_eq_getElem hi2) hx
      have et : nss.take (i + 1) = nss.take i ++ [nss[i]] := by rw [List.take_add_one, List.getElem?_eq_getElem hi2]; rfl
      obtain ⟨a, rfl, hh⟩ := hit
      rcases hh with ⟨e0, dx, fs, ha⟩ | ⟨n, e1, ha | ha⟩
      · refine ⟨_, rfl, _, _, true, .inl ⟨_, rfl, T.isSaySay⟩, ty_of T.kSay ha, _, rfl, iteF ⟨rfl, ?_⟩⟩
        rw [et, e0]; simp
      · obtain ⟨dx, fs, ha, hf⟩ := ha
        refine ⟨_, rfl, _, _, false, .inl ⟨_, rfl, T.isAskSay⟩, ty_of T.kAsk ha, _, rfl, iteT ⟨_, rfl, a, _, dx, _, _, rfl, ha, T.kAsk.cl, T.nAskName, hf _ (List.mem_singleton.mpr rfl), rfl, ?_⟩⟩
        rw [et, e1]; simp
      · obtain ⟨dx, fs, ha, hf⟩ := ha
        refine ⟨_, rfl, _, _, false, .inl ⟨_, rfl, T.isRowsSay⟩, ty_of T.kRows ha, _, rfl, iteT ⟨_, rfl, a, _, dx, _, _, rfl, ha, T.kRows.cl, T.nRowsName, hf _ (List.mem_singleton.mpr rfl), rfl, ?_⟩⟩
        rw [et, e1]; simp
    · obtain ⟨rfl, rfl⟩ := e
      rw [show us.length = nss.length from hp.length.symm, List.take_length]
      exact q p hp'
end
end Lf

set_option Elab.async false
set_option linter.all false
set_option maxRecDepth 100000
set_option maxHeartbeats 4000000
namespace Lf
open PySem L2
theorem ne_sr : (V.str "say") ≠ V.str "rows" := by decide +kernel
theorem ne_ar : (V.str "ask") ≠ V.str "rows" := by decide +kernel
theorem ne_as : (V.str "ask") ≠ V.str "say" := by decide +kernel
theorem ne_rs : (V.str "rows") ≠ V.str "say" := by decide +kernel
theorem ne_ra : (V.str "rows") ≠ V.str "ask" := by decide +kernel
theorem lk_eq {f : Str} {v : V} {fs : List (Str × V)} : (putF f v fs).lookup f = some v := by rw [lookup_putF, if_pos rfl]
theorem lk_ne {f g : Str} {v u : V} {fs : List (Str × V)} (h : g ≠ f) (e : fs.lookup g = some u) : (putF f v fs).lookup g = some u := by rw [lookup_putF, if_neg h]; exact e
theorem alln {α : Type} {Pr : α → Prop} : ∀ x ∈ ([] : List α), Pr x := fun _ h => nomatch h
theorem allc {α : Type} {Pr : α → Prop} {a : α} {l : List α} (h : Pr a) (t : ∀ x ∈ l, Pr x) : ∀ x ∈ a :: l, Pr x := List.forall_mem_cons.mpr ⟨h, t⟩
/-- all but x is as it was -/
def Besides (x : Addr) (H H' : Hp) : Prop := ∀ b o, H b = some o → b ≠ x → H' b = some o
theorem Besides.upd {x : Addr} {H H' : Hp} (e : Besides x H H') (o : HO) : Besides x H (L2.upd H' x o) := fun b u h n => by rw [upd_ne n]; exact e b u h n
theorem Besides.refl {x : Addr} {H : Hp} : Besides x H H := fun _ _ h _ => h
theorem Besides.same {x : Addr} {H H' H2 : Hp} (e : Besides x H H') (g : Same H' H2) : Besides x H H2 := fun b o h n => g b o (e b o h n)
section
variable {P : Program} {w : World} {K : PySem.W.Frag} {mg : Str → Option Value} {base : Heap} {D : Adr}
theorem scCopy : FnScope ["piece"] ["piece"] (defScope sCopyOf) := ⟨rfl, rfl, rfl, by decide +kernel, rfl, by decide +kernel, by decide +kernel⟩
def spCopy : Sp := fun vs H Q _ => ∃ (p : Pie) (v : V), vs = [v] ∧ p.At H v ∧ (∀ n inner gap lo hi, p = .rows n inner gap lo hi → inner.length ≤ 100) ∧ ∀ u H', Same H H' → p.AtF H H' u → Q u H'
theorem ok_copy (T : Txt w K mg D) : FnOk P w K mg base CX0 1 D.aCopyOf D.dCopyOf ["piece"] spCopy := by
  refine T.fCopyOf.ok scCopy (fun vs H Q E h => ?_) (fun cdv A outer s H vs Q E hr h => ?_)
  · obtain ⟨p, v, rfl, _⟩ := h; rfl
  · obtain ⟨p, v, rfl, hp, hin, q⟩ := h
    refine ⟨_, pss_cons (ps_if (pt_cmpR op_ne (pe_ix ix_tup (pv 0) pe_int (fun _ _ => rfl)) pe_str (nomark _)) (pss_one (ps_ret (pv 0))) pss_nil)
      (pss_one (ps_ret (pe_op op_catT (pe_op op_catT (pe_slice sl_tup (pv 0) po_none (po_some pe_int)) (pe_tup (pa_cons (pe_callTy call_list_of rfl T.zList (by decide +kernel) (pa_cons (pe_ix ix_tup (pv 0) pe_int (fun _ _ => rfl)) pa_nil)) pa_nil)))
        (pe_slice sl_tup (pv 0) (po_some pe_int) po_none)))), ?_⟩
    cases p with
    | one p =>
      cases p with
      | say t =>
        obtain ⟨a, rfl, ha⟩ := hp
        exact ⟨_, rfl, a, _, _, _, rfl, rfl, SqT.of ha, rfl, rfl, _, rfl, iteN ne_sr ⟨_, rfl, q _ H (Same.refl H) ⟨a, rfl, ha⟩⟩⟩
      | ask n sg lo hi =>
        obtain ⟨a, rfl, ha⟩ := hp
        exact ⟨_, rfl, a, _, _, _, rfl, rfl, SqT.of ha, rfl, rfl, _, rfl, iteN ne_ar ⟨_, rfl, q _ H (Same.refl H) ⟨a, rfl, ha⟩⟩⟩
    | rows n inner gap lo hi =>
      obtain ⟨a, l, us, rfl, ha, hl, hq⟩ := hp
      refine ⟨_, rfl, a, _, _, _, rfl, rfl, SqT.of ha, rfl, rfl, _, rfl, iteNS rfl ?_⟩
      refine ⟨_, rfl, _, rfl, a, _, rfl, SqT.of ha, fun z => absurd (show (2 : Nat) = 6 from z.2) (by decide), fun p1 h1 => ?_⟩
      have g1 : Same H _ := same_new h1 (.tup (cutV [.str "rows", .str n, .ref l, .str gap, .int lo, .int hi] none (some 2)))
      refine ⟨_, rfl, a, _, _, _, rfl, rfl, SqT.of (g1 _ _ ha), rfl, l, us, rfl, .inl (SqL.of (g1 _ _ hl)), fun p2 h2 => ⟨(by show 1 ≤ sizeLine; decide), fun p3 h3 => ?_⟩⟩
      have g2 := same_new h2 (.lst us)
      have g3 := same_new h3 (.tup [.ref p2])
      refine ⟨p1, p3, _, _, rfl, rfl, SqT.of (g3 _ _ (g2 _ _ upd_same)), SqT.of upd_same, (fun z => nomatch z), (by show 2 + 1 ≤ sizeLine; decide), (fun z => nomatch z), fun _ p4 h4 => ?_⟩
      have g4 := same_new h4 (.tup (cutV [.str "rows", .str n, .ref l, .str gap, .int lo, .int hi] none (some 2) ++ [V.ref p2]))
      have ga := g4 _ _ (g3 _ _ (g2 _ _ (g1 _ _ ha)))
      refine ⟨_, rfl, _, rfl, a, _, rfl, SqT.of ga, fun z => absurd (show (3 : Nat) = 0 from z.1) (by decide), fun p5 h5 => ?_⟩
      have g5 := same_new h5 (.tup (cutV [.str "rows", .str n, .ref l, .str gap, .int lo, .int hi] (some 3) none))
      refine ⟨p4, p5, _, _, rfl, rfl, SqT.of (g5 _ _ upd_same), SqT.of upd_same, (fun z => nomatch z), (by show 3 + 3 ≤ sizeLine; decide), (fun z => nomatch z), fun _ p6 h6 => ?_⟩
      have gg := g1.trans (g2.trans (g3.trans (g4.trans (g5.trans (same_new h6 (.tup (cutV [.str "rows", .str n, .ref l, .str gap, .int lo, .int hi] none (some 2) ++ [V.ref p2] ++ cutV [.str "rows", .str n, .ref l, .str gap, .int lo, .int hi] (some 3) none)))))))
      refine q _ _ gg ⟨p6, p2, us, rfl, ?_, same_new h6 _ _ _ (g5 _ _ (g4 _ _ (g3 _ _ upd_same))), g1.free h2, Paired.mapP hq fun _ _ z => z.mono gg⟩
      rw [upd_same]
      rfl
/-! ### Say, Ask -/
theorem scSay : FnScope ["self", "piece"] ["self", "piece"] (defScope sSayI) := ⟨rfl, rfl, rfl, by decide +kernel, rfl, by decide +kernel, by decide +kernel⟩
def spSayI (D : Adr) : Sp := fun vs H Q _ => ∃ (x dx : Addr) (t : Str) (v : V), vs = [.ref x, v] ∧ H x = some (.ins D.cSay dx []) ∧ (Pc.say t).At H v ∧ (Pc.say t).ok ∧ ∀ H', Besides x H H' → (Pc.say t).Obj D.cl H' (.ref x) → Q .non H'
theorem ok_sayI (T : Txt w K mg D) : FnOk P w K mg base CX0 3 D.aSayI D.dSayI ["self", "piece"] (spSayI D) := by
  have G : FnOk P w K mg base CX0 2 D.aNeedSigns D.dNeedSigns ["text", "least", "most", "what"] spNS := ok_NS T
  refine T.fSayI.ok scSay (fun vs H Q E h => ?_) (fun cdv A outer s H vs Q E hr h => ?_)
  · obtain ⟨x, dx, t, v, rfl, _⟩ := h; rfl
  · obtain ⟨x, dx, t, v, rfl, hx, ⟨a, rfl, ha⟩, ok, q⟩ := h
    refine ⟨_, pss_cons (ps_fld (pv 0) (pe_ix ix_tup (pv 1) pe_int (fun _ _ => rfl)) rfl) (pss_one (ps_expr (pe_call G hr rfl T.mNeedSigns T.fNeedSigns.kp T.bNeedSigns .nil pass0 (pa_cons (pe_fld (pv 0) rfl) (pa_cons pe_int (pa_cons pe_int (pa_cons pe_str pa_nil))))))), ?_⟩
    refine ⟨_, rfl, a, _, _, _, rfl, rfl, SqT.of ha, rfl, _, rfl, x, _, dx, _, rfl, hx, T.kSay.cl, T.nSayText, (by show 0 < 1000; decide), ?_⟩
    refine ⟨_, rfl, x, _, dx, _, _, rfl, upd_same, T.kSay.cl, T.nSayText, lk_eq, t, 1, 12, _, rfl, ok, by decide, by decide +kernel, fun H' e => ?_⟩
    exact q H' (Besides.same (Besides.refl.upd _) e) ⟨x, rfl, dx, _, e _ _ upd_same, allc lk_eq alln⟩
theorem scAsk : FnScope ["self", "piece"] ["self", "piece"] (defScope sAskI) := ⟨rfl, rfl, rfl, by decide +kernel, rfl, by decide +kernel, by decide +kernel⟩
def askF (n sg : Str) (lo hi : Int) : List (Str × V) := putF "most" (.int hi) (putF "least" (.int lo) (putF "signs" (.str sg) (putF "name" (.str n) [])))
theorem askF_n (n sg : Str) (lo hi : Int) : (askF n sg lo hi).lookup ("name" : Str) = some (V.str n) := lk_ne (by decide +kernel) (lk_ne (by decide +kernel) (lk_ne (by decide +kernel) lk_eq))
theorem askF_s (n sg : Str) (lo hi : Int) : (askF n sg lo hi).lookup ("signs" : Str) = some (V.str sg) := lk_ne (by decide +kernel) (lk_ne (by decide +kernel) lk_eq)
theorem askF_l (n sg : Str) (lo hi : Int) : (askF n sg lo hi).lookup ("least" : Str) = some (V.int lo) := lk_ne (by decide +kernel) lk_eq
theorem askF_m (n sg : Str) (lo hi : Int) : (askF n sg lo hi).lookup ("most" : Str) = some (V.int hi) := lk_eq
def spAskI (D : Adr) : Sp := fun vs H Q _ => ∃ (x dx : Addr) (n sg : Str) (lo hi : Int) (v : V), vs = [.ref x, v] ∧ H x = some (.ins D.cAsk dx []) ∧ (Pc.ask n sg lo hi).At H v ∧ (Pc.ask n sg lo hi).ok ∧ ∀ H', Besides x H H' → (Pc.ask n sg lo hi).Obj D.cl H' (.ref x) → Q .non H'
theorem len_le1 (f : Str) (v : V) (fs : List (Str × V)) {k : Nat} (h : fs.length ≤ k) : (putF f v fs).length ≤ k + 1 := Nat.le_trans (length_putF f v fs) (Nat.succ_le_succ h)
theorem sgn_len (z : Str) : (sgn z).length = z.length := by unfold sgn; simp [Str.length]
theorem ok_askI (T : Txt w K mg D) : FnOk P w K mg base CX0 3 D.aAskI D.dAskI ["self", "piece"] (spAskI D) := by
  have G : FnOk P w K mg base CX0 2 D.aNeedSigns D.dNeedSigns ["text", "least", "most", "what"] spNS := ok_NS T
  have GN : FnOk P w K mg base CX0 1 D.aNeed D.dNeed ["holds", "words"] spNeed := ok_need T
  have GB : FnOk P w K mg base CX0 2 D.aNeedBounds D.dNeedBounds ["part", "highest"] (spNB K) := ok_NB T
  refine T.fAskI.ok scAsk (fun vs H Q E h => ?_) (fun cdv A outer s H vs Q E hr h => ?_)
  · obtain ⟨x, dx, n, sg, lo, hi, v, rfl, _⟩ := h; rfl
  · obtain ⟨x, dx, n, sg, lo, hi, v, rfl, hx, ⟨a, rfl, ha⟩, ⟨hn, hsg, hnd, hb0, hb1, hb2⟩, q⟩ := h
    have hr1 : Room 1 _ := hr.mono (by decide)
    have hz : sg.length ≤ 20 := hsg.hi
    refine ⟨_, pss_cons (ps_fld (pv 0) (pe_ix ix_tup (pv 1) pe_int (fun _ _ => rfl)) rfl)
      (pss_cons (ps_fld (pv 0) (pe_ix ix_tup (pv 1) pe_int (fun _ _ => rfl)) rfl)
      (pss_cons (ps_fld (pv 0) (pe_ix ix_tup (pv 1) pe_int (fun _ _ => rfl)) rfl)
      (pss_cons (ps_fld (pv 0) (pe_ix ix_tup (pv 1) pe_int (fun _ _ => rfl)) rfl)
      (pss_cons (ps_expr (pe_call GN hr1 rfl T.mNeed T.fNeed.kp T.bNeed .nil pass0 (pa_cons (pe_cmpR op_ne (pe_fld (pv 0) rfl) pe_str (nomark _)) (pa_cons pe_str pa_nil))))
      (pss_cons (ps_expr (pe_call G hr rfl T.mNeedSigns T.fNeedSigns.kp T.bNeedSigns .nil pass0 (pa_cons (pe_fld (pv 0) rfl) (pa_cons pe_int (pa_cons pe_int (pa_cons pe_str pa_nil))))))
      (pss_cons (ps_expr (pe_call GN hr1 rfl T.mNeed T.fNeed.kp T.bNeed .nil pass0 (pa_cons (pe_cmpR op_eq (pe_callB call_len_setS rfl T.zLen PySem.boot_len (pa_cons (pe_callTy (call_set_textS rfl) rfl T.zSet (by decide +kernel) (pa_cons (pe_fld (pv 0) rfl) pa_nil)) pa_nil)) (pe_callB call_len_str rfl T.zLen PySem.boot_len (pa_cons (pe_fld (pv 0) rfl) pa_nil)) (nomark _)) (pa_cons pe_str pa_nil))))
      (pss_one (ps_expr (pe_call GB hr rfl T.mNeedBounds T.fNeedBounds.kp T.bNeedBounds .nil pass0 (pa_cons (pv 0) (pa_cons pe_int pa_nil))))))))))), ?_⟩
    have nax : a ≠ x := ne_of ha hx (by intro z; cases z)
    have h2 : ∀ o, (L2.upd H x o) a = some (.tup [.str "ask", .str n, .str sg, .int lo, .int hi]) := fun o => by rw [upd_ne nax]; exact ha
    have h3 : ∀ o o', (L2.upd (L2.upd H x o) x o') a = some (.tup [.str "ask", .str n, .str sg, .int lo, .int hi]) := fun o o' => by rw [upd_ne nax]; exact h2 o
    have h4 : ∀ o o' o'', (L2.upd (L2.upd (L2.upd H x o) x o') x o'') a = some (.tup [.str "ask", .str n, .str sg, .int lo, .int hi]) := fun o o' o'' => by rw [upd_ne nax]; exact h3 o o'
    refine ⟨_, rfl, a, _, _, _, rfl, rfl, SqT.of ha, rfl, _, rfl, x, _, dx, _, rfl, hx, T.kAsk.cl, T.nAskName, (by show 0 < 1000; decide), ?_⟩
    refine ⟨_, rfl, a, _, _, _, rfl, rfl, SqT.of (h2 _), rfl, _, rfl, x, _, dx, _, rfl, upd_same, T.kAsk.cl, T.nAskSigns, Nat.lt_of_le_of_lt (len_le1 _ _ _ (k := 0) (Nat.le_refl _)) (by decide), ?_⟩
    refine ⟨_, rfl, a, _, _, _, rfl, rfl, SqT.of (h3 _ _), rfl, _, rfl, x, _, dx, _, rfl, upd_same, T.kAsk.cl, T.nAskLeast, Nat.lt_of_le_of_lt (len_le1 _ _ _ (len_le1 _ _ _ (k := 0) (Nat.le_refl _))) (by decide), ?_⟩
    refine ⟨_, rfl, a, _, _, _, rfl, rfl, SqT.of (h4 _ _ _), rfl, _, rfl, x, _, dx, _, rfl, upd_same, T.kAsk.cl, T.nAskMost, Nat.lt_of_le_of_lt (len_le1 _ _ _ (len_le1 _ _ _ (len_le1 _ _ _ (k := 0) (Nat.le_refl _)))) (by decide), ?_⟩
    -- need(self.name != '', ..)
    refine ⟨_, rfl, x, _, dx, _, _, rfl, upd_same, T.kAsk.cl, T.nAskName, askF_n n sg lo hi, rfl, _, congrArg (fun b => [V.bl (!b), _]) (decide_eq_false (fun z => hn (V.str.inj z))), ?_⟩
    -- need_signs(self.signs, 1, 20, ..)
    refine ⟨_, rfl, x, _, dx, _, _, rfl, upd_same, T.kAsk.cl, T.nAskSigns, askF_s n sg lo hi, sg, 1, 20, _, rfl, hsg, by decide, by decide +kernel, fun H5 e5 => ?_⟩
    have hx5 := e5 _ _ upd_same
    -- need(len(set(self.signs)) == len(self.signs), ..)
    refine ⟨_, rfl, x, _, dx, _, _, rfl, hx5, T.kAsk.cl, T.nAskSigns, askF_s n sg lo hi, sg, rfl, (by show sg.length + 1 < 4096; omega), fun l hl => ?_⟩
    refine ⟨l, _, rfl, upd_same, ?_⟩
    have e6 := same_new hl (SetO P w l (dd (sgn sg)))
    have hx6 := e6 _ _ hx5
    refine ⟨_, rfl, x, _, dx, _, _, rfl, hx6, T.kAsk.cl, T.nAskSigns, askF_s n sg lo hi, sg, rfl, small (by omega), rfl, _, congrArg (fun b => [V.bl b, _]) (decide_eq_true ?_), ?_⟩
    · rw [dd_nodup hnd, sgn_len]
    -- need_bounds(self, 4)
    refine ⟨_, rfl, x, _, lo, hi, 4, rfl, ⟨T.kAsk.cl, T.nAskLeast, T.nAskMost⟩, ⟨dx, _, hx6, allc (askF_l n sg lo hi) (allc (askF_m n sg lo hi) alln)⟩, hb0, hb1, hb2, ?_⟩
    refine q _ (Besides.same (Besides.same ((((Besides.refl.upd _).upd _).upd _).upd _) e5) e6) ⟨x, rfl, dx, _, hx6, allc (askF_n n sg lo hi) (allc (askF_s n sg lo hi) (allc (askF_l n sg lo hi) (allc (askF_m n sg lo hi) alln)))⟩
end
end Lf

set_option Elab.async false
set_option linter.all false
set_option maxRecDepth 100000
set_option maxHeartbeats 4000000
namespace Lf
open PySem L2
/-- a list that is tracked -/
abbrev SqL' (H : Hp) (l : Addr) (us : List V) : Prop := H l = some (.lst us)
theorem sqOf {K : PySem.W.Frag} {H : Hp} {l : Addr} {us : List V} (h : SqL' H l us) : SqL K H l us := SqL.of h
theorem mk_same {H H' : Hp} {x dx C : Addr} (hx : H x = none) (hd : H dx = none) (e : Besides x (L2.upd (L2.upd H dx (.own x)) x (.ins C dx [])) H') : Same H H' := fun b o h =>
  e b o (by rw [upd_ne (ne_of_none h hx), upd_ne (ne_of_none h hd)]; exact h) (ne_of_none h hx)
theorem mk_keep {H : Hp} {x dx C : Addr} (hx : H x = none) (hd : H dx = none) : Same H (L2.upd (L2.upd H dx (.own x)) x (.ins C dx [])) := mk_same (C := C) hx hd Besides.refl
def lens : List (Key × V) := [(Sum.inr "say", .int 2), (Sum.inr "ask", .int 5), (Sum.inr "rows", .int 6)]
theorem lens_say : valV lens (Sum.inr "say") = some (.int 2) := by decide +kernel
theorem lens_ask : valV lens (Sum.inr "ask") = some (.int 5) := by decide +kernel
theorem lens_rows : valV lens (Sum.inr "rows") = some (.int 6) := by decide +kernel
section
variable {P : Program} {w : World} {K : PySem.W.Frag} {mg : Str → Option Value} {base : Heap} {D : Adr}
theorem lens_at (T : Txt w K mg D) (h : Heap) (X : K.In h) : ∃ vs, KV lens vs ∧ h.DictOf (mixKind P w) D.cLen vs := by
  obtain ⟨t1, t2, t3, u1, u2, u3, ep, hk⟩ := T.tLen
  refine ⟨[(Sum.inr "say", .int 2 u1), (Sum.inr "ask", .int 5 u2), (Sum.inr "rows", .int 6 u3)], .cons ⟨rfl, u1, rfl⟩ (.cons ⟨rfl, u2, rfl⟩ (.cons ⟨rfl, u3, rfl⟩ .nil)), _, _, ep, X _ _ hk, ⟨rfl, rfl, rfl⟩, rfl, ?_, ?_, ?_⟩
  · intro e he
    have he' : e ∈ [(⟨PyData.keyHash w.params "say", .str "say" t1, .int 2 u1⟩ : DictEntry), ⟨PyData.keyHash w.params "ask", .str "ask" t2, .int 5 u2⟩, ⟨PyData.keyHash w.params "rows", .str "rows" t3, .int 6 u3⟩] := by simpa using he
    rcases List.mem_cons.mp he' with rfl | he'
    · exact ⟨Sum.inr "say", by simp [mixKind, keyIs, Value.isStrOf], rfl⟩
    · rcases List.mem_cons.mp he' with rfl | he'
      · exact ⟨Sum.inr "ask", by simp [mixKind, keyIs, Value.isStrOf], rfl⟩
      · rcases List.mem_cons.mp he' with rfl | he'
        · exact ⟨Sum.inr "rows", by simp [mixKind, keyIs, Value.isStrOf], rfl⟩
        · cases he'
  · exact .cons (by simp [mixKind, keyIs, Value.isStrOf]) rfl (.cons (by simp [mixKind, keyIs, Value.isStrOf]) rfl (.cons (by simp [mixKind, keyIs, Value.isStrOf]) rfl .nil))
  · show ([Sum.inr "say", Sum.inr "ask", Sum.inr "rows"] : List Key).Nodup
    decide +kernel
theorem words_at (T : Txt w K mg D) {H : Hp} : SqT K H D.cWords [.str "say", .str "ask", .str "rows"] := by
  obtain ⟨t1, t2, t3, sl, hk⟩ := T.tWords
  exact .inr ⟨_, _, 0, hk, rfl, rfl, (by show 3 ≤ sizeLine; decide), .cons ⟨t1, rfl⟩ (.cons ⟨t2, rfl⟩ (.cons ⟨t3, rfl⟩ .nil))⟩
theorem row_at (T : Txt w K mg D) {H : Hp} : SqT K H D.cRow [.str "say", .str "ask"] := by
  obtain ⟨t1, t2, sl, hk⟩ := T.tRow
  exact .inr ⟨_, _, 0, hk, rfl, rfl, (by show 2 ≤ sizeLine; decide), .cons ⟨t1, rfl⟩ (.cons ⟨t2, rfl⟩ .nil)⟩
/-! ### part_of -/
theorem scPart : FnScope ["piece", "words"] ["piece", "words"] (defScope sPartOf) := ⟨rfl, rfl, rfl, by decide +kernel, rfl, by decide +kernel, by decide +kernel⟩
/-- what part_of promises of a kind of pieces -/
def spPart {α : Type} (At : Hp → α → V → Prop) (Ob : Hp → Hp → α → V → Prop) (ok : α → Prop) (wd : Addr) : Sp := fun vs H Q _ => ∃ (a : α) (v : V), vs = [v, .ref wd] ∧ At H a v ∧ ok a ∧ ∀ u H', Same H H' → Ob H H' a u → Q u H'
def AtR (H : Hp) (p : Pc) (v : V) : Prop := p.At H v
def ObR (c : Cl) (_ : Hp) (H : Hp) (p : Pc) (v : V) : Prop := p.Obj c H v
theorem ok_partR (T : Txt w K mg D) : FnOk P w K mg base CX0 5 D.aPartOf D.dPartOf ["piece", "words"] (spPart AtR (ObR D.cl) Pc.ok D.cRow) := by
  have GN : FnOk P w K mg base CX0 1 D.aNeed D.dNeed ["holds", "words"] spNeed := ok_need T
  have GS : FnOk P w K mg base CX0 3 D.aSayI D.dSayI ["self", "piece"] (spSayI D) := ok_sayI T
  have GA : FnOk P w K mg base CX0 3 D.aAskI D.dAskI ["self", "piece"] (spAskI D) := ok_askI T
  refine T.fPartOf.ok scPart (fun vs H Q E h => ?_) (fun cdv A outer s H vs Q E hr h => ?_)
  · obtain ⟨p, v, rfl, _⟩ := h; rfl
  · obtain ⟨p, v, rfl, hp, ok, q⟩ := h
    have hr1 : Room 1 _ := hr.mono (by decide)
    refine ⟨_, pss_cons (ps_expr (pe_call GN hr1 rfl T.mNeed T.fNeed.kp T.bNeed .nil pass0 (pa_cons (pe_and (pe_cmpR op_gt (pe_callB call_len_seq rfl T.zLen PySem.boot_len (pa_cons (pv 0) pa_nil)) pe_int (nomark _)) (pe_one (pe_cmpR op_in_seq (pe_ix ix_tup (pv 0) pe_int (fun _ _ => rfl)) (pv 1) rfl))) (pa_cons pe_str pa_nil))))
      (pss_cons (ps_expr (pe_call GN hr1 rfl T.mNeed T.fNeed.kp T.bNeed .nil pass0 (pa_cons (pe_cmpR op_eq (pe_callB call_len_seq rfl T.zLen PySem.boot_len (pa_cons (pv 0) pa_nil)) (pe_kget (kvs := lens) rfl T.gLen (lens_at T) (pe_ix ix_tup (pv 0) pe_int (fun _ _ => rfl)) (fun _ _ => rfl)) (nomark _)) (pa_cons pe_str pa_nil))))
      (pss_cons (ps_if (pt_cmpR op_eq (pe_ix ix_tup (pv 0) pe_int (fun _ _ => rfl)) pe_str (nomark _)) (pss_one (ps_ret (pe_make T.mkSay GS hr rfl T.mgSay T.bSayI .nil pass0 (pa_cons (pv 0) pa_nil)))) pss_nil)
      (pss_cons (ps_if (pt_cmpR op_eq (pe_ix ix_tup (pv 0) pe_int (fun _ _ => rfl)) pe_str (nomark _)) (pss_one (ps_ret (pe_make T.mkAsk GA hr rfl T.mgAsk T.bAskI .nil pass0 (pa_cons (pv 0) pa_nil)))) pss_nil)
      (pss_one ps_never)))), ?_⟩
    cases p with
    | say t =>
      obtain ⟨a, rfl, ha⟩ := hp
      refine ⟨_, rfl, a, _, rfl, .inr (SqT.of ha), _, _, rfl, rfl, _, rfl, iteD (by show (0 : Int) < 2; decide) ⟨_, rfl, a, _, _, _, rfl, rfl, SqT.of ha, rfl, _, rfl, D.cRow, _, rfl, .inr (row_at T), rfl, rfl, _, rfl, ?_⟩⟩
      refine ⟨_, rfl, a, _, rfl, .inr (SqT.of ha), _, rfl, a, _, _, _, rfl, rfl, SqT.of ha, rfl, Sum.inr "say", _, rfl, lens_say, rfl, _, congrArg (fun b => [V.bl b, _]) (decide_eq_true rfl), ?_⟩
      refine ⟨_, rfl, a, _, _, _, rfl, rfl, SqT.of ha, rfl, rfl, _, rfl, iteD rfl ⟨_, rfl, fun x dx hx hd ne => ?_⟩⟩
      have k0 := mk_keep (C := D.cSay) hx hd
      exact ⟨x, dx, t, _, rfl, upd_same, ⟨a, rfl, k0 _ _ ha⟩, ok, fun H' e o => ⟨rfl, q _ H' (mk_same hx hd e) o⟩⟩
    | ask n sg lo hi =>
      obtain ⟨a, rfl, ha⟩ := hp
      refine ⟨_, rfl, a, _, rfl, .inr (SqT.of ha), _, _, rfl, rfl, _, rfl, iteD (by show (0 : Int) < 5; decide) ⟨_, rfl, a, _, _, _, rfl, rfl, SqT.of ha, rfl, _, rfl, D.cRow, _, rfl, .inr (row_at T), rfl, rfl, _, rfl, ?_⟩⟩
      refine ⟨_, rfl, a, _, rfl, .inr (SqT.of ha), _, rfl, a, _, _, _, rfl, rfl, SqT.of ha, rfl, Sum.inr "ask", _, rfl, lens_ask, rfl, _, congrArg (fun b => [V.bl b, _]) (decide_eq_true rfl), ?_⟩
      refine ⟨_, rfl, a, _, _, _, rfl, rfl, SqT.of ha, rfl, rfl, _, rfl, iteDF ne_as ?_⟩
      refine ⟨_, rfl, a, _, _, _, rfl, rfl, SqT.of ha, rfl, rfl, _, rfl, iteD rfl ⟨_, rfl, fun x dx hx hd ne => ?_⟩⟩
      have k0 := mk_keep (C := D.cAsk) hx hd
      exact ⟨x, dx, n, sg, lo, hi, _, rfl, upd_same, ⟨a, rfl, k0 _ _ ha⟩, ok, fun H' e o => ⟨rfl, q _ H' (mk_same hx hd e) o⟩⟩
/-! ### parts_of -/
theorem scParts : FnScope ["pieces", "words", "most", "parts", "names"] ["pieces", "words", "most"] (defScope sPartsOf) := ⟨rfl, rfl, rfl, by decide +kernel, rfl, by decide +kernel, by decide +kernel⟩
def spParts {α : Type} (At : Hp → α → V → Prop) (Ob : Hp → Hp → α → V → Prop) (ok : α → Prop) (nm : α → List Str) (wd : Addr) (mx : Nat) : Sp := fun vs H Q _ => ∃ (l : Addr) (us : List V) (ps : List α), vs = [.ref l, .ref wd, .int mx] ∧ SqL' H l us ∧ Paired (At H) ps us ∧
  1 ≤ ps.length ∧ ps.length ≤ mx ∧ (∀ p ∈ ps, ok p) ∧ (ps.flatMap nm).Nodup ∧ ∀ r ws H', Same H H' → H r = none → H' r = some (.lst ws) → Paired (Ob H H') ps ws → Q (.ref r) H'
theorem flat_le {α : Type} {nm : α → List Str} (h1 : ∀ a, (nm a).length ≤ 1) : ∀ ps : List α, (ps.flatMap nm).length ≤ ps.length
  | [] => Nat.le_refl _
  | p :: r => by
    have a := h1 p
    have b := flat_le h1 r
    rw [List.flatMap_cons, List.length_append, List.length_cons]
    omega
theorem take_snoc {α : Type} {l : List α} {i : Nat} {x : α} (h : l[i]? = some x) : l.take (i + 1) = l.take i ++ [x] := by rw [List.take_add_one, h]; rfl
theorem Paired.two {α β : Type} {F : α → β → Prop} {as : List α} {bs : List β} (h : Paired F as bs) {i : Nat} {b : β} (e : bs[i]? = some b) : ∃ a, as[i]? = some a ∧ F a b := by
  have hi : i < as.length := by rw [h.length]; exact (List.getElem?_eq_some_iff.mp e).1
  exact ⟨as[i], List.getElem?_eq_getElem hi, paired_get h (List.getElem?_eq_getElem hi) e⟩
theorem ok_parts (T : Txt w K mg D) {α : Type} {At : Hp → α → V → Prop} {Ob : Hp → Hp → α → V → Prop} {ok : α → Prop} {nm : α → List Str} {wd : Addr} {mx k : Nat} (hk : 1 ≤ k) (hmx : mx ≤ 100)
    (G : FnOk P w K mg base CX0 k D.aPartOf D.dPartOf ["piece", "words"] (spPart At Ob ok wd)) (atM : ∀ {H H' : Hp}, Same H H' → ∀ {a : α} {v : V}, At H a v → At H' a v) (obM : ∀ {H0 H H' : Hp}, Same H H' → ∀ {a : α} {v : V}, Ob H0 H a v → Ob H0 H' a v)
    (obO : ∀ {H0 H1 H : Hp}, Same H0 H1 → ∀ {a : α} {v : V}, Ob H1 H a v → Ob H0 H a v) (obI : ∀ {H0 H : Hp} {a : α} {v : V}, Ob H0 H a v → ItemAt D H (nm a) v) (nm1 : ∀ a, (nm a).length ≤ 1) :
    FnOk P w K mg base CX0 (k + 1) D.aPartsOf D.dPartsOf ["pieces", "words", "most"] (spParts At Ob ok nm wd mx) := by
  have GN : FnOk P w K mg base CX0 1 D.aNeed D.dNeed ["holds", "words"] spNeed := ok_need T
  have GI : FnOk P w K mg base CX0 1 D.aNamesIn D.dNamesIn ["parts"] (spNI K D) := ok_NI T
  refine T.fPartsOf.ok scParts (fun vs H Q E h => ?_) (fun cdv A outer s H vs Q E hr h => ?_)
  · obtain ⟨l, us, ps, rfl, _⟩ := h; rfl
  · obtain ⟨l, us, ps, rfl, hl, hp, h1, h2, hok, hnd, q⟩ := h
    have hr1 : Room 1 _ := hr.mono hk
    have hus : us.length = ps.length := hp.length.symm
    refine ⟨_, pss_cons (ps_expr (pe_call GN hr1 rfl T.mNeed T.fNeed.kp T.bNeed .nil pass0 (pa_cons (pe_chain op_le op_le pe_int (pe_callB call_len_seq rfl T.zLen PySem.boot_len (pa_cons (pv 0) pa_nil)) (pv 2)) (pa_cons pe_str pa_nil))))
      (pss_cons (ps_setComp (i := 3) (cp := [(1, "words")]) (te := tCall (spPart At Ob ok wd) [] E0 (tCons (tVar 0) (tCons (tVar 1) tNil))) scParts.nd rfl rfl (CompScope.of (defScope sPartsOf) ["pieces", "words", "most", "parts", "names"] rfl rfl (by decide +kernel)) rfl (pi_list (pv 0)) (fun _ _ _ _ _ => pts_nil)
        (fun _ _ _ _ _ => pe_call G hr rfl T.mPartOf T.fPartOf.kp T.bPartOf .nil pass0 (pa_cons (pv 0) (pa_cons (pv 1) pa_nil))))
      (pss_cons (ps_set (i := 4) scParts.nd rfl (Or.inl rfl) (pe_call GI hr1 rfl T.mNamesIn T.fNamesIn.kp T.bNamesIn .nil pass0 (pa_cons (pv 3) pa_nil)))
      (pss_cons (ps_expr (pe_call GN hr1 rfl T.mNeed T.fNeed.kp T.bNeed .nil pass0 (pa_cons (pe_cmpR op_eq (pe_callB call_len_setS rfl T.zLen PySem.boot_len (pa_cons (pe_callTy (call_set_listS rfl) rfl T.zSet (by decide +kernel) (pa_cons (pv 4) pa_nil)) pa_nil)) (pe_callB call_len_seq rfl T.zLen PySem.boot_len (pa_cons (pv 4) pa_nil)) (nomark _)) (pa_cons pe_str pa_nil))))
      (pss_one (ps_ret (pv 3)))))), ?_⟩
    refine ⟨_, rfl, l, us, rfl, .inl (sqOf hl), _, _, rfl, rfl, _, rfl, iteD (by show (1 : Int) ≤ (us.length : Int); omega) ⟨_, rfl, _, _, rfl, rfl, _, congrArg (fun b => [V.bl b, _]) (decide_eq_true (by show (us.length : Int) ≤ (mx : Int); omega)), ?_⟩⟩
    refine ⟨_, rfl, l, rfl, ⟨_, sqOf hl⟩, comp_list (xs := us) (fun i ys H' => Same H H' ∧ Paired (Ob H H') (ps.take i) ys) ⟨Same.refl H, .nil⟩ (fun i ys H' hi e => ⟨e.1.seq (sqOf hl), ?_⟩) (small (by omega)) (fun i x ys H' hx e => ?_) (fun ys H' e r hr' => ?_)⟩
    · have := e.2.length
      rw [List.length_take] at this
      omega
    · obtain ⟨e1, e2⟩ := e
      obtain ⟨a, ea, pa⟩ := Paired.two hp hx
      refine ⟨_, rfl, _, rfl, a, x, rfl, atM e1 pa, hok a (List.mem_of_getElem? ea), fun u H5 e5 o5 => ⟨e1.trans e5, ?_⟩⟩
      rw [take_snoc ea]
      exact (Paired.mapP e2 fun _ _ z => obM e5 z).snoc (obO e1 o5)
    · obtain ⟨e1, e2⟩ := e
      rw [hus, List.take_length] at e2
      have e3 := same_new hr' (.lst ys)
      have pl : ys.length = ps.length := e2.length.symm
      refine ⟨_, rfl, r, ys, ps.map nm, rfl, upd_same, by omega, ?_, ?_, fun r2 hr2 => ?_⟩
      · have go : ∀ {ps : List α} {ys : List V}, Paired (Ob H H') ps ys → Paired (ItemAt D (L2.upd H' r (.lst _))) (ps.map nm) ys := fun h => by
          induction h with
          | nil => exact .nil
          | cons a t ih => exact .cons ((obI a).mono e3) ih
        exact go e2
      · intro ns hns
        obtain ⟨a, _, rfl⟩ := List.mem_map.mp hns
        exact nm1 a
      · have e4 := same_new hr2 (.lst (((ps.map nm).flatten).map V.str))
        have ef : (ps.map nm).flatten = ps.flatMap nm := by rw [List.flatMap_def]
        have hlen := flat_le nm1 ps
        refine ⟨_, rfl, r2, _, rfl, SqL.of upd_same, (by rw [ef]; show _ < 4096; omega), fun r3 hr3 => ⟨r3, _, rfl, upd_same, ?_⟩⟩
        have e5 := same_new hr3 (SetO P w r3 (dd (ps.map nm).flatten))
        refine ⟨_, rfl, r2, _, rfl, .inl (SqL.of (e5 _ _ upd_same)), rfl, _, congrArg (fun b => [V.bl b, _]) (decide_eq_true ?_), ?_⟩
        · rw [List.length_map, ef, dd_nodup hnd]
        · refine ⟨_, rfl, q r ys _ (e1.trans (e3.trans (e4.trans e5))) (e1.free hr') (e5 _ _ (e4 _ _ upd_same)) ?_⟩
          exact Paired.mapP e2 fun _ _ z => obM (e3.trans (e4.trans e5)) z
end
end Lf

set_option Elab.async false
set_option linter.all false
set_option maxRecDepth 100000
set_option maxHeartbeats 4000000
namespace Lf
open PySem L2
section
variable {P : Program} {w : World} {K : PySem.W.Frag} {mg : Str → Option Value} {base : Heap} {D : Adr}
theorem Pc.Obj.item {H : Hp} : ∀ {p : Pc} {v : V}, p.Obj D.cl H v → ItemAt D H p.nm v
  | .say _, _, ⟨a, h1, dx, fs, h2, _⟩ => ⟨a, h1, .inl ⟨rfl, dx, fs, h2⟩⟩
  | .ask n .., _, ⟨a, h1, h2⟩ => ⟨a, h1, .inr ⟨n, rfl, .inl (h2.sub (allc (List.mem_cons_self) alln))⟩⟩
theorem Pie.Obj.item {H0 H : Hp} : ∀ {p : Pie} {v : V}, p.Obj D.cl H0 H v → ItemAt D H p.nm v
  | .one p, _, h => Pc.Obj.item (p := p) h
  | .rows n .., _, ⟨a, l, us, h1, h2, _⟩ => ⟨a, h1, .inr ⟨n, rfl, .inr (h2.sub (allc (List.mem_cons_self) alln))⟩⟩
theorem pc_nm1 : ∀ p : Pc, p.nm.length ≤ 1
  | .say _ => Nat.zero_le _
  | .ask .. => Nat.le_refl _
theorem pie_nm1 : ∀ p : Pie, p.nm.length ≤ 1
  | .one p => pc_nm1 p
  | .rows .. => Nat.le_refl _
theorem ok_partsR (T : Txt w K mg D) : FnOk P w K mg base CX0 6 D.aPartsOf D.dPartsOf ["pieces", "words", "most"] (spParts AtR (ObR D.cl) Pc.ok Pc.nm D.cRow 3) :=
  ok_parts T (by decide) (by decide) (ok_partR T) (fun e _ _ h => Pc.At.mono e h) (fun e _ _ h => Pc.Obj.mono e h) (fun _ _ _ h => h) (fun h => Pc.Obj.item h) pc_nm1
/-! ### Rows -/
theorem Pc.Obj.besides {c : Cl} {H H' : Hp} {x C dx : Addr} {fs : List (Str × V)} (hx : H x = some (.ins C dx fs)) (h1 : fs.lookup ("text" : Str) = none) (h2 : fs.lookup ("signs" : Str) = none) (e : Besides x H H') : ∀ {p : Pc} {v : V}, p.Obj c H v → p.Obj c H' v
  | .say t, v, ⟨a, ha, da, l, hl, hf⟩ => by
    have z := hf ("text", .str t) List.mem_cons_self
    refine ⟨a, ha, da, l, e _ _ hl (fun q => ?_), hf⟩
    rw [q, hx] at hl; cases hl
    rw [h1] at z; cases z
  | .ask n sg lo hi, v, ⟨a, ha, da, l, hl, hf⟩ => by
    have z := hf ("signs", .str sg) (List.mem_cons_of_mem _ List.mem_cons_self)
    refine ⟨a, ha, da, l, e _ _ hl (fun q => ?_), hf⟩
    rw [q, hx] at hl; cases hl
    rw [h2] at z; cases z
theorem scRows : FnScope ["self", "piece"] ["self", "piece"] (defScope sRowsI) := ⟨rfl, rfl, rfl, by decide +kernel, rfl, by decide +kernel, by decide +kernel⟩
def rowsF (n : Str) (r : Addr) (gap : Str) (lo hi : Int) : List (Str × V) := putF "most" (.int hi) (putF "least" (.int lo) (putF "gap" (.str gap) (putF "parts" (.ref r) (putF "name" (.str n) []))))
theorem rowsF_n (n : Str) (r : Addr) (gap : Str) (lo hi : Int) : (rowsF n r gap lo hi).lookup ("name" : Str) = some (V.str n) := lk_ne (by decide +kernel) (lk_ne (by decide +kernel) (lk_ne (by decide +kernel) (lk_ne (by decide +kernel) lk_eq)))
theorem rowsF_p (n : Str) (r : Addr) (gap : Str) (lo hi : Int) : (rowsF n r gap lo hi).lookup ("parts" : Str) = some (V.ref r) := lk_ne (by decide +kernel) (lk_ne (by decide +kernel) (lk_ne (by decide +kernel) lk_eq))
theorem rowsF_g (n : Str) (r : Addr) (gap : Str) (lo hi : Int) : (rowsF n r gap lo hi).lookup ("gap" : Str) = some (V.str gap) := lk_ne (by decide +kernel) (lk_ne (by decide +kernel) lk_eq)
theorem rowsF_l (n : Str) (r : Addr) (gap : Str) (lo hi : Int) : (rowsF n r gap lo hi).lookup ("least" : Str) = some (V.int lo) := lk_ne (by decide +kernel) lk_eq
theorem rowsF_m (n : Str) (r : Addr) (gap : Str) (lo hi : Int) : (rowsF n r gap lo hi).lookup ("most" : Str) = some (V.int hi) := lk_eq
def spRowsI (D : Adr) : Sp := fun vs H Q _ => ∃ (x dx : Addr) (n : Str) (inner : List Pc) (gap : Str) (lo hi : Int) (v : V), vs = [.ref x, v] ∧ H x = some (.ins D.cRows dx []) ∧ (Pie.rows n inner gap lo hi).At H v ∧ (Pie.rows n inner gap lo hi).ok ∧
  ∀ H', Besides x H H' → (Pie.rows n inner gap lo hi).Obj D.cl H H' (.ref x) → Q .non H'
theorem ok_rowsI (T : Txt w K mg D) : FnOk P w K mg base CX0 7 D.aRowsI D.dRowsI ["self", "piece"] (spRowsI D) := by
  have G : FnOk P w K mg base CX0 2 D.aNeedSigns D.dNeedSigns ["text", "least", "most", "what"] spNS := ok_NS T
  have GN : FnOk P w K mg base CX0 1 D.aNeed D.dNeed ["holds", "words"] spNeed := ok_need T
  have GB : FnOk P w K mg base CX0 2 D.aNeedBounds D.dNeedBounds ["part", "highest"] (spNB K) := ok_NB T
  have GP : FnOk P w K mg base CX0 6 D.aPartsOf D.dPartsOf ["pieces", "words", "most"] (spParts AtR (ObR D.cl) Pc.ok Pc.nm D.cRow 3) := ok_partsR T
  refine T.fRowsI.ok scRows (fun vs H Q E h => ?_) (fun cdv A outer s H vs Q E hr h => ?_)
  · obtain ⟨x, dx, n, inner, gap, lo, hi, v, rfl, _⟩ := h; rfl
  · obtain ⟨x, dx, n, inner, gap, lo, hi, v, rfl, hx, ⟨a, l, us, rfl, ha, hl, hp⟩, ⟨hn, ⟨i1, i2, i3, i4⟩, hg, hb0, hb1, hb2⟩, q⟩ := h
    have hr1 : Room 1 _ := hr.mono (by decide)
    have hr2 : Room 2 _ := hr.mono (by decide)
    refine ⟨_, pss_cons (ps_fld (pv 0) (pe_ix ix_tup (pv 1) pe_int (fun _ _ => rfl)) rfl)
      (pss_cons (ps_fld (pv 0) (pe_call GP hr rfl T.mPartsOf T.fPartsOf.kp T.bPartsOf .nil pass0 (pa_cons (pe_ix ix_tup (pv 1) pe_int (fun _ _ => rfl)) (pa_cons (pe_glob (v := .ref D.cRow) rfl T.gRow rfl) (pa_cons pe_int pa_nil)))) rfl)
      (pss_cons (ps_fld (pv 0) (pe_ix ix_tup (pv 1) pe_int (fun _ _ => rfl)) rfl)
      (pss_cons (ps_fld (pv 0) (pe_ix ix_tup (pv 1) pe_int (fun _ _ => rfl)) rfl)
      (pss_cons (ps_fld (pv 0) (pe_ix ix_tup (pv 1) pe_int (fun _ _ => rfl)) rfl)
      (pss_cons (ps_expr (pe_call GN hr1 rfl T.mNeed T.fNeed.kp T.bNeed .nil pass0 (pa_cons (pe_cmpR op_ne (pe_fld (pv 0) rfl) pe_str (nomark _)) (pa_cons pe_str pa_nil))))
      (pss_cons (ps_expr (pe_call G hr2 rfl T.mNeedSigns T.fNeedSigns.kp T.bNeedSigns .nil pass0 (pa_cons (pe_fld (pv 0) rfl) (pa_cons pe_int (pa_cons pe_int (pa_cons pe_str pa_nil))))))
      (pss_one (ps_expr (pe_call GB hr2 rfl T.mNeedBounds T.fNeedBounds.kp T.bNeedBounds .nil pass0 (pa_cons (pv 0) (pa_cons pe_int pa_nil))))))))))), ?_⟩
    have nax : a ≠ x := ne_of ha hx (by intro z; cases z)
    have nlx : l ≠ x := ne_of hl hx (by intro z; cases z)
    refine ⟨_, rfl, a, _, _, _, rfl, rfl, SqT.of ha, rfl, _, rfl, x, _, dx, _, rfl, hx, T.kRows.cl, T.nRowsName, (by show 0 < 1000; decide), ?_⟩
    -- self.parts = parts_of(..)
    have b1 : Besides x H (L2.upd H x (.ins D.cRows dx (putF "name" (.str n) []))) := Besides.refl.upd _
    have ha1 := b1 _ _ ha nax
    have hl1 := b1 _ _ hl nlx
    refine ⟨_, rfl, a, _, _, _, rfl, rfl, SqT.of ha1, rfl, l, us, inner, rfl, hl1, ?_, i1, i2, i3, i4, fun r ws H2 e2 nr hr2' ow => ?_⟩
    · exact Paired.mapP hp fun p v z => by
        obtain ⟨b, rfl, hb⟩ := z
        exact ⟨b, rfl, b1 _ _ hb (ne_of hb hx (by intro z; cases z))⟩
    have hx2 := e2 _ _ upd_same
    have nrx : r ≠ x := ne_of hr2' hx2 (by intro z; cases z)
    have nr0 : H r = none := by rw [upd_ne nrx] at nr; exact nr
    have b2 : Besides x H H2 := Besides.same b1 e2
    have ha2 := b2 _ _ ha nax
    refine ⟨_, rfl, x, _, dx, _, rfl, hx2, T.kRows.cl, T.nRowsParts, Nat.lt_of_le_of_lt (len_le1 _ _ _ (k := 0) (Nat.le_refl _)) (by decide), ?_⟩
    have c3 : Besides x H2 _ := Besides.refl.upd (.ins D.cRows dx (putF "parts" (.ref r) (putF "name" (.str n) [])))
    refine ⟨_, rfl, a, _, _, _, rfl, rfl, SqT.of (c3 _ _ ha2 nax), rfl, _, rfl, x, _, dx, _, rfl, upd_same, T.kRows.cl, T.nRowsGap, Nat.lt_of_le_of_lt (len_le1 _ _ _ (len_le1 _ _ _ (k := 0) (Nat.le_refl _))) (by decide), ?_⟩
    have c4 := c3.upd (.ins D.cRows dx (putF "gap" (.str gap) (putF "parts" (.ref r) (putF "name" (.str n) []))))
    refine ⟨_, rfl, a, _, _, _, rfl, rfl, SqT.of (c4 _ _ ha2 nax), rfl, _, rfl, x, _, dx, _, rfl, upd_same, T.kRows.cl, T.nRowsLeast, Nat.lt_of_le_of_lt (len_le1 _ _ _ (len_le1 _ _ _ (len_le1 _ _ _ (k := 0) (Nat.le_refl _)))) (by decide), ?_⟩
    have c5 := c4.upd (.ins D.cRows dx (putF "least" (.int lo) (putF "gap" (.str gap) (putF "parts" (.ref r) (putF "name" (.str n) [])))))
    refine ⟨_, rfl, a, _, _, _, rfl, rfl, SqT.of (c5 _ _ ha2 nax), rfl, _, rfl, x, _, dx, _, rfl, upd_same, T.kRows.cl, T.nRowsMost, Nat.lt_of_le_of_lt (len_le1 _ _ _ (len_le1 _ _ _ (len_le1 _ _ _ (len_le1 _ _ _ (k := 0) (Nat.le_refl _))))) (by decide), ?_⟩
    have c6 := c5.upd (.ins D.cRows dx (rowsF n r gap lo hi))
    refine ⟨_, rfl, x, _, dx, _, _, rfl, upd_same, T.kRows.cl, T.nRowsName, rowsF_n n r gap lo hi, rfl, _, congrArg (fun b => [V.bl (!b), _]) (decide_eq_false (fun z => hn (V.str.inj z))), ?_⟩
    refine ⟨_, rfl, x, _, dx, _, _, rfl, upd_same, T.kRows.cl, T.nRowsGap, rowsF_g n r gap lo hi, gap, 0, 5, _, rfl, hg, by decide, by decide +kernel, fun H7 e7 => ?_⟩
    have hx7 := e7 _ _ upd_same
    have c7 := Besides.same c6 e7
    refine ⟨_, rfl, x, _, lo, hi, 3, rfl, ⟨T.kRows.cl, T.nRowsLeast, T.nRowsMost⟩, ⟨dx, _, hx7, allc (rowsF_l n r gap lo hi) (allc (rowsF_m n r gap lo hi) alln)⟩, hb0, hb1, hb2, ?_⟩
    refine q _ (fun b o h1 h2 => c7 b o (b2 b o h1 h2) h2) ⟨x, r, ws, rfl, ⟨dx, _, hx7, allc (rowsF_n n r gap lo hi) (allc (rowsF_p n r gap lo hi) (allc (rowsF_g n r gap lo hi) (allc (rowsF_l n r gap lo hi) (allc (rowsF_m n r gap lo hi) alln))))⟩, c7 _ _ hr2' nrx, nr0, ?_⟩
    have n1 : (putF "name" (V.str n) []).lookup ("text" : Str) = none := by rw [lookup_putF, if_neg (by decide +kernel)]; rfl
    have n2 : (putF "name" (V.str n) []).lookup ("signs" : Str) = none := by rw [lookup_putF, if_neg (by decide +kernel)]; rfl
    exact Paired.mapP ow fun p v z => Pc.Obj.besides hx2 n1 n2 c7 z
end
end Lf

set_option Elab.async false
set_option linter.all false
set_option maxRecDepth 100000
set_option maxHeartbeats 4000000
namespace Lf
open PySem L2
section
variable {P : Program} {w : World} {K : PySem.W.Frag} {mg : Str → Option Value} {base : Heap} {D : Adr}
def AtP (H : Hp) (p : Pie) (v : V) : Prop := p.At H v
def ObP (c : Cl) (H0 H : Hp) (p : Pie) (v : V) : Prop := p.Obj c H0 H v
theorem ok_partF (T : Txt w K mg D) : FnOk P w K mg base CX0 9 D.aPartOf D.dPartOf ["piece", "words"] (spPart AtP (ObP D.cl) Pie.ok D.cWords) := by
  have GN : FnOk P w K mg base CX0 1 D.aNeed D.dNeed ["holds", "words"] spNeed := ok_need T
  have GS : FnOk P w K mg base CX0 3 D.aSayI D.dSayI ["self", "piece"] (spSayI D) := ok_sayI T
  have GA : FnOk P w K mg base CX0 3 D.aAskI D.dAskI ["self", "piece"] (spAskI D) := ok_askI T
  have GR : FnOk P w K mg base CX0 7 D.aRowsI D.dRowsI ["self", "piece"] (spRowsI D) := ok_rowsI T
  refine T.fPartOf.ok scPart (fun vs H Q E h => ?_) (fun cdv A outer s H vs Q E hr h => ?_)
  · obtain ⟨p, v, rfl, _⟩ := h; rfl
  · obtain ⟨p, v, rfl, hp, ok, q⟩ := h
    have hr1 : Room 1 _ := hr.mono (by decide)
    have hr4 : Room 4 _ := hr.mono (by decide)
    refine ⟨_, pss_cons (ps_expr (pe_call GN hr1 rfl T.mNeed T.fNeed.kp T.bNeed .nil pass0 (pa_cons (pe_and (pe_cmpR op_gt (pe_callB call_len_seq rfl T.zLen PySem.boot_len (pa_cons (pv 0) pa_nil)) pe_int (nomark _)) (pe_one (pe_cmpR op_in_seq (pe_ix ix_tup (pv 0) pe_int (fun _ _ => rfl)) (pv 1) rfl))) (pa_cons pe_str pa_nil))))
      (pss_cons (ps_expr (pe_call GN hr1 rfl T.mNeed T.fNeed.kp T.bNeed .nil pass0 (pa_cons (pe_cmpR op_eq (pe_callB call_len_seq rfl T.zLen PySem.boot_len (pa_cons (pv 0) pa_nil)) (pe_kget (kvs := lens) rfl T.gLen (lens_at T) (pe_ix ix_tup (pv 0) pe_int (fun _ _ => rfl)) (fun _ _ => rfl)) (nomark _)) (pa_cons pe_str pa_nil))))
      (pss_cons (ps_if (pt_cmpR op_eq (pe_ix ix_tup (pv 0) pe_int (fun _ _ => rfl)) pe_str (nomark _)) (pss_one (ps_ret (pe_make T.mkSay GS hr4 rfl T.mgSay T.bSayI .nil pass0 (pa_cons (pv 0) pa_nil)))) pss_nil)
      (pss_cons (ps_if (pt_cmpR op_eq (pe_ix ix_tup (pv 0) pe_int (fun _ _ => rfl)) pe_str (nomark _)) (pss_one (ps_ret (pe_make T.mkAsk GA hr4 rfl T.mgAsk T.bAskI .nil pass0 (pa_cons (pv 0) pa_nil)))) pss_nil)
      (pss_one (ps_ret (pe_make T.mkRows GR hr rfl T.mgRows T.bRowsI .nil pass0 (pa_cons (pv 0) pa_nil))))))), ?_⟩
    cases p with
    | one p =>
      cases p with
      | say t =>
        obtain ⟨a, rfl, ha⟩ := hp
        refine ⟨_, rfl, a, _, rfl, .inr (SqT.of ha), _, _, rfl, rfl, _, rfl, iteD (by show (0 : Int) < 2; decide) ⟨_, rfl, a, _, _, _, rfl, rfl, SqT.of ha, rfl, _, rfl, D.cWords, _, rfl, .inr (words_at T), rfl, rfl, _, rfl, ?_⟩⟩
        refine ⟨_, rfl, a, _, rfl, .inr (SqT.of ha), _, rfl, a, _, _, _, rfl, rfl, SqT.of ha, rfl, Sum.inr "say", _, rfl, lens_say, rfl, _, congrArg (fun b => [V.bl b, _]) (decide_eq_true rfl), ?_⟩
        refine ⟨_, rfl, a, _, _, _, rfl, rfl, SqT.of ha, rfl, rfl, _, rfl, iteD rfl ⟨_, rfl, fun x dx hx hd ne => ?_⟩⟩
        have k0 := mk_keep (C := D.cSay) hx hd
        exact ⟨x, dx, t, _, rfl, upd_same, ⟨a, rfl, k0 _ _ ha⟩, ok, fun H' e o => ⟨rfl, q _ H' (mk_same hx hd e) o⟩⟩
      | ask n sg lo hi =>
        obtain ⟨a, rfl, ha⟩ := hp
        refine ⟨_, rfl, a, _, rfl, .inr (SqT.of ha), _, _, rfl, rfl, _, rfl, iteD (by show (0 : Int) < 5; decide) ⟨_, rfl, a, _, _, _, rfl, rfl, SqT.of ha, rfl, _, rfl, D.cWords, _, rfl, .inr (words_at T), rfl, rfl, _, rfl, ?_⟩⟩
        refine ⟨_, rfl, a, _, rfl, .inr (SqT.of ha), _, rfl, a, _, _, _, rfl, rfl, SqT.of ha, rfl, Sum.inr "ask", _, rfl, lens_ask, rfl, _, congrArg (fun b => [V.bl b, _]) (decide_eq_true rfl), ?_⟩
        refine ⟨_, rfl, a, _, _, _, rfl, rfl, SqT.of ha, rfl, rfl, _, rfl, iteDF ne_as ?_⟩
        refine ⟨_, rfl, a, _, _, _, rfl, rfl, SqT.of ha, rfl, rfl, _, rfl, iteD rfl ⟨_, rfl, fun x dx hx hd ne => ?_⟩⟩
        have k0 := mk_keep (C := D.cAsk) hx hd
        exact ⟨x, dx, n, sg, lo, hi, _, rfl, upd_same, ⟨a, rfl, k0 _ _ ha⟩, ok, fun H' e o => ⟨rfl, q _ H' (mk_same hx hd e) o⟩⟩
    | rows n inner gap lo hi =>
      obtain ⟨a, l, us, rfl, ha, hl, hi'⟩ := hp
      refine ⟨_, rfl, a, _, rfl, .inr (SqT.of ha), _, _, rfl, rfl, _, rfl, iteD (by show (0 : Int) < 6; decide) ⟨_, rfl, a, _, _, _, rfl, rfl, SqT.of ha, rfl, _, rfl, D.cWords, _, rfl, .inr (words_at T), rfl, rfl, _, rfl, ?_⟩⟩
      refine ⟨_, rfl, a, _, rfl, .inr (SqT.of ha), _, rfl, a, _, _, _, rfl, rfl, SqT.of ha, rfl, Sum.inr "rows", _, rfl, lens_rows, rfl, _, congrArg (fun b => [V.bl b, _]) (decide_eq_true rfl), ?_⟩
      refine ⟨_, rfl, a, _, _, _, rfl, rfl, SqT.of ha, rfl, rfl, _, rfl, iteDF ne_rs ?_⟩
      refine ⟨_, rfl, a, _, _, _, rfl, rfl, SqT.of ha, rfl, rfl, _, rfl, iteDF ne_ra ⟨_, rfl, fun x dx hx hd ne => ?_⟩⟩
      have k0 := mk_keep (C := D.cRows) hx hd
      exact ⟨x, dx, n, inner, gap, lo, hi, _, rfl, upd_same, ⟨a, l, us, rfl, k0 _ _ ha, k0 _ _ hl, Paired.mapP hi' fun _ _ z => Pc.At.mono k0 z⟩, ok, fun H' e o => ⟨rfl, q _ H' (mk_same hx hd e) (Pie.Obj.older k0 o)⟩⟩
theorem ok_partsF (T : Txt w K mg D) : FnOk P w K mg base CX0 10 D.aPartsOf D.dPartsOf ["pieces", "words", "most"] (spParts AtP (ObP D.cl) Pie.ok Pie.nm D.cWords 6) :=
  ok_parts T (by decide) (by decide) (ok_partF T) (fun e _ _ h => Pie.At.mono e h) (fun e _ _ h => Pie.Obj.mono e h) (fun e _ _ h => Pie.Obj.older e h) (fun h => Pie.Obj.item h) pie_nm1
/-! ### Form -/
theorem Fld.away {H : Hp} {a C x C' dx : Addr} {p : Str × V} {fs : List (Str × V)} (h : Fld H a C (p :: fs)) (hx : H x = some (.ins C' dx [])) : a ≠ x := by
  obtain ⟨da, l, hl, hf⟩ := h
  intro e
  rw [e, hx] at hl; cases hl
  have := hf p List.mem_cons_self
  cases this
theorem Fld.besides {H H' : Hp} {a C x C' dx : Addr} {p : Str × V} {fs : List (Str × V)} (hx : H x = some (.ins C' dx [])) (e : Besides x H H') (h : Fld H a C (p :: fs)) : Fld H' a C (p :: fs) := by
  have n := h.away hx
  obtain ⟨da, l, hl, hf⟩ := h
  exact ⟨da, l, e _ _ hl n, hf⟩
theorem Pc.Obj.aside {c : Cl} {H H' : Hp} {x C dx : Addr} (hx : H x = some (.ins C dx [])) (e : Besides x H H') : ∀ {p : Pc} {v : V}, p.Obj c H v → p.Obj c H' v
  | .say _, _, ⟨a, ha, h⟩ => ⟨a, ha, h.besides hx e⟩
  | .ask .., _, ⟨a, ha, h⟩ => ⟨a, ha, h.besides hx e⟩
theorem Pie.Obj.aside {c : Cl} {H0 H H' : Hp} {x C dx : Addr} (hx : H x = some (.ins C dx [])) (e : Besides x H H') : ∀ {p : Pie} {v : V}, p.Obj c H0 H v → p.Obj c H0 H' v
  | .one p, _, h => Pc.Obj.aside (p := p) hx e h
  | .rows .., _, ⟨a, l, us, ha, h, hl, h0, hp⟩ => ⟨a, l, us, ha, h.besides hx e, e _ _ hl (ne_of hl hx (by intro z; cases z)), h0, Paired.mapP hp fun _ _ z => z.aside hx e⟩
theorem Pie.AtF.older' {H0 H1 H : Hp} (e : ∀ b, H1 b = none → H0 b = none) : ∀ {p : Pie} {v : V}, p.AtF H1 H v → p.AtF H0 H v
  | .one p, _, h => h
  | .rows .., _, ⟨a, l, vs, h1, h2, h3, h5, h4⟩ => ⟨a, l, vs, h1, h2, h3, e _ h5, h4⟩
theorem Pc.At.besides {H H' : Hp} {x C dx : Addr} {fs : List (Str × V)} (hx : H x = some (.ins C dx fs)) (e : Besides x H H') {p : Pc} {v : V} (h : p.At H v) : p.At H' v := by
  obtain ⟨a, ha, hl⟩ := h
  exact ⟨a, ha, e _ _ hl (ne_of hl hx (by intro z; cases z))⟩
theorem Pie.At.besides {H H' : Hp} {x C dx : Addr} {fs : List (Str × V)} (hx : H x = some (.ins C dx fs)) (e : Besides x H H') : ∀ {p : Pie} {v : V}, p.At H v → p.At H' v
  | .one p, _, h => Pc.At.besides (p := p) hx e h
  | .rows .., _, ⟨a, l, us, ha, h, hl, hp⟩ => ⟨a, l, us, ha, e _ _ h (ne_of h hx (by intro z; cases z)), e _ _ hl (ne_of hl hx (by intro z; cases z)), Paired.mapP hp fun _ _ z => z.besides hx e⟩
theorem Pie.AtF.besides {H0 H H' : Hp} {x C dx : Addr} {fs : List (Str × V)} (hx : H x = some (.ins C dx fs)) (e : Besides x H H') : ∀ {p : Pie} {v : V}, p.AtF H0 H v → p.AtF H0 H' v
  | .one p, _, h => Pc.At.besides (p := p) hx e h
  | .rows .., _, ⟨a, l, us, ha, h, hl, h0, hp⟩ => ⟨a, l, us, ha, e _ _ h (ne_of h hx (by intro z; cases z)), e _ _ hl (ne_of hl hx (by intro z; cases z)), h0, Paired.mapP hp fun _ _ z => z.besides hx e⟩
theorem scForm : FnScope ["self", "pieces"] ["self", "pieces"] (defScope sFormI) := ⟨rfl, rfl, rfl, by decide +kernel, rfl, by decide +kernel, by decide +kernel⟩
def spFormI (D : Adr) : Sp := fun vs H Q _ => ∃ (x dx l : Addr) (us : List V) (ps : List Pie), vs = [.ref x, .ref l] ∧ H x = some (.ins D.cForm dx []) ∧ H l = some (.lst us) ∧ Paired (Pie.At H) ps us ∧ FormOk ps ∧ ∀ H', Besides x H H' → FormAt D.cl H H' ps (.ref x) → Q .non H'
theorem ok_formI (T : Txt w K mg D) : FnOk P w K mg base CX0 11 D.aFormI D.dFormI ["self", "pieces"] (spFormI D) := by
  have GP : FnOk P w K mg base CX0 10 D.aPartsOf D.dPartsOf ["pieces", "words", "most"] (spParts AtP (ObP D.cl) Pie.ok Pie.nm D.cWords 6) := ok_partsF T
  have GC : FnOk P w K mg base CX0 1 D.aCopyOf D.dCopyOf ["piece"] spCopy := ok_copy T
  refine T.fFormI.ok scForm (fun vs H Q E h => ?_) (fun cdv A outer s H vs Q E hr h => ?_)
  · obtain ⟨x, dx, l, us, ps, rfl, _⟩ := h; rfl
  · obtain ⟨x, dx, l, us, ps, rfl, hx, hl, hp, ⟨f1, f2, f3, f4⟩, q⟩ := h
    have hr1 : Room 1 _ := hr.mono (by decide)
    have hus : us.length = ps.length := hp.length.symm
    refine ⟨_, pss_cons (ps_fld (pv 0) (pe_call GP hr rfl T.mPartsOf T.fPartsOf.kp T.bPartsOf .nil pass0 (pa_cons (pv 1) (pa_cons (pe_glob (v := .ref D.cWords) rfl T.gWords rfl) (pa_cons pe_int pa_nil)))) rfl)
      (pss_one (ps_fld (pv 0) (pe_comp (cp := []) (te := tCall spCopy [] E0 (tCons (tVar 0) tNil)) (CompScope.of (defScope sFormI) ["self", "pieces"] rfl rfl (by decide +kernel)) rfl (pi_list (pv 1)) (fun _ _ _ _ _ => pts_nil)
        (fun _ _ _ _ _ => pe_call GC hr1 rfl T.mCopyOf T.fCopyOf.kp T.bCopyOf .nil pass0 (pa_cons (pv 0) pa_nil))) rfl)), ?_⟩
    refine ⟨_, rfl, l, us, ps, rfl, hl, hp, f1, f2, f3, f4, fun r ws H1 e1 nr hr1' ow => ?_⟩
    have hx1 := e1 _ _ hx
    refine ⟨_, rfl, x, _, dx, _, rfl, hx1, T.kForm.cl, T.nFormPlan, (by show 0 < 1000; decide), ?_⟩
    have c2 : Besides x H1 (L2.upd H1 x (.ins D.cForm dx (putF "plan" (.ref r) []))) := Besides.refl.upd _
    have nlx : l ≠ x := ne_of hl hx (by intro z; cases z)
    have nrx : r ≠ x := ne_of hr1' hx1 (by intro z; cases z)
    have hl2 := c2 _ _ (e1 _ _ hl) nlx
    have hp2 : Paired (Pie.At (L2.upd H1 x (.ins D.cForm dx (putF "plan" (.ref r) [])))) ps us := Paired.mapP hp fun _ _ z => (z.mono e1).besides hx1 c2
    generalize hH2 : L2.upd H1 x (.ins D.cForm dx (putF "plan" (.ref r) [])) = H2 at c2 hl2 hp2 ⊢
    have hx2 : H2 x = some (.ins D.cForm dx (putF "plan" (.ref r) [])) := by rw [← hH2]; exact upd_same
    have old : ∀ b, H2 b = none → H b = none := fun b hb => by
      cases q0 : H b with
      | none => rfl
      | some o =>
        have nb : b ≠ x := fun z => by rw [z, hx2] at hb; cases hb
        have := c2 _ _ (e1 _ _ q0) nb
        rw [hb] at this; cases this
    refine ⟨_, rfl, l, rfl, ⟨_, SqL.of hl2⟩, comp_list (xs := us) (fun i ys H' => Same H2 H' ∧ Paired (Pie.AtF H2 H') (ps.take i) ys) ⟨Same.refl H2, .nil⟩ (fun i ys H' hi e => ⟨SqL.of (e.1 _ _ hl2), ?_⟩) (small (by omega)) (fun i y ys H' hy e => ?_) (fun ys H3 e m hm => ?_)⟩
    · have := e.2.length
      rw [List.length_take] at this
      omega
    · obtain ⟨g1, g2⟩ := e
      obtain ⟨a, ea, pa⟩ := Paired.two hp2 hy
      refine ⟨_, rfl, a, y, rfl, pa.mono g1, fun n inner gap lo hi ez => ?_, fun u H5 g5 o5 => ⟨g1.trans g5, ?_⟩⟩
      · have okp := f3 a (List.mem_of_getElem? ea)
        rw [ez] at okp
        exact Nat.le_trans okp.2.1.hi (by decide)
      · rw [take_snoc ea]
        exact (Paired.mapP g2 fun _ _ z => z.mono g5).snoc (Pie.AtF.older g1 o5)
    · obtain ⟨g1, g2⟩ := e
      rw [hus, List.take_length] at g2
      have g3 := same_new hm (.lst ys)
      have hx3 := g3 _ _ (g1 _ _ hx2)
      refine ⟨_, rfl, x, _, dx, _, rfl, hx3, T.kForm.cl, T.nFormPieces, Nat.lt_of_le_of_lt (len_le1 _ _ _ (k := 0) (Nat.le_refl _)) (by decide), ?_⟩
      have c4 : Besides x (L2.upd H3 m (.lst ys)) _ := Besides.refl.upd (.ins D.cForm dx (putF "pieces" (.ref m) (putF "plan" (.ref r) [])))
      have c14 : Besides x H1 _ := fun b o h n => c4 b o (g3 _ _ (g1 _ _ (c2 b o h n))) n
      have nmx : m ≠ x := fun z => by rw [z] at hm; rw [g1 _ _ hx2] at hm; cases hm
      refine q _ (fun b o h n => c14 b o (e1 _ _ h) n) ⟨x, r, ws, m, ys, rfl, ⟨dx, _, upd_same, allc (lk_ne (show ("plan" : Str) ≠ "pieces" by decide +kernel) lk_eq) (allc lk_eq alln)⟩, c14 _ _ hr1' nrx, nr, Paired.mapP ow fun _ _ z => z.aside hx1 c14, c4 _ _ upd_same nmx, old _ (g1.free hm), ?_⟩
      exact Paired.mapP g2 fun _ _ z => ((z.mono g3).besides hx3 c4).older' old
end
end Lf

set_option Elab.async false
set_option linter.all false
set_option maxRecDepth 100000
set_option maxHeartbeats 4000000
namespace Lf
open PySem L2
/-! ### lengths -/
theorem join_len {sep : Str} {n : Nat} : ∀ {ts : List Str}, (∀ t ∈ ts, t.length + sep.length ≤ n) → (Str.join sep ts).length ≤ ts.length * n
  | [], _ => Nat.zero_le _
  | [t], h => by
    have := h t List.mem_cons_self
    show t.length ≤ _
    rw [List.length_singleton, Nat.one_mul]
    omega
  | t :: u :: r, h => by
    have h1 := h t List.mem_cons_self
    have h2 := join_len (ts := u :: r) fun x hx => h x (List.mem_cons_of_mem _ hx)
    show ((t ++ sep) ++ Str.join sep (u :: r)).length ≤ _
    rw [strLen_append, strLen_append, List.length_cons, Nat.succ_mul]
    omega
theorem cat_len {n : Nat} {ts : List Str} (h : ∀ t ∈ ts, t.length ≤ n) : (cat ts).length ≤ ts.length * n := join_len fun t ht => by show t.length + 0 ≤ n; exact h t ht
theorem wPc_len {f : Row} : ∀ {p : Pc}, p.ok → FitPc f p → (wPc f p).length ≤ 12
  | .say t, h, _ => h.hi
  | .ask n sg lo hi, ⟨_, _, _, _, _, h4⟩, ⟨t, e, ft⟩ => by
    have := ft.hi
    show ((f n).getD Str.empty).length ≤ 12
    rw [e]
    show t.length ≤ 12
    omega
theorem wRow_len {ps : List Pc} {f : Row} (h : PartsOk ps) (hf : FitRow ps f) : (wRow ps f).length ≤ 36 := by
  have := cat_len (n := 12) (ts := ps.map (wPc f)) fun t ht => by
    obtain ⟨p, hp, rfl⟩ := List.mem_map.mp ht
    exact wPc_len (h.all p hp) (hf p hp)
  have h3 := h.hi
  rw [List.length_map] at this
  unfold wRow
  omega
theorem wPie_ask {F : Vs} {n sg t : Str} {lo hi : Int} (e : F n = some (.text t)) : wPie F (.one (.ask n sg lo hi)) = t := by
  show (match F n with | some (.text t) => t | _ => Str.empty) = t
  rw [e]
theorem wPie_rows {F : Vs} {n gap : Str} {inner : List Pc} {rs : List Row} {lo hi : Int} (e : F n = some (.rows rs)) : wPie F (.rows n inner gap lo hi) = Str.join gap (rs.map (wRow inner)) := by
  show (match F n with | some (.rows rs) => Str.join gap (rs.map (wRow inner)) | _ => Str.empty) = _
  rw [e]
theorem wPc_ask {f : Row} {n sg t : Str} {lo hi : Int} (e : f n = some t) : wPc f (.ask n sg lo hi) = t := by
  show (f n).getD Str.empty = t
  rw [e]; rfl
theorem wPie_len {F : Vs} : ∀ {p : Pie}, p.ok → FitPie F p → (wPie F p).length ≤ 150
  | .one (.say t), h, _ => Nat.le_trans h.hi (by decide)
  | .one (.ask n sg lo hi), ⟨_, _, _, _, _, h4⟩, ⟨t, e, ft⟩ => by
    have := ft.hi
    rw [wPie_ask e]
    omega
  | .rows n inner gap lo hi, ⟨_, hp, hg, _, _, h3⟩, ⟨rs, e, _, h2, hf⟩ => by
    rw [wPie_rows e]
    have := join_len (sep := gap) (n := 41) (ts := rs.map (wRow inner)) fun t ht => by
      obtain ⟨f, hf', rfl⟩ := List.mem_map.mp ht
      have h1 := wRow_len hp (hf f hf')
      have h2 := hg.hi
      omega
    rw [List.length_map] at this
    omega
section
variable {P : Program} {w : World} {K : PySem.W.Frag} {mg : Str → Option Value} {base : Heap} {D : Adr}
/-! ### value_of -/
theorem scVO : FnScope ["part", "values", "value"] ["part", "values"] (defScope sValueOf) := ⟨rfl, rfl, rfl, by decide +kernel, rfl, by decide +kernel, by decide +kernel⟩
structure HasV (K : PySem.W.Frag) (C : Addr) : Prop where
  cl : Cls K C
  n : NoAttr K C "name"
  l : NoAttr K C "least"
  m : NoAttr K C "most"
def spVO (K : PySem.W.Frag) : Sp := fun vs H Q _ => ∃ (a C d : Addr) (kvs : List (Key × V)) (n : Str) (lo hi : Int) (u : V) (k : Nat), vs = [.ref a, .ref d] ∧ HasV K C ∧ Fld H a C [("name", .str n), ("least", .int lo), ("most", .int hi)] ∧ Rd H d (.dK kvs) ∧ valV kvs (Sum.inr n) = some u ∧ LenV K u H k ∧ lo ≤ (k : Int) ∧ (k : Int) ≤ hi ∧ Q u H
theorem ok_VO (T : Txt w K mg D) : FnOk P w K mg base CX0 1 D.aValueOf D.dValueOf ["part", "values"] (spVO K) := by
  refine T.fValueOf.ok scVO (fun vs H Q E h => ?_) (fun cdv A outer s H vs Q E hr h => ?_)
  · obtain ⟨a, C, d, kvs, n, lo, hi, u, k, rfl, _⟩ := h; rfl
  · obtain ⟨a, C, d, kvs, n, lo, hi, u, k, rfl, B, ⟨dx, fs, ha, hf⟩, hd, hv, hlen, h1, h2, q⟩ := h
    have hu := hu_of hr
    have en := hf ("name", .str n) List.mem_cons_self
    have el := hf ("least", .int lo) (List.mem_cons_of_mem _ List.mem_cons_self)
    have em := hf ("most", .int hi) (List.mem_cons_of_mem _ (List.mem_cons_of_mem _ List.mem_cons_self))
    refine ⟨_, pss_cons (ps_if (pt_cmp (pc_dnotin hu (pe_fld (pv 0) rfl) (pv 1))) pss_never pss_nil)
      (pss_cons (ps_set (i := 2) scVO.nd rfl (Or.inl rfl) (pe_dget hu (pv 1) (pe_fld (pv 0) rfl) (fun _ _ => rfl)))
      (pss_cons (ps_if (pt_cmpR op_lt (pe_callB call_len rfl T.zLen PySem.boot_len (pa_cons (pv 2) pa_nil)) (pe_fld (pv 0) rfl) (nomark _)) pss_never pss_nil)
      (pss_cons (ps_if (pt_cmpR op_gt (pe_callB call_len rfl T.zLen PySem.boot_len (pa_cons (pv 2) pa_nil)) (pe_fld (pv 0) rfl) (nomark _)) pss_never pss_nil)
      (pss_one (ps_ret (pv 2)))))), ?_⟩
    have dg : DGet H d (.str n) (some u) := .inl ⟨kvs, Sum.inr n, hd, rfl, hv.symm⟩
    refine ⟨_, rfl, a, C, dx, _, _, rfl, ha, B.cl, B.n, en, _, rfl, d, some u, rfl, dg, _, rfl, iteF ?_⟩
    refine ⟨_, rfl, _, rfl, a, C, dx, _, _, rfl, ha, B.cl, B.n, en, d, u, rfl, dg, ?_⟩
    refine ⟨_, rfl, u, k, rfl, hlen, _, rfl, a, C, dx, _, _, rfl, ha, B.cl, B.l, el, _, _, rfl, rfl, _, rfl, iteDF (by omega) ?_⟩
    refine ⟨_, rfl, u, k, rfl, hlen, _, rfl, a, C, dx, _, _, rfl, ha, B.cl, B.m, em, _, _, rfl, rfl, _, rfl, iteDF (by omega) ?_⟩
    exact ⟨_, rfl, q⟩
/-! ### filled_ask -/
theorem scFA : FnScope ["ask", "values", "text", "sign"] ["ask", "values"] (defScope sFilledAsk) := ⟨rfl, rfl, rfl, by decide +kernel, rfl, by decide +kernel, by decide +kernel⟩
def spFA (D : Adr) : Sp := fun vs H Q _ => ∃ (d : Addr) (kvs : List (Key × V)) (n sg : Str) (lo hi : Int) (v : V) (t : Str), vs = [v, .ref d] ∧ (Pc.ask n sg lo hi).Obj D.cl H v ∧ Rd H d (.dK kvs) ∧ valV kvs (Sum.inr n) = some (.str t) ∧ Fits sg lo hi t ∧ t.length ≤ 1000 ∧ Q (.str t) H
theorem ok_FA (T : Txt w K mg D) : FnOk P w K mg base CX0 2 D.aFilledAsk D.dFilledAsk ["ask", "values"] (spFA D) := by
  have G : FnOk P w K mg base CX0 1 D.aValueOf D.dValueOf ["part", "values"] (spVO K) := ok_VO T
  refine T.fFilledAsk.ok scFA (fun vs H Q E h => ?_) (fun cdv A outer s H vs Q E hr h => ?_)
  · obtain ⟨d, kvs, n, sg, lo, hi, v, t, rfl, _⟩ := h; rfl
  · obtain ⟨d, kvs, n, sg, lo, hi, v, t, rfl, ⟨a, rfl, hfl⟩, hd, hv, ft, hz, q⟩ := h
    refine ⟨_, pss_cons (ps_set (i := 2) scFA.nd rfl (Or.inl rfl) (pe_call G hr rfl T.mValueOf T.fValueOf.kp T.bValueOf .nil pass0 (pa_cons (pv 0) (pa_cons (pv 1) pa_nil))))
      (pss_cons (ps_for PassesOwn.never rfl (pi_str (pv 2)) (pg_name (i := 3) scFA.nd rfl (Or.inl rfl)) (pss_one (ps_if (pt_cmpR op_notInSign (pv 3) (pe_fld (pv 0) rfl) rfl) pss_never pss_nil)))
      (pss_one (ps_ret (pv 2)))), ?_⟩
    have hflv : Fld H a D.cAsk [("name", .str n), ("least", .int lo), ("most", .int hi)] := hfl.sub (allc List.mem_cons_self (allc (List.mem_cons_of_mem _ (List.mem_cons_of_mem _ List.mem_cons_self)) (allc (List.mem_cons_of_mem _ (List.mem_cons_of_mem _ (List.mem_cons_of_mem _ List.mem_cons_self))) alln)))
    refine ⟨_, rfl, _, rfl, a, D.cAsk, d, kvs, n, lo, hi, .str t, t.length, rfl, ⟨T.kAsk.cl, T.nAskName, T.nAskLeast, T.nAskMost⟩, hflv, hd, hv, ⟨small hz, rfl⟩, ft.lo, ft.hi, ?_⟩
    obtain ⟨dx, fs, ha, hf⟩ := hfl
    have es := hf ("signs", .str sg) (List.mem_cons_of_mem _ List.mem_cons_self)
    refine ⟨_, rfl, t, rfl, for_str (fun i σ H' => H' = H ∧ ∃ o, σ = [some (.ref a), some (.ref d), some (.str t), o]) ⟨rfl, none, rfl⟩ (fun i c σ H' hc e => ?_) (fun σ H' e => ?_)⟩
    · obtain ⟨rfl, o, rfl⟩ := e
      refine ⟨_, rfl, _, rfl, a, _, dx, _, _, rfl, ha, T.kAsk.cl, T.nAskSigns, es, c, sg, rfl, rfl, _, rfl, ?_⟩
      refine iteNS (ft.all c (arr_mem hc)) ?_
      exact ⟨rfl, _, rfl⟩
    · obtain ⟨rfl, o, rfl⟩ := e
      exact ⟨_, rfl, q⟩
/-! ### filled_part, filled_parts -/
theorem scFP : FnScope ["part", "values"] ["part", "values"] (defScope sFilledPart) := ⟨rfl, rfl, rfl, by decide +kernel, rfl, by decide +kernel, by decide +kernel⟩
def spFPart {α β : Type} (Ob : Hp → α → V → Prop) (VA : Hp → β → V → Prop) (fit : β → α → Prop) (wr : β → α → Str) : Sp := fun vs H Q _ => ∃ (a : α) (b : β) (v d : V), vs = [v, d] ∧ Ob H a v ∧ VA H b d ∧ fit b a ∧ ∀ H', Same H H' → Q (.str (wr b a)) H'
def FitR (f : Row) (p : Pc) : Prop := p.ok ∧ FitPc f p
theorem ok_FPR (T : Txt w K mg D) : FnOk P w K mg base CX0 3 D.aFilledPart D.dFilledPart ["part", "values"] (spFPart (fun H p v => Pc.Obj D.cl H p v) RowAt FitR wPc) := by
  have G : FnOk P w K mg base CX0 2 D.aFilledAsk D.dFilledAsk ["ask", "values"] (spFA D) := ok_FA T
  refine T.fFilledPart.ok scFP (fun vs H Q E h => ?_) (fun cdv A outer s H vs Q E hr h => ?_)
  · obtain ⟨a, b, v, d, rfl, _⟩ := h; rfl
  · obtain ⟨p, f, v, d, rfl, hp, ⟨da, kvs, rfl, hd, hv⟩, ⟨ok, ft⟩, q⟩ := h
    refine ⟨_, pss_cons (ps_if (pt_val (pe_callB call_isinst rfl T.zIsinstance PyProof.Rows.boot_isinstance (pa_cons (pv 0) (pa_cons (pe_glob (v := .ref D.cSay) rfl T.mgSay rfl) pa_nil)))) (pss_one (ps_ret (pe_fld (pv 0) rfl))) pss_nil)
      (pss_cons (ps_if (pt_val (pe_callB call_isinst rfl T.zIsinstance PyProof.Rows.boot_isinstance (pa_cons (pv 0) (pa_cons (pe_glob (v := .ref D.cAsk) rfl T.mgAsk rfl) pa_nil)))) (pss_one (ps_ret (pe_call G hr rfl T.mFilledAsk T.fFilledAsk.kp T.bFilledAsk .nil pass0 (pa_cons (pv 0) (pa_cons (pv 1) pa_nil))))) pss_nil)
      (pss_one ps_never)), ?_⟩
    cases p with
    | say t =>
      obtain ⟨a, rfl, dx, fs, ha, hf⟩ := hp
      refine ⟨_, rfl, _, _, true, .inl ⟨_, rfl, T.isSaySay⟩, ty_of T.kSay ha, _, rfl, iteT ?_⟩
      exact ⟨_, rfl, a, _, dx, _, _, rfl, ha, T.kSay.cl, T.nSayText, hf _ List.mem_cons_self, q H (Same.refl H)⟩
    | ask n sg lo hi =>
      obtain ⟨t, et, fits⟩ := ft
      obtain ⟨a, rfl, dx, fs, ha, hf⟩ := id hp
      refine ⟨_, rfl, _, _, false, .inl ⟨_, rfl, T.isAskSay⟩, ty_of T.kAsk ha, _, rfl, iteF ?_⟩
      refine ⟨_, rfl, _, _, true, .inl ⟨_, rfl, T.isAskAsk⟩, ty_of T.kAsk ha, _, rfl, iteT ?_⟩
      have hz : t.length ≤ 1000 := by have := fits.hi; have := ok.2.2.2.2.2; omega
      refine ⟨_, rfl, _, rfl, da, kvs, n, sg, lo, hi, _, t, rfl, hp, hd, hv n t et, fits, hz, ?_⟩
      have := q H (Same.refl H)
      rw [wPc_ask et] at this
      exact this
theorem scFPs : FnScope ["parts", "values"] ["parts", "values"] (defScope sFilledParts) := ⟨rfl, rfl, rfl, by decide +kernel, rfl, by decide +kernel, by decide +kernel⟩
def spFParts {α β : Type} (Ob : Hp → α → V → Prop) (VA : Hp → β → V → Prop) (fit : β → α → Prop) (wr : β → α → Str) : Sp := fun vs H Q _ => ∃ (l : Addr) (us : List V) (as : List α) (b : β) (d : V), vs = [.ref l, d] ∧ H l = some (.lst us) ∧ Paired (Ob H) as us ∧ VA H b d ∧ as.length ≤ 100 ∧ (∀ a ∈ as, fit b a ∧ (wr b a).length ≤ 500) ∧
  ∀ H', Same H H' → Q (.str (cat (as.map (wr b)))) H'
theorem ok_fparts (T : Txt w K mg D) {α β : Type} {Ob : Hp → α → V → Prop} {VA : Hp → β → V → Prop} {fit : β → α → Prop} {wr : β → α → Str} {k : Nat} (G : FnOk P w K mg base CX0 k D.aFilledPart D.dFilledPart ["part", "values"] (spFPart Ob VA fit wr))
    (obM : ∀ {H H' : Hp}, Same H H' → ∀ {a : α} {v : V}, Ob H a v → Ob H' a v) (vaM : ∀ {H H' : Hp}, Same H H' → ∀ {b : β} {v : V}, VA H b v → VA H' b v) :
    FnOk P w K mg base CX0 (k + 1) D.aFilledParts D.dFilledParts ["parts", "values"] (spFParts Ob VA fit wr) := by
  refine T.fFilledParts.ok scFPs (fun vs H Q E h => ?_) (fun cdv A outer s H vs Q E hr h => ?_)
  · obtain ⟨l, us, as, b, d, rfl, _⟩ := h; rfl
  · obtain ⟨l, us, as, b, d, rfl, hl, hp, hd, h100, hw, q⟩ := h
    have hus : us.length = as.length := hp.length.symm
    refine ⟨_, pss_one (ps_ret (pe_bm PySem.F.plainAttrs_str PySem.F.slot_str_join PySem.F.type_str_join mt_join pe_str (pa_cons (pe_comp (cp := [(1, "values")]) (te := tCall (spFPart Ob VA fit wr) [] E0 (tCons (tVar 0) (tCons (tVar 1) tNil)))
      (CompScope.of (defScope sFilledParts) ["parts", "values"] rfl rfl (by decide +kernel)) rfl (pi_list (pv 0)) (fun _ _ _ _ _ => pts_nil) (fun _ _ _ _ _ => pe_call G hr rfl T.mFilledPart T.fFilledPart.kp T.bFilledPart .nil pass0 (pa_cons (pv 0) (pa_cons (pv 1) pa_nil)))) pa_nil))), ?_⟩
    refine ⟨rfl, _, rfl, l, rfl, ⟨_, SqL.of hl⟩, comp_list (xs := us) (fun i ys H' => Same H H' ∧ ys = (as.take i).map fun a => V.str (wr b a)) ⟨Same.refl H, rfl⟩ (fun i ys H' hi e => ⟨SqL.of (e.1 _ _ hl), ?_⟩) (small (by omega)) (fun i x ys H' hx e => ?_) (fun ys H' e r hr' => ?_)⟩
    · rw [e.2, List.length_map, List.length_take]; omega
    · obtain ⟨e1, rfl⟩ := e
      obtain ⟨a, ea, pa⟩ := Paired.two hp hx
      refine ⟨_, rfl, _, rfl, a, b, x, d, rfl, obM e1 pa, vaM e1 hd, (hw a (List.mem_of_getElem? ea)).1, fun H5 e5 => ⟨e1.trans e5, ?_⟩⟩
      rw [take_snoc ea, List.map_append]
      rfl
    · obtain ⟨e1, rfl⟩ := e
      rw [hus, List.take_length]
      refine ⟨_, r, as.map (wr b), rfl, rfl, SqL.of (by rw [upd_same, List.map_map]; rfl), ?_, q _ (e1.trans (same_new hr' _))⟩
      refine joinOk_of (n := 500) (fun t ht => ?_) (by rw [List.length_map]; exact Nat.le_trans (Nat.mul_le_mul_right 500 h100) (by decide))
      obtain ⟨a, ha, rfl⟩ := List.mem_map.mp ht
      exact (hw a ha).2
theorem ok_FPsR (T : Txt w K mg D) : FnOk P w K mg base CX0 4 D.aFilledParts D.dFilledParts ["parts", "values"] (spFParts (fun H p v => Pc.Obj D.cl H p v) RowAt FitR wPc) :=
  ok_fparts T (ok_FPR T) (fun e _ _ h => Pc.Obj.mono e h) (fun e _ _ h => RowAt.mono e h)
/-! ### filled_rows -/
theorem scFR : FnScope ["rows", "values", "texts"] ["rows", "values"] (defScope sFilledRows) := ⟨rfl, rfl, rfl, by decide +kernel, rfl, by decide +kernel, by decide +kernel⟩
def spFR (D : Adr) : Sp := fun vs H Q _ => ∃ (H0 : Hp) (d : Addr) (kvs : List (Key × V)) (n : Str) (inner : List Pc) (gap : Str) (lo hi : Int) (v u : V) (rs : List Row), vs = [v, .ref d] ∧ (Pie.rows n inner gap lo hi).Obj D.cl H0 H v ∧ (Pie.rows n inner gap lo hi).ok ∧ Rd H d (.dK kvs) ∧ valV kvs (Sum.inr n) = some u ∧ ValAt H (.rows rs) u ∧
  lo ≤ (rs.length : Int) ∧ (rs.length : Int) ≤ hi ∧ (∀ f ∈ rs, FitRow inner f) ∧ ∀ H', Same H H' → Q (.str (Str.join gap (rs.map (wRow inner)))) H'
theorem ok_FR (T : Txt w K mg D) : FnOk P w K mg base CX0 5 D.aFilledRows D.dFilledRows ["rows", "values"] (spFR D) := by
  have GV : FnOk P w K mg base CX0 1 D.aValueOf D.dValueOf ["part", "values"] (spVO K) := ok_VO T
  have G : FnOk P w K mg base CX0 4 D.aFilledParts D.dFilledParts ["parts", "values"] (spFParts (fun H p v => Pc.Obj D.cl H p v) RowAt FitR wPc) := ok_FPsR T
  refine T.fFilledRows.ok scFR (fun vs H Q E h => ?_) (fun cdv A outer s H vs Q E hr h => ?_)
  · obtain ⟨H0, d, kvs, n, inner, gap, lo, hi, v, u, rs, rfl, _⟩ := h; rfl
  · obtain ⟨H0, d, kvs, n, inner, gap, lo, hi, v, u, rs, rfl, ⟨a, l, ws, rfl, hfl, hl, _, hin⟩, ⟨_, hpo, hg, _, _, h3⟩, hd, hv, ⟨m, us, rfl, hm, hrs⟩, h1, h2, hfit, q⟩ := h
    have hr1 : Room 1 _ := hr.mono (by decide)
    refine ⟨_, pss_cons (ps_setComp (i := 2) (cp := [(0, "rows")]) (te := tCall (spFParts (fun H p v => Pc.Obj D.cl H p v) RowAt FitR wPc) [] E0 (tCons (tFld K (tVar 1) "parts") (tCons (tVar 0) tNil))) scFR.nd rfl rfl (CompScope.of (defScope sFilledRows) ["rows", "values", "texts"] rfl rfl (by decide +kernel)) rfl
        (pi_list (pe_call GV hr1 rfl T.mValueOf T.fValueOf.kp T.bValueOf .nil pass0 (pa_cons (pv 0) (pa_cons (pv 1) pa_nil)))) (fun _ _ _ _ _ => pts_nil)
        (fun _ _ _ _ _ => pe_call G hr rfl T.mFilledParts T.fFilledParts.kp T.bFilledParts .nil pass0 (pa_cons (pe_fld (pv 1) rfl) (pa_cons (pv 0) pa_nil))))
      (pss_one (ps_ret (pe_bm PySem.F.plainAttrs_str PySem.F.slot_str_join PySem.F.type_str_join mt_join (pe_fld (pv 0) rfl) (pa_cons (pv 2) pa_nil)))), ?_⟩
    have hus : us.length = rs.length := hrs.length.symm
    have hflv : Fld H a D.cRows [("name", .str n), ("least", .int lo), ("most", .int hi)] := hfl.sub (allc List.mem_cons_self (allc (List.mem_cons_of_mem _ (List.mem_cons_of_mem _ (List.mem_cons_of_mem _ List.mem_cons_self))) (allc (List.mem_cons_of_mem _ (List.mem_cons_of_mem _ (List.mem_cons_of_mem _ (List.mem_cons_of_mem _ List.mem_cons_self)))) alln)))
    obtain ⟨dx, fs, ha, hf⟩ := hfl
    have ep := hf ("parts", .ref l) (List.mem_cons_of_mem _ List.mem_cons_self)
    have eg := hf ("gap", .str gap) (List.mem_cons_of_mem _ (List.mem_cons_of_mem _ List.mem_cons_self))
    refine ⟨_, rfl, _, rfl, a, D.cRows, d, kvs, n, lo, hi, .ref m, us.length, rfl, ⟨T.kRows.cl, T.nRowsName, T.nRowsLeast, T.nRowsMost⟩, hflv, hd, hv, .inl ⟨us, SqL.of hm, rfl⟩, by omega, by omega, ?_⟩
    refine ⟨m, rfl, ⟨_, SqL.of hm⟩, comp_list (xs := us) (fun i ys H' => Same H H' ∧ ys = (rs.take i).map fun f => V.str (wRow inner f)) ⟨Same.refl H, rfl⟩ (fun i ys H' hi e => ⟨SqL.of (e.1 _ _ hm), ?_⟩) (small (by omega)) (fun i x ys H' hx e => ?_) (fun ys H' e r hr' => ?_)⟩
    · rw [e.2, List.length_map, List.length_take]; omega
    · obtain ⟨e1, rfl⟩ := e
      obtain ⟨f, ef, pf⟩ := Paired.two hrs hx
      have mf := List.mem_of_getElem? ef
      refine ⟨_, rfl, a, _, dx, _, _, rfl, e1 _ _ ha, T.kRows.cl, T.nRowsParts, ep, _, rfl, l, ws, inner, f, x, rfl, e1 _ _ hl, Paired.mapP hin fun _ _ z => z.mono e1, pf.mono e1, Nat.le_trans hpo.hi (by decide), fun p hp => ⟨⟨hpo.all p hp, hfit f mf p hp⟩, Nat.le_trans (wPc_len (hpo.all p hp) (hfit f mf p hp)) (by decide)⟩, fun H5 e5 => ⟨e1.trans e5, ?_⟩⟩
      rw [take_snoc ef, List.map_append]
      rfl
    · obtain ⟨e1, rfl⟩ := e
      rw [hus, List.take_length]
      have e2 := same_new hr' (.lst (rs.map fun f => V.str (wRow inner f)))
      refine ⟨_, rfl, a, _, dx, _, _, rfl, e2 _ _ (e1 _ _ ha), T.kRows.cl, T.nRowsGap, eg, rfl, _, rfl, gap, r, rs.map (wRow inner), rfl, rfl, SqL.of (by rw [upd_same, List.map_map]; rfl), ?_, q _ (e1.trans e2)⟩
      refine joinOk_of (n := 500) (fun t ht => ?_) (by rw [List.length_map]; exact Nat.le_trans (Nat.mul_le_mul_right 500 (show rs.length ≤ 100 by omega)) (by decide))
      obtain ⟨f, hf', rfl⟩ := List.mem_map.mp ht
      have z1 := wRow_len hpo (hfit f hf')
      have z2 := hg.hi
      omega
/-! ### the form's own parts, and fill -/
def FitF (F : Vs) (p : Pie) : Prop := p.ok ∧ FitPie F p
def ObE (c : Cl) (H : Hp) (p : Pie) (v : V) : Prop := ∃ H0, p.Obj c H0 H v
theorem ok_FPF (T : Txt w K mg D) : FnOk P w K mg base CX0 6 D.aFilledPart D.dFilledPart ["part", "values"] (spFPart (ObE D.cl) VsAt FitF wPie) := by
  have G : FnOk P w K mg base CX0 2 D.aFilledAsk D.dFilledAsk ["ask", "values"] (spFA D) := ok_FA T
  have GR : FnOk P w K mg base CX0 5 D.aFilledRows D.dFilledRows ["rows", "values"] (spFR D) := ok_FR T
  refine T.fFilledPart.ok scFP (fun vs H Q E h => ?_) (fun cdv A outer s H vs Q E hr h => ?_)
  · obtain ⟨a, b, v, d, rfl, _⟩ := h; rfl
  · obtain ⟨p, F, v, d, rfl, ⟨H0, hp⟩, ⟨da, kvs, rfl, hd, hv⟩, ⟨ok, ft⟩, q⟩ := h
    have hr2 : Room 2 _ := hr.mono (by decide)
    refine ⟨_, pss_cons (ps_if (pt_val (pe_callB call_isinst rfl T.zIsinstance PyProof.Rows.boot_isinstance (pa_cons (pv 0) (pa_cons (pe_glob (v := .ref D.cSay) rfl T.mgSay rfl) pa_nil)))) (pss_one (ps_ret (pe_fld (pv 0) rfl))) pss_nil)
      (pss_cons (ps_if (pt_val (pe_callB call_isinst rfl T.zIsinstance PyProof.Rows.boot_isinstance (pa_cons (pv 0) (pa_cons (pe_glob (v := .ref D.cAsk) rfl T.mgAsk rfl) pa_nil)))) (pss_one (ps_ret (pe_call G hr2 rfl T.mFilledAsk T.fFilledAsk.kp T.bFilledAsk .nil pass0 (pa_cons (pv 0) (pa_cons (pv 1) pa_nil))))) pss_nil)
      (pss_one (ps_ret (pe_call GR hr rfl T.mFilledRows T.fFilledRows.kp T.bFilledRows .nil pass0 (pa_cons (pv 0) (pa_cons (pv 1) pa_nil)))))), ?_⟩
    cases p with
    | one p =>
      cases p with
      | say t =>
        obtain ⟨a, rfl, dx, fs, ha, hf⟩ := hp
        refine ⟨_, rfl, _, _, true, .inl ⟨_, rfl, T.isSaySay⟩, ty_of T.kSay ha, _, rfl, iteT ?_⟩
        exact ⟨_, rfl, a, _, dx, _, _, rfl, ha, T.kSay.cl, T.nSayText, hf _ List.mem_cons_self, q H (Same.refl H)⟩
      | ask n sg lo hi =>
        obtain ⟨t, et, fits⟩ := ft
        obtain ⟨u, eu, hu⟩ := hv n _ et
        cases (show u = .str t from hu)
        obtain ⟨a, rfl, dx, fs, ha, hf⟩ := id hp
        refine ⟨_, rfl, _, _, false, .inl ⟨_, rfl, T.isAskSay⟩, ty_of T.kAsk ha, _, rfl, iteF ?_⟩
        refine ⟨_, rfl, _, _, true, .inl ⟨_, rfl, T.isAskAsk⟩, ty_of T.kAsk ha, _, rfl, iteT ?_⟩
        have hz : t.length ≤ 1000 := by have := fits.hi; have := ok.2.2.2.2.2; omega
        refine ⟨_, rfl, _, rfl, da, kvs, n, sg, lo, hi, _, t, rfl, hp, hd, eu, fits, hz, ?_⟩
        have := q H (Same.refl H)
        rw [wPie_ask et] at this
        exact this
    | rows n inner gap lo hi =>
      obtain ⟨rs, er, f1, f2, f3⟩ := ft
      obtain ⟨u, eu, hu⟩ := hv n _ er
      obtain ⟨a, l, ws, rfl, hfl, _⟩ := id hp
      obtain ⟨dx, fs, ha, hf⟩ := hfl
      refine ⟨_, rfl, _, _, false, .inl ⟨_, rfl, T.isRowsSay⟩, ty_of T.kRows ha, _, rfl, iteF ?_⟩
      refine ⟨_, rfl, _, _, false, .inl ⟨_, rfl, T.isRowsAsk⟩, ty_of T.kRows ha, _, rfl, iteF ?_⟩
      refine ⟨_, rfl, _, rfl, H0, da, kvs, n, inner, gap, lo, hi, _, u, rs, rfl, hp, ok, hd, eu, hu, f1, f2, f3, fun H' e => ?_⟩
      have := q H' e
      rw [wPie_rows er] at this
      exact this
theorem ok_FPsF (T : Txt w K mg D) : FnOk P w K mg base CX0 7 D.aFilledParts D.dFilledParts ["parts", "values"] (spFParts (ObE D.cl) VsAt FitF wPie) :=
  ok_fparts T (ok_FPF T) (fun e _ _ ⟨H0, h⟩ => ⟨H0, h.mono e⟩) (fun e _ _ h => VsAt.mono e h)
theorem scFill : FnScope ["form", "values"] ["form", "values"] (defScope sFill) := ⟨rfl, rfl, rfl, by decide +kernel, rfl, by decide +kernel, by decide +kernel⟩
def spFill (D : Adr) : Sp := fun vs H Q _ => ∃ (H0 : Hp) (ps : List Pie) (F : Vs) (v d : V), vs = [v, d] ∧ FormAt D.cl H0 H ps v ∧ FormOk ps ∧ VsAt H F d ∧ (∀ p ∈ ps, FitPie F p) ∧ ∀ H', Same H H' → Q (.str (wForm ps F)) H'
theorem ok_fill (T : Txt w K mg D) : FnOk P w K mg base CX0 8 D.aFill D.dFill ["form", "values"] (spFill D) := by
  have G : FnOk P w K mg base CX0 7 D.aFilledParts D.dFilledParts ["parts", "values"] (spFParts (ObE D.cl) VsAt FitF wPie) := ok_FPsF T
  refine T.fFill.ok scFill (fun vs H Q E h => ?_) (fun cdv A outer s H vs Q E hr h => ?_)
  · obtain ⟨H0, ps, F, v, d, rfl, _⟩ := h; rfl
  · obtain ⟨H0, ps, F, v, d, rfl, ⟨a, l, ws, m, us, rfl, hfl, hl, _, hpl, _⟩, ok, hd, hfit, q⟩ := h
    obtain ⟨dx, fs, ha, hf⟩ := hfl
    refine ⟨_, pss_one (ps_ret (pe_call G hr rfl T.mFilledParts T.fFilledParts.kp T.bFilledParts .nil pass0 (pa_cons (pe_fld (pv 0) rfl) (pa_cons (pv 1) pa_nil)))), ?_⟩
    refine ⟨_, rfl, a, _, dx, _, _, rfl, ha, T.kForm.cl, T.nFormPlan, hf _ List.mem_cons_self, _, rfl, l, ws, ps, F, d, rfl, hl, Paired.mapP hpl fun _ _ z => ⟨H0, z⟩, hd, Nat.le_trans ok.hi (by decide), fun p hp => ⟨⟨ok.all p hp, hfit p hp⟩, Nat.le_trans (wPie_len (ok.all p hp) (hfit p hp)) (by decide)⟩, q⟩
end
end Lf

set_option Elab.async false
set_option linter.all false
set_option maxRecDepth 100000
set_option maxHeartbeats 1000000
namespace Lf
open PySem L2
def cellOf (ns : List Int) (k : Int) : Int := if k < (ns.length : Int) then ns.getD k.toNat 0 else 0
def drawOf (ns : List Int) (k : Int) : Int :=
  (((cellOf ns (k % 61) + 7919 * k + 104729) * 48271 % 2147483647) * ((cellOf ns (k % 61) + 7919 * k + 104729) * 48271 % 2147483647) % 2147483647) * 16807 % 2147483647 / 8
def sigs : List Str := ["a", "ab", "abc", "b", "0123456789", "xyz-", "ba ", "Zz.", "c,", "\n/"]
def says : List Str := ["x", "ab", "-", ": ", "a", ", ", "Dear ", "\n", "b", "ba", "(0)", "c;c"]
def gaps : List Str := ["", ", ", "\n", "a", "--"]
theorem sigs_ok : ∀ z ∈ sigs, SignsOk z 1 20 ∧ (sgn z).Nodup := by
  have h : sigs.all (fun z => decide (1 ≤ z.length) && decide (z.length ≤ 20) && z.cps.toList.all (fun c => decide (c ∈ SIGNS.cps.toList)) && decide ((sgn z).Nodup)) = true := by decide +kernel
  intro z hz
  have := List.all_eq_true.mp h z hz
  simp only [Bool.and_eq_true, decide_eq_true_eq, List.all_eq_true] at this
  exact ⟨⟨this.1.1.1, this.1.1.2, this.1.2⟩, this.2⟩
theorem says_ok : ∀ z ∈ says, SignsOk z 1 12 := by
  have h : says.all (fun z => decide (1 ≤ z.length) && decide (z.length ≤ 12) && z.cps.toList.all (fun c => decide (c ∈ SIGNS.cps.toList))) = true := by decide +kernel
  intro z hz
  have := List.all_eq_true.mp h z hz
  simp only [Bool.and_eq_true, decide_eq_true_eq, List.all_eq_true] at this
  exact ⟨this.1.1, this.1.2, this.2⟩
theorem gaps_ok : ∀ z ∈ gaps, SignsOk z 0 5 := by
  have h : gaps.all (fun z => decide (0 ≤ z.length) && decide (z.length ≤ 5) && z.cps.toList.all (fun c => decide (c ∈ SIGNS.cps.toList))) = true := by decide +kernel
  intro z hz
  have := List.all_eq_true.mp h z hz
  simp only [Bool.and_eq_true, decide_eq_true_eq, List.all_eq_true] at this
  exact ⟨this.1.1, this.1.2, this.2⟩
theorem atI_in {α : Type} {xs : List α} {i : Int} (h0 : 0 ≤ i) (h1 : i < (xs.length : Int)) : ∃ v, v ∈ xs ∧ atI xs i = some v ∧ xs[i.toNat]? = some v := by
  have hk : i.toNat < xs.length := by omega
  have e : i = ((i.toNat : Nat) : Int) := by omega
  have q : atI xs ((i.toNat : Nat) : Int) = some xs[i.toNat] := atI_nat (List.getElem?_eq_getElem hk)
  rw [← e] at q
  exact ⟨xs[i.toNat], List.getElem_mem hk, q, List.getElem?_eq_getElem hk⟩
theorem atI_strs {zs : List Str} {i : Int} (h0 : 0 ≤ i) (h1 : i < (zs.length : Int)) : ∃ z, z ∈ zs ∧ atI (zs.map V.str) i = some (.str z) ∧ zs[i.toNat]? = some z := by
  obtain ⟨v, _, e, _⟩ := atI_in (xs := zs.map V.str) (i := i) h0 (by rw [List.length_map]; exact h1)
  have hk : i.toNat < zs.length := by omega
  refine ⟨zs[i.toNat], List.getElem_mem hk, ?_, List.getElem?_eq_getElem hk⟩
  have e2 : i = ((i.toNat : Nat) : Int) := by omega
  have q : atI (zs.map V.str) ((i.toNat : Nat) : Int) = some (.str zs[i.toNat]) := atI_nat (by rw [List.getElem?_map, List.getElem?_eq_getElem hk]; rfl)
  rw [← e2] at q
  exact q
section
variable {P : Program} {w : World} {K : PySem.W.Frag} {mg : Str → Option Value} {base : Heap} {D : Adr}
structure Scr (K : PySem.W.Frag) (H : Hp) (a : Addr) (ns : List Int) : Prop where
  at' : SqL K H a (ns.map V.int)
  few : ns.length ≤ 63
theorem Scr.mono {H H' : Hp} {a : Addr} {ns : List Int} (e : Same H H') (h : Scr K H a ns) : Scr K H' a ns := ⟨e.seq h.at', h.few⟩
theorem scCell : FnScope ["script", "k"] ["script", "k"] (defScope sLawCellAt) := ⟨rfl, rfl, rfl, by decide +kernel, rfl, by decide +kernel, by decide +kernel⟩
def spCell (K : PySem.W.Frag) : Sp := fun vs H Q _ => ∃ (a : Addr) (ns : List Int) (k : Int), vs = [.ref a, .int k] ∧ Scr K H a ns ∧ 0 ≤ k ∧ Q (.int (cellOf ns k)) H
theorem ok_cell (T : Txt w K mg D) : FnOk P w K mg base CX0 1 D.aLawCellAt D.dLawCellAt ["script", "k"] (spCell K) := by
  refine T.fLawCellAt.ok scCell (fun vs H Q E h => ?_) (fun cdv A outer s H vs Q E hr h => ?_)
  · obtain ⟨a, ns, k, rfl, _⟩ := h; rfl
  · obtain ⟨a, ns, k, rfl, ⟨hS, h63⟩, h0, q⟩ := h
    have hl : (ns.map V.int).length = ns.length := List.length_map _
    refine ⟨_, pss_cons (ps_if (pt_cmpR op_lt (pv 1) (pe_callB call_len_seq rfl T.zLen PySem.boot_len (pa_cons (pv 0) pa_nil)) (nomark _)) (pss_one (ps_ret (pe_ix ix_list (pv 0) (pv 1) (fun _ _ => rfl)))) pss_nil) (pss_one (ps_ret pe_int)), ?_⟩
    refine ⟨_, rfl, _, rfl, a, _, rfl, .inl hS, _, _, rfl, rfl, _, rfl, ?_⟩
    by_cases c : k < (((ns.map V.int).length : Nat) : Int)
    · have c' := c
      rw [hl] at c'
      obtain ⟨i, hi⟩ : ∃ i : Nat, k = (i : Int) := ⟨k.toNat, by omega⟩
      subst hi
      have hi' : i < ns.length := by omega
      refine iteD c ⟨_, rfl, _, rfl, a, _, _, _, rfl, rfl, hS, atI_nat (v := .int ns[i]) (by rw [List.getElem?_map, List.getElem?_eq_getElem hi']; rfl), ?_⟩
      have e : cellOf ns (i : Int) = ns[i] := by
        unfold cellOf
        rw [if_pos c', Int.toNat_natCast, List.getD_eq_getElem?_getD, List.getElem?_eq_getElem hi']
        rfl
      rw [e] at q
      exact q
    · refine iteDF c ?_
      rw [hl] at c
      have e : cellOf ns k = 0 := by unfold cellOf; rw [if_neg c]
      rw [e] at q
      exact q
theorem scDraw : FnScope ["script", "k", "stir"] ["script", "k"] (defScope sLawDraw) := ⟨rfl, rfl, rfl, by decide +kernel, rfl, by decide +kernel, by decide +kernel⟩
def spDraw (K : PySem.W.Frag) : Sp := fun vs H Q _ => ∃ (a : Addr) (ns : List Int) (k : Int), vs = [.ref a, .int k] ∧ Scr K H a ns ∧ 0 ≤ k ∧ k ≤ 1000000 ∧ Q (.int (drawOf ns k)) H
theorem ok_draw (T : Txt w K mg D) : FnOk P w K mg base CX0 2 D.aLawDraw D.dLawDraw ["script", "k"] (spDraw K) := by
  have G : FnOk P w K mg base CX0 1 D.aLawCellAt D.dLawCellAt ["script", "k"] (spCell K) := ok_cell T
  refine T.fLawDraw.ok scDraw (fun vs H Q E h => ?_) (fun cdv A outer s H vs Q E hr h => ?_)
  · obtain ⟨a, ns, k, rfl, _⟩ := h; rfl
  · obtain ⟨a, ns, k, rfl, hS, h0, h1, q⟩ := h
    refine ⟨_, pss_cons (ps_set (i := 2) scDraw.nd rfl (Or.inl rfl) (pe_op op_mod (pe_op op_mul (pe_op op_add (pe_op op_add (pe_call G hr rfl T.mLawCellAt T.fLawCellAt.kp T.bLawCellAt .nil pass0 (pa_cons (pv 0) (pa_cons (pe_op op_mod (pv 1) pe_int) pa_nil))) (pe_op op_mul pe_int (pv 1))) pe_int) pe_int) pe_int))
      (pss_cons (ps_set (i := 2) scDraw.nd rfl (Or.inl rfl) (pe_op op_mod (pe_op op_mul (pv 2) (pv 2)) pe_int))
      (pss_one (ps_ret (pe_op op_fdiv (pe_op op_mod (pe_op op_mul (pv 2) pe_int) pe_int) pe_int)))), ?_⟩
    refine ⟨_, rfl, _, rfl, _, _, rfl, rfl, (by show (0 : Int) < 61; decide), a, ns, k % 61, rfl, hS, Int.emod_nonneg _ (by decide), _, rfl, _, _, rfl, rfl, .inl ⟨by decide, by decide⟩, _, _, rfl, rfl, _, _, rfl, rfl, _, _, rfl, rfl, .inr ⟨by decide, by decide⟩, _, _, rfl, rfl, (by show (0 : Int) < 2147483647; decide), ?_⟩
    have b0 : 0 ≤ (cellOf ns (k % 61) + 7919 * k + 104729) * 48271 % 2147483647 := Int.emod_nonneg _ (by decide)
    have b1 : (cellOf ns (k % 61) + 7919 * k + 104729) * 48271 % 2147483647 < 2147483647 := Int.emod_lt_of_pos _ (by decide)
    refine ⟨_, rfl, _, rfl, _, _, rfl, rfl, .inl ⟨by omega, by omega⟩, _, _, rfl, rfl, (by show (0 : Int) < 2147483647; decide), ?_⟩
    exact ⟨_, rfl, _, _, rfl, rfl, .inr ⟨by decide, by decide⟩, _, _, rfl, rfl, (by show (0 : Int) < 2147483647; decide), _, _, rfl, rfl, ⟨by decide, by decide⟩, q⟩
theorem scSigns : FnScope ["cell", "some"] ["cell"] (defScope sLawSigns) := ⟨rfl, rfl, rfl, by decide +kernel, rfl, by decide +kernel, by decide +kernel⟩
def spPick (zs : List Str) : Sp := fun vs H Q _ => ∃ c : Int, vs = [.int c] ∧ ∀ z ∈ zs, ∀ H', Same H H' → Q (.str z) H'
theorem ps_setStrs {X : Cx} {i : Nat} {x : Str} {es : List Expr} {p pos pos' : Pos} (zs : List Str) (hN : X.N.Nodup) (hi : X.N[i]? = some x) (hx : Loc X.env.scope x) (hf : X.env.scope.names.lookup x = some .local) (h : strsE es = some zs) : PS X (.Assign [.Name x pos'] (.List es p) pos) (tAsg (tLst (tStrs zs)) (gName i)) :=
  ps_set hN hi hx (pe_strs zs h) rfl (.inr hf)
theorem body_signs : ∃ (es : List Expr) (p1 p2 p3 : Pos), strsE es = some sigs ∧ defBody sLawSigns = .Assign [.Name "some" p1] (.List es p2) p3 :: (defBody sLawSigns).tail := ⟨_, _, _, _, by decide +kernel, rfl⟩
theorem ok_signs (T : Txt w K mg D) : FnOk P w K mg base CX0 1 D.aLawSigns D.dLawSigns ["cell"] (spPick sigs) := by
  refine T.fLawSigns.ok scSigns (fun vs H Q E h => ?_) (fun cdv A outer s H vs Q E hr h => ?_)
  · obtain ⟨c, rfl, _⟩ := h; rfl
  · obtain ⟨c, rfl, q⟩ := h
    obtain ⟨es, p1, p2, p3, he, hb⟩ := body_signs
    rw [hb]
    refine ⟨_, pss_cons (ps_setStrs (i := 1) sigs scSigns.nd rfl (Or.inl rfl) rfl he)
      (pss_one (ps_ret (pe_ix ix_list (pv 1) (pe_op op_mod (pv 0) pe_int) (fun _ _ => rfl)))), ?_⟩
    refine ⟨(by show 10 ≤ sizeLine; decide), fun l hl => ?_⟩
    obtain ⟨z, hz, ez, _⟩ := atI_strs (zs := sigs) (i := c % 10) (Int.emod_nonneg _ (by decide)) (Int.emod_lt_of_pos _ (by decide))
    exact ⟨_, rfl, _, rfl, _, _, rfl, rfl, (by show (0 : Int) < 10; decide), l, sigs.map V.str, _, _, rfl, rfl, SqL.of upd_same, ez, q z hz _ (same_new hl _)⟩
theorem scSayL : FnScope ["cell", "some"] ["cell"] (defScope sLawSay) := ⟨rfl, rfl, rfl, by decide +kernel, rfl, by decide +kernel, by decide +kernel⟩
theorem body_say : ∃ (es : List Expr) (p1 p2 p3 : Pos), strsE es = some says ∧ defBody sLawSay = .Assign [.Name "some" p1] (.List es p2) p3 :: (defBody sLawSay).tail := ⟨_, _, _, _, by decide +kernel, rfl⟩
theorem ok_say (T : Txt w K mg D) : FnOk P w K mg base CX0 1 D.aLawSay D.dLawSay ["cell"] (spPick says) := by
  refine T.fLawSay.ok scSayL (fun vs H Q E h => ?_) (fun cdv A outer s H vs Q E hr h => ?_)
  · obtain ⟨c, rfl, _⟩ := h; rfl
  · obtain ⟨c, rfl, q⟩ := h
    obtain ⟨es, p1, p2, p3, he, hb⟩ := body_say
    rw [hb]
    refine ⟨_, pss_cons (ps_setStrs (i := 1) says scSayL.nd rfl (Or.inl rfl) rfl he)
      (pss_one (ps_ret (pe_ix ix_list (pv 1) (pe_op op_mod (pv 0) pe_int) (fun _ _ => rfl)))), ?_⟩
    refine ⟨(by show 12 ≤ sizeLine; decide), fun l hl => ?_⟩
    obtain ⟨z, hz, ez, _⟩ := atI_strs (zs := says) (i := c % 12) (Int.emod_nonneg _ (by decide)) (Int.emod_lt_of_pos _ (by decide))
    exact ⟨_, rfl, _, rfl, _, _, rfl, rfl, (by show (0 : Int) < 12; decide), l, says.map V.str, _, _, rfl, rfl, SqL.of upd_same, ez, q z hz _ (same_new hl _)⟩
theorem scAskL : FnScope ["script", "k", "name", "most", "cell", "least"] ["script", "k", "name", "most"] (defScope sLawAsk) := ⟨rfl, rfl, rfl, by decide +kernel, rfl, by decide +kernel, by decide +kernel⟩
def spAskL (K : PySem.W.Frag) : Sp := fun vs H Q _ => ∃ (a : Addr) (ns : List Int) (k : Int) (nm : Str) (most : Int), vs = [.ref a, .int k, .str nm, .int most] ∧ Scr K H a ns ∧ 0 ≤ k ∧ k ≤ 1000000 ∧ nm ≠ "" ∧ 0 ≤ most ∧ most ≤ 4 ∧
  ∀ (sg : Str) (lo hi : Int) (u : V) (H' : Hp), Same H H' → (Pc.ask nm sg lo hi).At H' u → (Pc.ask nm sg lo hi).ok → Q u H'
theorem ok_askL (T : Txt w K mg D) : FnOk P w K mg base CX0 3 D.aLawAsk D.dLawAsk ["script", "k", "name", "most"] (spAskL K) := by
  have G : FnOk P w K mg base CX0 2 D.aLawDraw D.dLawDraw ["script", "k"] (spDraw K) := ok_draw T
  have GS : FnOk P w K mg base CX0 1 D.aLawSigns D.dLawSigns ["cell"] (spPick sigs) := ok_signs T
  refine T.fLawAsk.ok scAskL (fun vs H Q E h => ?_) (fun cdv A outer s H vs Q E hr h => ?_)
  · obtain ⟨a, ns, k, nm, most, rfl, _⟩ := h; rfl
  · obtain ⟨a, ns, k, nm, most, rfl, hS, h0, h1, hn, m0, m1, q⟩ := h
    have hr1 : Room 1 _ := hr.mono (by decide)
    refine ⟨_, pss_cons (ps_set (i := 4) scAskL.nd rfl (Or.inl rfl) (pe_call G hr rfl T.mLawDraw T.fLawDraw.kp T.bLawDraw .nil pass0 (pa_cons (pv 0) (pa_cons (pv 1) pa_nil))))
      (pss_cons (ps_set (i := 5) scAskL.nd rfl (Or.inl rfl) (pe_op op_mod (pe_op op_fdiv (pv 4) pe_int) (pe_op op_add (pv 3) pe_int)))
      (pss_one (ps_ret (pe_tup (pa_cons pe_str (pa_cons (pv 2) (pa_cons (pe_call GS hr1 rfl T.mLawSigns T.fLawSigns.kp T.bLawSigns .nil pass0 (pa_cons (pv 4) pa_nil)) (pa_cons (pv 5) (pa_cons (pe_op op_add (pv 5) (pe_op op_mod (pe_op op_fdiv (pv 4) pe_int) (pe_op op_sub (pe_op op_add (pv 3) pe_int) (pv 5)))) pa_nil))))))))), ?_⟩
    refine ⟨_, rfl, _, rfl, a, ns, k, rfl, hS, h0, h1, ?_⟩
    generalize drawOf ns k = c
    refine ⟨_, rfl, _, _, rfl, rfl, ⟨by decide, by decide⟩, _, rfl, _, _, rfl, rfl, _, _, rfl, rfl, (by show 0 < most + 1; omega), ?_⟩
    have l0 : 0 ≤ c / 10 % (most + 1) := Int.emod_nonneg _ (by omega)
    have l1 : c / 10 % (most + 1) < most + 1 := Int.emod_lt_of_pos _ (by omega)
    refine ⟨_, rfl, _, rfl, c, rfl, fun sg hsg H1 e1 => ?_⟩
    refine ⟨_, rfl, _, rfl, _, rfl, _, _, rfl, rfl, ⟨by decide, by decide⟩, _, rfl, _, _, rfl, rfl, _, rfl, _, _, rfl, rfl, _, _, rfl, rfl, (by show 0 < most + 1 - c / 10 % (most + 1); omega), _, _, rfl, rfl, (by show 5 ≤ sizeLine; decide), fun p hp => ?_⟩
    have d0 : 0 ≤ c / 60 % (most + 1 - c / 10 % (most + 1)) := Int.emod_nonneg _ (by omega)
    have d1 : c / 60 % (most + 1 - c / 10 % (most + 1)) < most + 1 - c / 10 % (most + 1) := Int.emod_lt_of_pos _ (by omega)
    refine q sg (c / 10 % (most + 1)) (c / 10 % (most + 1) + c / 60 % (most + 1 - c / 10 % (most + 1))) _ _ (e1.trans (same_new hp _)) ⟨p, rfl, upd_same⟩ ⟨hn, (sigs_ok sg hsg).1, (sigs_ok sg hsg).2, l0, by omega, by omega⟩
end
end Lf

set_option Elab.async false
set_option linter.all false
set_option maxRecDepth 100000
set_option maxHeartbeats 1000000
namespace Lf
open PySem L2
theorem Same.updN {H H' : Hp} {r : Addr} (e : Same H H') (h : H r = none) (o : HO) : Same H (L2.upd H' r o) := fun b u q => by rw [upd_ne (ne_of_none q h)]; exact e b u q
theorem Pc.At.updL {H : Hp} {r : Addr} {us : List V} (hr : H r = some (.lst us)) (o : HO) {p : Pc} {v : V} (h : p.At H v) : p.At (L2.upd H r o) v := by
  obtain ⟨a, rfl, ha⟩ := h
  exact ⟨a, rfl, by rw [upd_ne (ne_of ha hr (by intro z; cases z))]; exact ha⟩
def names3 : List Str := ["who", "day", "w"]
def names6 : List Str := ["who", "w", "day", "first_name = 1?", "whom", "e-mail@"]
theorem n3_nd : names3.Nodup := by decide +kernel
theorem n3_ne : ∀ z ∈ names3, z ≠ "" := by decide +kernel
theorem n3_nn : ("none" : Str) ∉ names3 := by decide +kernel
theorem n6_nn : ("none" : Str) ∉ names6 := by decide +kernel
theorem n6_nd : names6.Nodup := by decide +kernel
theorem n6_ne : ∀ z ∈ names6, z ≠ "" := by decide +kernel
/-- the names so far -/
structure NamesIn (ns : List Str) (L : List Str) : Prop where
  nd : ns.Nodup
  sub : ∀ n ∈ ns, n ∈ L
theorem NamesIn.nil {L : List Str} : NamesIn [] L := ⟨List.nodup_nil, fun _ h => nomatch h⟩
theorem NamesIn.wide {ns L L' : List Str} (h : NamesIn ns L) (s : ∀ n ∈ L, n ∈ L') : NamesIn ns L' := ⟨h.nd, fun n hn => s n (h.sub n hn)⟩
theorem NamesIn.add {ns L L' : List Str} {x : Str} (h : NamesIn ns L) (hx : x ∉ L) (s : ∀ n ∈ L, n ∈ L') (hx' : x ∈ L') : NamesIn (ns ++ [x]) L' := by
  refine ⟨?_, fun n hn => ?_⟩
  · rw [List.nodup_append]
    refine ⟨h.nd, by simp, fun a ha b hb e => ?_⟩
    have : b = x := by simpa using hb
    subst this
    subst e
    exact hx (h.sub _ ha)
  · rcases List.mem_append.mp hn with z | z
    · exact s n (h.sub n z)
    · have : n = x := by simpa using z
      rw [this]; exact hx'
theorem take_sub {α : Type} {l : List α} {i : Nat} : ∀ n ∈ l.take i, n ∈ l.take (i + 1) := fun n hn => (List.take_subset_take_left l (Nat.le_succ i)) hn
theorem nth_new {l : List Str} (nd : l.Nodup) {i : Nat} {z : Str} (h : l[i]? = some z) : z ∉ l.take i ∧ z ∈ l.take (i + 1) := by
  have e := take_snoc h
  have hn : (l.take (i + 1)).Nodup := nd.sublist (List.take_sublist _ _)
  rw [e, List.nodup_append] at hn
  refine ⟨fun hz => hn.2.2 z hz z (by simp) rfl, ?_⟩
  rw [e]; simp
section
variable {P : Program} {w : World} {K : PySem.W.Frag} {mg : Str → Option Value} {base : Heap} {D : Adr}
theorem scInner : FnScope ["script", "k", "many", "most", "names", "row", "j"] ["script", "k", "many", "most"] (defScope sLawInner) := ⟨rfl, rfl, rfl, by decide +kernel, rfl, by decide +kernel, by decide +kernel⟩
def spInner (K : PySem.W.Frag) : Sp := fun vs H Q _ => ∃ (a : Addr) (ns : List Int) (k many most : Int), vs = [.ref a, .int k, .int many, .int most] ∧ Scr K H a ns ∧ 0 ≤ k ∧ k ≤ 900000 ∧ 1 ≤ many ∧ many ≤ 3 ∧ 0 ≤ most ∧ most ≤ 4 ∧
  ∀ (r : Addr) (us : List V) (ps : List Pc) (H' : Hp), Same H H' → H r = none → H' r = some (.lst us) → Paired (Pc.At H') ps us → PartsOk ps → ("none" : Str) ∉ ps.flatMap Pc.nm → Q (.ref r) H'
theorem ok_inner (T : Txt w K mg D) : FnOk P w K mg base CX0 4 D.aLawInner D.dLawInner ["script", "k", "many", "most"] (spInner K) := by
  have G : FnOk P w K mg base CX0 2 D.aLawDraw D.dLawDraw ["script", "k"] (spDraw K) := ok_draw T
  have GS : FnOk P w K mg base CX0 1 D.aLawSay D.dLawSay ["cell"] (spPick says) := ok_say T
  have GA : FnOk P w K mg base CX0 3 D.aLawAsk D.dLawAsk ["script", "k", "name", "most"] (spAskL K) := ok_askL T
  refine T.fLawInner.ok scInner (fun vs H Q E h => ?_) (fun cdv A outer s H vs Q E hr h => ?_)
  · obtain ⟨a, ns, k, many, most, rfl, _⟩ := h; rfl
  · obtain ⟨a, ns, k, many, most, rfl, hS, h0, h1, n1, n2, m0, m1, q⟩ := h
    have hr1 : Room 1 _ := hr.mono (by decide)
    have hr2 : Room 2 _ := hr.mono (by decide)
    refine ⟨_, pss_cons (ps_set (i := 4) scInner.nd rfl (Or.inl rfl) (pe_strs names3 (by decide +kernel)))
      (pss_cons (ps_set (i := 5) scInner.nd rfl (Or.inl rfl) (pe_lst pa_nil))
      (pss_cons (ps_for PassesOwn.never rfl (pi_range1 rfl T.zRange (pa_cons (pe_op op_add pe_int (pe_op op_mod (pe_call G hr2 rfl T.mLawDraw T.fLawDraw.kp T.bLawDraw .nil pass0 (pa_cons (pv 0) (pa_cons (pv 1) pa_nil))) (pv 2))) pa_nil)) (pg_name (i := 6) scInner.nd rfl (Or.inl rfl))
        (pss_one (ps_if (pt_cmpR op_eq (pe_op op_mod (pe_call G hr2 rfl T.mLawDraw T.fLawDraw.kp T.bLawDraw .nil pass0 (pa_cons (pv 0) (pa_cons (pe_op op_add (pe_op op_add (pv 1) pe_int) (pv 6)) pa_nil))) pe_int) pe_int (nomark _))
          (pss_one (ps_expr (pe_bm PySem.F.plainAttrs_list PySem.F.slot_list_append PySem.F.type_list_append mt_append (pv 5) (pa_cons (pe_tup (pa_cons pe_str (pa_cons (pe_call GS hr1 rfl T.mLawSay T.fLawSay.kp T.bLawSay .nil pass0 (pa_cons (pe_call G hr2 rfl T.mLawDraw T.fLawDraw.kp T.bLawDraw .nil pass0 (pa_cons (pv 0) (pa_cons (pe_op op_add (pe_op op_add (pv 1) pe_int) (pv 6)) pa_nil))) pa_nil)) pa_nil))) pa_nil))))
          (pss_one (ps_expr (pe_bm PySem.F.plainAttrs_list PySem.F.slot_list_append PySem.F.type_list_append mt_append (pv 5) (pa_cons (pe_call GA hr rfl T.mLawAsk T.fLawAsk.kp T.bLawAsk .nil pass0 (pa_cons (pv 0) (pa_cons (pe_op op_add (pe_op op_add (pv 1) pe_int) (pv 6)) (pa_cons (pe_ix ix_list (pv 4) (pv 6) (fun _ _ => rfl)) (pa_cons (pv 3) pa_nil))))) pa_nil)))))))
      (pss_one (ps_ret (pv 5))))), ?_⟩
    refine ⟨(by show 3 ≤ sizeLine; decide), fun nl hnl => ⟨(by show 0 ≤ sizeLine; decide), fun r hr' => ?_⟩⟩
    have s1 := same_new hnl (.lst (names3.map V.str))
    have s2 := same_new hr' (.lst [])
    have s12 : Same H _ := s1.trans s2
    have d0 : 0 ≤ drawOf ns k % many := Int.emod_nonneg _ (by omega)
    have d1 : drawOf ns k % many < many := Int.emod_lt_of_pos _ (by omega)
    refine ⟨_, rfl, _, rfl, a, ns, k, rfl, hS.mono s12, h0, by omega, _, rfl, _, _, rfl, rfl, (by show 0 < many; omega), _, _, rfl, rfl, 1 + drawOf ns k % many, rfl, by omega, by omega, ?_⟩
    generalize hn : (1 + drawOf ns k % many).toNat = n
    have hn3 : n ≤ 3 := by omega
    have hn1 : 1 ≤ n := by omega
    refine for_range (lo := 0) (n := n) (fun i σ H' => ∃ (us : List V) (ps : List Pc) (o : Option V), σ = [some (.ref a), some (.int k), some (.int many), some (.int most), some (.ref nl), some (.ref r), o] ∧ Same H H' ∧ H' nl = some (.lst (names3.map V.str)) ∧ H' r = some (.lst us) ∧
      Paired (Pc.At H') ps us ∧ ps.length = i ∧ (∀ p ∈ ps, p.ok) ∧ NamesIn (ps.flatMap Pc.nm) (names3.take i))
      ⟨[], [], none, rfl, s12, s2 _ _ upd_same, upd_same, .nil, rfl, (fun _ z => nomatch z), NamesIn.nil⟩ (fun i σ H' hi e => ?_) (fun σ H' e => ?_)
    · obtain ⟨us, ps, o, rfl, e1, enl, er, ep, el, eo, en⟩ := e
      have hus : us.length = i := by rw [← el]; exact ep.length.symm
      have nr0 : H r = none := s1.free hr'
      have hlen : us.length < sizeLine := small1000 (by omega)
      refine ⟨_, rfl, _, rfl, _, _, rfl, rfl, _, rfl, _, _, rfl, rfl, a, ns, k + 1 + (0 + (i : Int)), rfl, hS.mono e1, by omega, by omega, _, _, rfl, rfl, (by show (0 : Int) < 3; decide), rfl, _, rfl, ?_⟩
      refine ite2 (fun _ => ?_) (fun _ => ?_)
      · refine ⟨_, rfl, .inl ⟨rfl, _, SqL.of er⟩, _, rfl, _, rfl, _, _, rfl, rfl, _, rfl, _, _, rfl, rfl, a, ns, k + 5 + (0 + (i : Int)), rfl, hS.mono e1, by omega, by omega, _, rfl, fun z hz H2 e2 => ⟨(by show 2 ≤ sizeLine; decide), fun p hp => ?_⟩⟩
        have e3 := same_new hp (.tup [.str "say", .str z])
        have er3 := e3 _ _ (e2 _ _ er)
        refine ⟨r, us, .ref p, rfl, rfl, er3, hlen, ?_⟩
        refine ⟨us ++ [.ref p], ps ++ [.say z], _, rfl, Same.updN (e1.trans (e2.trans e3)) nr0 _, ?_, upd_same, ?_, by rw [List.length_append, el]; rfl, ?_, ?_⟩
        · rw [upd_ne (fun z => by rw [z] at enl; rw [er] at enl; cases enl; simp [names3] at hus; omega)]
          exact e3 _ _ (e2 _ _ enl)
        · exact (Paired.mapP ep fun _ _ z => (Pc.At.mono (e2.trans e3) z).updL er3 _).snoc (Pc.At.updL er3 _ ⟨p, rfl, upd_same⟩)
        · intro x hx
          rcases List.mem_append.mp hx with y | y
          · exact eo x y
          · have : x = .say z := by simpa using y
            subst this
            exact says_ok z hz
        · have ef : (ps ++ [Pc.say z]).flatMap Pc.nm = ps.flatMap Pc.nm := by simp [Pc.nm]
          rw [ef]
          exact en.wide take_sub
      · obtain ⟨z, hz, ez, ez'⟩ := atI_strs (zs := names3) (i := 0 + (i : Int)) (by omega) (by show 0 + (i : Int) < 3; omega)
        have ez2 : names3[i]? = some z := by rw [show (0 + (i : Int)).toNat = i by omega] at ez'; exact ez'
        obtain ⟨w1, w2⟩ := nth_new n3_nd ez2
        refine ⟨_, rfl, .inl ⟨rfl, _, SqL.of er⟩, _, rfl, _, rfl, _, _, rfl, rfl, _, rfl, _, _, rfl, rfl, _, rfl, _, rfl, nl, _, _, _, rfl, rfl, SqL.of enl, ez, _, rfl, a, ns, k + 9 + (0 + (i : Int)), z, most, rfl, hS.mono e1, by omega, by omega, n3_ne z hz, m0, m1, fun sg lo hi u H2 e2 at2 ok2 => ?_⟩
        have er2 := e2 _ _ er
        refine ⟨r, us, u, rfl, rfl, er2, hlen, ?_⟩
        refine ⟨us ++ [u], ps ++ [.ask z sg lo hi], _, rfl, Same.updN (e1.trans e2) nr0 _, ?_, upd_same, ?_, by rw [List.length_append, el]; rfl, ?_, ?_⟩
        · rw [upd_ne (fun z => by rw [z] at enl; rw [er] at enl; cases enl; simp [names3] at hus; omega)]
          exact e2 _ _ enl
        · exact (Paired.mapP ep fun _ _ z => (Pc.At.mono e2 z).updL er2 _).snoc (at2.updL er2 _)
        · intro x hx
          rcases List.mem_append.mp hx with y | y
          · exact eo x y
          · have : x = .ask z sg lo hi := by simpa using y
            subst this
            exact ok2
        · have ef : (ps ++ [Pc.ask z sg lo hi]).flatMap Pc.nm = ps.flatMap Pc.nm ++ [z] := by simp [Pc.nm]
          rw [ef]
          exact en.add w1 take_sub w2
    · obtain ⟨us, ps, o, rfl, e1, enl, er, ep, el, eo, en⟩ := e
      exact ⟨_, rfl, q r us ps H' e1 (s1.free hr') er ep ⟨by omega, by omega, eo, en.nd⟩ (fun z => n3_nn (List.mem_of_mem_take (en.sub _ z)))⟩
end
end Lf

set_option Elab.async false
set_option linter.all false
set_option maxRecDepth 100000
set_option maxHeartbeats 1000000
namespace Lf
open PySem L2
/-- the name none is not within -/
def Pie.nn : Pie → Prop
  | .one _ => True
  | .rows _ inner .. => ("none" : Str) ∉ inner.flatMap Pc.nm
/-- as Pie.At, the inner list is not at r -/
def Pie.AtN (r : Addr) (H : Hp) : Pie → V → Prop
  | .one p, v => p.At H v
  | .rows n inner gap lo hi, v => ∃ a l vs, v = .ref a ∧ H a = some (.tup [.str "rows", .str n, .ref l, .str gap, .int lo, .int hi]) ∧ H l = some (.lst vs) ∧ l ≠ r ∧ Paired (Pc.At H) inner vs
theorem Pie.AtN.at' {r : Addr} {H : Hp} : ∀ {p : Pie} {v : V}, p.AtN r H v → p.At H v
  | .one p, v, h => h
  | .rows .., v, ⟨a, l, vs, h1, h2, h3, _, h4⟩ => ⟨a, l, vs, h1, h2, h3, h4⟩
theorem Pie.AtN.mono {r : Addr} {H H' : Hp} (e : Same H H') : ∀ {p : Pie} {v : V}, p.AtN r H v → p.AtN r H' v
  | .one p, v, h => Pc.At.mono (p := p) e h
  | .rows .., v, ⟨a, l, vs, h1, h2, h3, h5, h4⟩ => ⟨a, l, vs, h1, e _ _ h2, e _ _ h3, h5, Paired.mapP h4 fun _ _ q => q.mono e⟩
theorem Pie.AtN.updL {H : Hp} {r : Addr} {us : List V} (hr : H r = some (.lst us)) (o : HO) : ∀ {p : Pie} {v : V}, p.AtN r H v → p.AtN r (L2.upd H r o) v
  | .one p, v, h => Pc.At.updL hr o (p := p) h
  | .rows .., v, ⟨a, l, vs, e, ha, hl, nl, hp⟩ => ⟨a, l, vs, e, by rw [upd_ne (ne_of ha hr (by intro z; cases z))]; exact ha, by rw [upd_ne nl]; exact hl, nl, Paired.mapP hp fun _ _ z => z.updL hr o⟩
theorem Pie.AtF.n {r : Addr} {H0 H : Hp} (hr : H0 r ≠ none) : ∀ {p : Pie} {v : V}, p.AtF H0 H v → p.AtN r H v
  | .one p, v, h => h
  | .rows .., v, ⟨a, l, vs, h1, h2, h3, h5, h4⟩ => ⟨a, l, vs, h1, h2, h3, (fun z => hr (by rw [← z]; exact h5)), h4⟩
section
variable {P : Program} {w : World} {K : PySem.W.Frag} {mg : Str → Option Value} {base : Heap} {D : Adr}
theorem scPiece : FnScope ["script", "k", "name", "most", "cell", "gap", "least", "inner"] ["script", "k", "name", "most"] (defScope sLawPiece) := ⟨rfl, rfl, rfl, by decide +kernel, rfl, by decide +kernel, by decide +kernel⟩
def spPiece (K : PySem.W.Frag) : Sp := fun vs H Q _ => ∃ (a : Addr) (ns : List Int) (k : Int) (nm : Str) (most : Int), vs = [.ref a, .int k, .str nm, .int most] ∧ Scr K H a ns ∧ 0 ≤ k ∧ k ≤ 800000 ∧ nm ≠ "" ∧ 0 ≤ most ∧ most ≤ 4 ∧
  ∀ (p : Pie) (u : V) (H' : Hp), Same H H' → p.AtF H H' u → p.ok → p.nn → (p.nm = [] ∨ p.nm = [nm]) → Q u H'
theorem ok_piece (T : Txt w K mg D) : FnOk P w K mg base CX0 5 D.aLawPiece D.dLawPiece ["script", "k", "name", "most"] (spPiece K) := by
  have G : FnOk P w K mg base CX0 2 D.aLawDraw D.dLawDraw ["script", "k"] (spDraw K) := ok_draw T
  have GS : FnOk P w K mg base CX0 1 D.aLawSay D.dLawSay ["cell"] (spPick says) := ok_say T
  have GA : FnOk P w K mg base CX0 3 D.aLawAsk D.dLawAsk ["script", "k", "name", "most"] (spAskL K) := ok_askL T
  have GI : FnOk P w K mg base CX0 4 D.aLawInner D.dLawInner ["script", "k", "many", "most"] (spInner K) := ok_inner T
  refine T.fLawPiece.ok scPiece (fun vs H Q E h => ?_) (fun cdv A outer s H vs Q E hr h => ?_)
  · obtain ⟨a, ns, k, nm, most, rfl, _⟩ := h; rfl
  · obtain ⟨a, ns, k, nm, most, rfl, hS, h0, h1, hn, m0, m1, q⟩ := h
    have hr1 : Room 1 _ := hr.mono (by decide)
    have hr2 : Room 2 _ := hr.mono (by decide)
    have hr3 : Room 3 _ := hr.mono (by decide)
    refine ⟨_, pss_cons (ps_set (i := 4) scPiece.nd rfl (Or.inl rfl) (pe_call G hr2 rfl T.mLawDraw T.fLawDraw.kp T.bLawDraw .nil pass0 (pa_cons (pv 0) (pa_cons (pv 1) pa_nil))))
      (pss_cons (ps_if (pt_cmpR op_lt (pe_op op_mod (pv 4) pe_int) pe_int (nomark _)) (pss_one (ps_ret (pe_tup (pa_cons pe_str (pa_cons (pe_call GS hr1 rfl T.mLawSay T.fLawSay.kp T.bLawSay .nil pass0 (pa_cons (pe_op op_fdiv (pv 4) pe_int) pa_nil)) pa_nil))))) pss_nil)
      (pss_cons (ps_if (pt_cmpR op_lt (pe_op op_mod (pv 4) pe_int) pe_int (nomark _)) (pss_one (ps_ret (pe_call GA hr3 rfl T.mLawAsk T.fLawAsk.kp T.bLawAsk .nil pass0 (pa_cons (pv 0) (pa_cons (pe_op op_add (pv 1) pe_int) (pa_cons (pv 2) (pa_cons (pv 3) pa_nil))))))) pss_nil)
      (pss_cons (ps_set (i := 5) scPiece.nd rfl (Or.inl rfl) (pe_ix ix_list (pe_strs gaps (by decide +kernel)) (pe_op op_mod (pe_op op_fdiv (pv 4) pe_int) pe_int) (fun _ _ => rfl)))
      (pss_cons (ps_set (i := 6) scPiece.nd rfl (Or.inl rfl) (pe_op op_mod (pe_op op_fdiv (pv 4) pe_int) pe_int))
      (pss_cons (ps_set (i := 7) scPiece.nd rfl (Or.inl rfl) (pe_call GI hr rfl T.mLawInner T.fLawInner.kp T.bLawInner .nil pass0 (pa_cons (pv 0) (pa_cons (pe_op op_add (pv 1) pe_int) (pa_cons pe_int (pa_cons (pv 3) pa_nil))))))
      (pss_one (ps_ret (pe_tup (pa_cons pe_str (pa_cons (pv 2) (pa_cons (pv 7) (pa_cons (pv 5) (pa_cons (pv 6) (pa_cons (pe_op op_add (pv 6) (pe_op op_mod (pe_op op_fdiv (pv 4) pe_int) (pe_op op_sub pe_int (pv 6)))) pa_nil)))))))))))))), ?_⟩
    refine ⟨_, rfl, _, rfl, a, ns, k, rfl, hS, h0, by omega, ?_⟩
    generalize drawOf ns k = c
    refine ⟨_, rfl, _, _, rfl, rfl, (by show (0 : Int) < 5; decide), _, _, rfl, rfl, _, rfl, ite2 (fun _ => ?_) (fun _ => ?_)⟩
    · refine ⟨_, rfl, _, _, rfl, rfl, ⟨by decide, by decide⟩, c / 5, rfl, fun z hz H1 e1 => ⟨(by show 2 ≤ sizeLine; decide), fun p hp => ?_⟩⟩
      exact q (.one (.say z)) _ _ (e1.trans (same_new hp _)) ⟨p, rfl, upd_same⟩ (says_ok z hz) trivial (.inl rfl)
    refine ⟨_, rfl, _, _, rfl, rfl, (by show (0 : Int) < 5; decide), _, _, rfl, rfl, _, rfl, ite2 (fun _ => ?_) (fun _ => ?_)⟩
    · refine ⟨_, rfl, _, rfl, _, _, rfl, rfl, _, rfl, _, rfl, a, ns, k + 1, nm, most, rfl, hS, by omega, by omega, hn, m0, m1, fun sg lo hi u H1 e1 at1 ok1 => ?_⟩
      exact q (.one (.ask nm sg lo hi)) u H1 e1 at1 ok1 trivial (.inr rfl)
    refine ⟨(by show 5 ≤ sizeLine; decide), fun gl hgl => ?_⟩
    obtain ⟨z, hz, ez, _⟩ := atI_strs (zs := gaps) (i := c / 5 % 5) (Int.emod_nonneg _ (by decide)) (Int.emod_lt_of_pos _ (by decide))
    have s1 := same_new hgl (.lst (gaps.map V.str))
    refine ⟨_, rfl, _, _, rfl, rfl, ⟨by decide, by decide⟩, _, _, rfl, rfl, (by show (0 : Int) < 5; decide), gl, _, _, _, rfl, rfl, SqL.of upd_same, ez, ?_⟩
    have l0 : 0 ≤ c / 25 % 4 := Int.emod_nonneg _ (by decide)
    have l1 : c / 25 % 4 < 4 := Int.emod_lt_of_pos _ (by decide)
    have d0 : 0 ≤ c / 100 % (4 - c / 25 % 4) := Int.emod_nonneg _ (by omega)
    have d1 : c / 100 % (4 - c / 25 % 4) < 4 - c / 25 % 4 := Int.emod_lt_of_pos _ (by omega)
    refine ⟨_, rfl, _, _, rfl, rfl, ⟨by decide, by decide⟩, _, _, rfl, rfl, (by show (0 : Int) < 4; decide), ?_⟩
    refine ⟨_, rfl, _, rfl, _, _, rfl, rfl, _, rfl, a, ns, k + 2, 3, most, rfl, hS.mono s1, by omega, by omega, by decide, by decide, m0, m1, fun r us ps H1 e1 nr hr' hp okp nn => ?_⟩
    refine ⟨_, rfl, _, rfl, _, rfl, _, rfl, _, rfl, _, rfl, _, _, rfl, rfl, ⟨by decide, by decide⟩, _, rfl, _, _, rfl, rfl, _, _, rfl, rfl, (by show 0 < 4 - c / 25 % 4; omega), _, _, rfl, rfl, (by show 6 ≤ sizeLine; decide), fun p hp' => ?_⟩
    have s2 := same_new hp' (.tup [.str "rows", .str nm, .ref r, .str z, .int (c / 25 % 4), .int (c / 25 % 4 + c / 100 % (4 - c / 25 % 4))])
    exact q (.rows nm ps z (c / 25 % 4) (c / 25 % 4 + c / 100 % (4 - c / 25 % 4))) _ _ (s1.trans (e1.trans s2)) ⟨p, r, us, rfl, upd_same, s2 _ _ hr', s1.free nr, Paired.mapP hp fun _ _ z => z.mono s2⟩ ⟨hn, okp, gaps_ok z hz, l0, by omega, by omega⟩ nn (.inr rfl)
/-! ### _law_pieces -/
theorem scPieces : FnScope ["script", "many", "most", "names", "pieces", "k", "name"] ["script", "many", "most"] (defScope sLawPieces) := ⟨rfl, rfl, rfl, by decide +kernel, rfl, by decide +kernel, by decide +kernel⟩
def spPieces (K : PySem.W.Frag) : Sp := fun vs H Q _ => ∃ (a : Addr) (ns : List Int) (many most : Int), vs = [.ref a, .int many, .int most] ∧ Scr K H a ns ∧ 1 ≤ many ∧ many ≤ 6 ∧ 0 ≤ most ∧ most ≤ 4 ∧
  ∀ (r : Addr) (us : List V) (ps : List Pie) (H' : Hp), Same H H' → H r = none → H' r = some (.lst us) → Paired (Pie.AtN r H') ps us → FormOk ps → (∀ p ∈ ps, p.nn) → ("none" : Str) ∉ ps.flatMap Pie.nm → Q (.ref r) H'
/-- the name of turn j -/
def nmAt (d : Int) (j : Nat) : Str := names6.getD (((j : Int) + d) % 6).toNat ""
theorem nmAt_get (d : Int) (j : Nat) : names6[(((j : Int) + d) % 6).toNat]? = some (nmAt d j) ∧ nmAt d j ∈ names6 := by
  have h0 : 0 ≤ ((j : Int) + d) % 6 := Int.emod_nonneg _ (by decide)
  have h1 : ((j : Int) + d) % 6 < 6 := Int.emod_lt_of_pos _ (by decide)
  have hk : (((j : Int) + d) % 6).toNat < names6.length := by show _ < 6; omega
  unfold nmAt
  rw [List.getD_eq_getElem?_getD, List.getElem?_eq_getElem hk]
  exact ⟨rfl, List.getElem_mem hk⟩
theorem nmAt_inj (d : Int) {i j : Nat} (hi : i < 6) (hj : j < 6) (e : nmAt d i = nmAt d j) : i = j := by
  have a := (nmAt_get d i).1
  have b := (nmAt_get d j).1
  rw [← e] at b
  have := nodup_ix n6_nd a b
  have i0 : 0 ≤ ((i : Int) + d) % 6 := Int.emod_nonneg _ (by decide)
  have j0 : 0 ≤ ((j : Int) + d) % 6 := Int.emod_nonneg _ (by decide)
  omega
theorem nm_new (d : Int) {i : Nat} (hi : i < 6) : nmAt d i ∉ (List.range i).map (nmAt d) := fun h => by
  obtain ⟨j, hj, e⟩ := List.mem_map.mp h
  have hj' := List.mem_range.mp hj
  have := nmAt_inj d (by omega) hi e
  omega
theorem range_sub {α : Type} {f : Nat → α} {i : Nat} : ∀ n ∈ (List.range i).map f, n ∈ (List.range (i + 1)).map f := fun n hn => by
  obtain ⟨j, hj, e⟩ := List.mem_map.mp hn
  exact List.mem_map.mpr ⟨j, List.mem_range.mpr (Nat.lt_succ_of_lt (List.mem_range.mp hj)), e⟩
theorem ok_pieces (T : Txt w K mg D) : FnOk P w K mg base CX0 6 D.aLawPieces D.dLawPieces ["script", "many", "most"] (spPieces K) := by
  have G : FnOk P w K mg base CX0 2 D.aLawDraw D.dLawDraw ["script", "k"] (spDraw K) := ok_draw T
  have GP : FnOk P w K mg base CX0 5 D.aLawPiece D.dLawPiece ["script", "k", "name", "most"] (spPiece K) := ok_piece T
  refine T.fLawPieces.ok scPieces (fun vs H Q E h => ?_) (fun cdv A outer s H vs Q E hr h => ?_)
  · obtain ⟨a, ns, many, most, rfl, _⟩ := h; rfl
  · obtain ⟨a, ns, many, most, rfl, hS, n1, n2, m0, m1, q⟩ := h
    have hr2 : Room 2 _ := hr.mono (by decide)
    refine ⟨_, pss_cons (ps_set (i := 3) scPieces.nd rfl (Or.inl rfl) (pe_strs names6 (by decide +kernel)))
      (pss_cons (ps_set (i := 4) scPieces.nd rfl (Or.inl rfl) (pe_lst pa_nil))
      (pss_cons (ps_for PassesOwn.never rfl (pi_range1 rfl T.zRange (pa_cons (pe_op op_add pe_int (pe_op op_mod (pe_call G hr2 rfl T.mLawDraw T.fLawDraw.kp T.bLawDraw .nil pass0 (pa_cons (pv 0) (pa_cons pe_int pa_nil))) (pv 1))) pa_nil)) (pg_name (i := 5) scPieces.nd rfl (Or.inl rfl))
        (pss_cons (ps_set (i := 6) scPieces.nd rfl (Or.inl rfl) (pe_ix ix_list (pv 3) (pe_op op_mod (pe_op op_add (pv 5) (pe_call G hr2 rfl T.mLawDraw T.fLawDraw.kp T.bLawDraw .nil pass0 (pa_cons (pv 0) (pa_cons pe_int pa_nil)))) pe_int) (fun _ _ => rfl)))
        (pss_one (ps_expr (pe_bm PySem.F.plainAttrs_list PySem.F.slot_list_append PySem.F.type_list_append mt_append (pv 4) (pa_cons (pe_call GP hr rfl T.mLawPiece T.fLawPiece.kp T.bLawPiece .nil pass0 (pa_cons (pv 0) (pa_cons (pe_op op_add pe_int (pe_op op_mul pe_int (pv 5))) (pa_cons (pv 6) (pa_cons (pv 2) pa_nil))))) pa_nil))))))
      (pss_one (ps_ret (pv 4))))), ?_⟩
    refine ⟨(by show 6 ≤ sizeLine; decide), fun nl hnl => ⟨(by show 0 ≤ sizeLine; decide), fun r hr' => ?_⟩⟩
    have s1 := same_new hnl (.lst (names6.map V.str))
    have s2 := same_new hr' (.lst [])
    have s12 : Same H _ := s1.trans s2
    have d0 : 0 ≤ drawOf ns 1 % many := Int.emod_nonneg _ (by omega)
    have d1 : drawOf ns 1 % many < many := Int.emod_lt_of_pos _ (by omega)
    refine ⟨_, rfl, a, ns, 1, rfl, hS.mono s12, by decide, by decide, _, rfl, _, _, rfl, rfl, (by show 0 < many; omega), _, _, rfl, rfl, 1 + drawOf ns 1 % many, rfl, by omega, by omega, ?_⟩
    generalize hn : (1 + drawOf ns 1 % many).toNat = n
    have hn6 : n ≤ 6 := by omega
    have hn1 : 1 ≤ n := by omega
    refine for_range (lo := 0) (n := n) (fun i σ H' => ∃ (us : List V) (ps : List Pie) (o o' : Option V), σ = [some (.ref a), some (.int many), some (.int most), some (.ref nl), some (.ref r), o, o'] ∧ Same H H' ∧ H' nl = some (.lst (names6.map V.str)) ∧ H' r = some (.lst us) ∧
      Paired (Pie.AtN r H') ps us ∧ ps.length = i ∧ (∀ p ∈ ps, p.ok ∧ p.nn) ∧ NamesIn (ps.flatMap Pie.nm) ((List.range i).map (nmAt (drawOf ns 2))))
      ⟨[], [], none, none, rfl, s12, s2 _ _ upd_same, upd_same, .nil, rfl, (fun _ z => nomatch z), NamesIn.nil⟩ (fun i σ H' hi e => ?_) (fun σ H' e => ?_)
    · obtain ⟨us, ps, o, o', rfl, e1, enl, er, ep, el, eo, en⟩ := e
      have hus : us.length = i := by rw [← el]; exact ep.length.symm
      have nr0 : H r = none := s1.free hr'
      have hlen : us.length < sizeLine := small1000 (by omega)
      obtain ⟨z, hz, ez, ez'⟩ := atI_strs (zs := names6) (i := (0 + (i : Int) + drawOf ns 2) % 6) (Int.emod_nonneg _ (by decide)) (Int.emod_lt_of_pos _ (by decide))
      have ezz : z = nmAt (drawOf ns 2) i := by
        have := (nmAt_get (drawOf ns 2) i).1
        rw [show (0 + (i : Int) + drawOf ns 2) = ((i : Int) + drawOf ns 2) by omega] at ez'
        rw [ez'] at this
        exact Option.some.inj this
      refine ⟨_, rfl, _, rfl, _, rfl, a, ns, 2, rfl, hS.mono e1, by decide, by decide, _, _, rfl, rfl, _, _, rfl, rfl, (by show (0 : Int) < 6; decide), nl, _, _, _, rfl, rfl, SqL.of enl, ez, ?_⟩
      refine ⟨_, rfl, .inl ⟨rfl, _, SqL.of er⟩, _, rfl, _, rfl, _, _, rfl, rfl, .inl ⟨by decide, by decide⟩, _, _, rfl, rfl, _, rfl, _, rfl, a, ns, 10 + 20 * (0 + (i : Int)), z, most, rfl, hS.mono e1, by omega, by omega, n6_ne z hz, m0, m1, fun p u H2 e2 at2 ok2 nn2 nm2 => ?_⟩
      have er2 := e2 _ _ er
      refine ⟨r, us, u, rfl, rfl, er2, hlen, ?_⟩
      have rn : H' r ≠ none := by rw [er]; exact fun z => nomatch z
      refine ⟨us ++ [u], ps ++ [p], _, _, rfl, Same.updN (e1.trans e2) nr0 _, ?_, upd_same, ?_, by rw [List.length_append, el]; rfl, ?_, ?_⟩
      · rw [upd_ne (fun z => by rw [z] at enl; rw [er] at enl; cases enl; simp [names6] at hus; omega)]
        exact e2 _ _ enl
      · exact (Paired.mapP ep fun _ _ z => (Pie.AtN.mono e2 z).updL er2 _).snoc ((Pie.AtF.n rn at2).updL er2 _)
      · intro x hx
        rcases List.mem_append.mp hx with y | y
        · exact eo x y
        · have : x = p := by simpa using y
          subst this
          exact ⟨ok2, nn2⟩
      · have ef : (ps ++ [p]).flatMap Pie.nm = ps.flatMap Pie.nm ++ p.nm := by simp
        rw [ef]
        rcases nm2 with e0 | e0
        · rw [e0, List.append_nil]
          exact en.wide range_sub
        · rw [e0, ezz]
          exact en.add (nm_new _ (by omega)) range_sub (List.mem_map.mpr ⟨i, List.mem_range.mpr (Nat.lt_succ_self _), rfl⟩)
    · obtain ⟨us, ps, o, o', rfl, e1, enl, er, ep, el, eo, en⟩ := e
      refine ⟨_, rfl, q r us ps H' e1 (s1.free hr') er ep ⟨by omega, by omega, fun p hp => (eo p hp).1, en.nd⟩ (fun p hp => (eo p hp).2) (fun z => ?_)⟩
      obtain ⟨j, _, ej⟩ := List.mem_map.mp (en.sub _ z)
      exact n6_nn (ej ▸ (nmAt_get _ j).2)
end
end Lf

set_option Elab.async false
set_option linter.all false
set_option maxRecDepth 100000
set_option maxHeartbeats 1000000
namespace Lf
open PySem L2
section
variable {P : Program} {w : World} {K : PySem.W.Frag} {mg : Str → Option Value} {base : Heap} {D : Adr}
theorem scWord : FnScope ["script", "k", "piece", "size", "word", "j"] ["script", "k", "piece"] (defScope sLawWord) := ⟨rfl, rfl, rfl, by decide +kernel, rfl, by decide +kernel, by decide +kernel⟩
def spWord (K : PySem.W.Frag) : Sp := fun vs H Q _ => ∃ (a : Addr) (ns : List Int) (k : Int) (v : V) (n sg : Str) (lo hi : Int), vs = [.ref a, .int k, v] ∧ Scr K H a ns ∧ 0 ≤ k ∧ k ≤ 900000 ∧ (Pc.ask n sg lo hi).At H v ∧ (Pc.ask n sg lo hi).ok ∧ ∀ t, Fits sg lo hi t → Q (.str t) H
theorem snoc_cps (t : Str) (c : Nat) : (t ++ (⟨#[c]⟩ : Str)).cps.toList = t.cps.toList ++ [c] := by
  show (t.cps ++ #[c]).toList = _
  simp
theorem ok_word (T : Txt w K mg D) : FnOk P w K mg base CX0 3 D.aLawWord D.dLawWord ["script", "k", "piece"] (spWord K) := by
  have G : FnOk P w K mg base CX0 2 D.aLawDraw D.dLawDraw ["script", "k"] (spDraw K) := ok_draw T
  refine T.fLawWord.ok scWord (fun vs H Q E h => ?_) (fun cdv A outer s H vs Q E hr h => ?_)
  · obtain ⟨a, ns, k, v, n, sg, lo, hi, rfl, _⟩ := h; rfl
  · obtain ⟨a, ns, k, v, n, sg, lo, hi, rfl, hS, h0, h1, ⟨p, rfl, hp⟩, ⟨hn, hsg, hnd, b0, b1, b2⟩, q⟩ := h
    refine ⟨_, pss_cons (ps_set (i := 3) scWord.nd rfl (Or.inl rfl) (pe_op op_add (pe_ix ix_tup (pv 2) pe_int (fun _ _ => rfl)) (pe_op op_mod (pe_call G hr rfl T.mLawDraw T.fLawDraw.kp T.bLawDraw .nil pass0 (pa_cons (pv 0) (pa_cons (pv 1) pa_nil))) (pe_op op_add (pe_op op_sub (pe_ix ix_tup (pv 2) pe_int (fun _ _ => rfl)) (pe_ix ix_tup (pv 2) pe_int (fun _ _ => rfl))) pe_int))))
      (pss_cons (ps_set (i := 4) scWord.nd rfl (Or.inl rfl) pe_str)
      (pss_cons (ps_for PassesOwn.never rfl (pi_range1 rfl T.zRange (pa_cons (pv 3) pa_nil)) (pg_name (i := 5) scWord.nd rfl (Or.inl rfl))
        (pss_one (ps_set (i := 4) scWord.nd rfl (Or.inl rfl) (pe_op op_add_str (pv 4) (pe_ix ix_str (pe_ix ix_tup (pv 2) pe_int (fun _ _ => rfl)) (pe_op op_mod (pe_call G hr rfl T.mLawDraw T.fLawDraw.kp T.bLawDraw .nil pass0 (pa_cons (pv 0) (pa_cons (pe_op op_add (pe_op op_add (pv 1) pe_int) (pv 5)) pa_nil))) (pe_callB call_len_str rfl T.zLen PySem.boot_len (pa_cons (pe_ix ix_tup (pv 2) pe_int (fun _ _ => rfl)) pa_nil))) (fun _ _ => rfl))))))
      (pss_one (ps_ret (pv 4))))), ?_⟩
    have d0 : 0 ≤ drawOf ns k % (hi - lo + 1) := Int.emod_nonneg _ (by omega)
    have d1 : drawOf ns k % (hi - lo + 1) < hi - lo + 1 := Int.emod_lt_of_pos _ (by omega)
    refine ⟨_, rfl, p, _, _, _, rfl, rfl, SqT.of hp, rfl, _, rfl, _, rfl, a, ns, k, rfl, hS, h0, by omega, _, rfl, p, _, _, _, rfl, rfl, SqT.of hp, rfl, _, rfl, p, _, _, _, rfl, rfl, SqT.of hp, rfl, _, _, rfl, rfl, _, _, rfl, rfl, _, _, rfl, rfl, (by show 0 < hi - lo + 1; omega), _, _, rfl, rfl, ?_⟩
    have hz1 : 1 ≤ sg.length := hsg.lo
    have hz2 : sg.length ≤ 20 := hsg.hi
    refine ⟨_, rfl, lo + drawOf ns k % (hi - lo + 1), rfl, by omega, by omega, ?_⟩
    generalize hm : (lo + drawOf ns k % (hi - lo + 1)).toNat = m
    refine for_range (lo := 0) (n := m) (fun i σ H' => H' = H ∧ ∃ (t : Str) (o : Option V), σ = [some (.ref a), some (.int k), some (.ref p), some (.int (lo + drawOf ns k % (hi - lo + 1))), some (.str t), o] ∧ t.length = i ∧ ∀ c ∈ t.cps.toList, c ∈ sg.cps.toList)
      ⟨rfl, "", none, rfl, rfl, (fun c h => nomatch h)⟩ (fun i σ H' hi' e => ?_) (fun σ H' e => ?_)
    · obtain ⟨rfl, t, o, rfl, el, ec⟩ := e
      have hd0 : 0 ≤ drawOf ns (k + 1 + (0 + (i : Int))) % (sg.length : Int) := Int.emod_nonneg _ (by omega)
      have hd1 : drawOf ns (k + 1 + (0 + (i : Int))) % (sg.length : Int) < (sg.length : Int) := Int.emod_lt_of_pos _ (by omega)
      obtain ⟨c, hc, eat, _⟩ := atI_in (xs := sg.cps.toList) hd0 (by rw [show sg.cps.toList.length = sg.length by simp [Str.length]]; exact hd1)
      refine ⟨_, rfl, _, rfl, p, _, _, _, rfl, rfl, SqT.of hp, rfl, _, rfl, _, rfl, _, _, rfl, rfl, _, rfl, _, _, rfl, rfl, a, ns, k + 1 + (0 + (i : Int)), rfl, hS, by omega, by omega, _, rfl, p, _, _, _, rfl, rfl, SqT.of hp, rfl, sg, rfl, small (by omega), _, _, rfl, rfl, (by show 0 < (sg.length : Int); omega), sg, _, c, rfl, rfl, small (by omega), eat, t, ⟨#[c]⟩, rfl, rfl, small (by show t.length + 1 ≤ 1000; omega), ?_⟩
      refine ⟨rfl, t ++ ⟨#[c]⟩, _, rfl, by rw [strLen_append, el]; rfl, fun x hx => ?_⟩
      rw [snoc_cps] at hx
      rcases List.mem_append.mp hx with z | z
      · exact ec x z
      · have : x = c := by simpa using z
        rw [this]; exact hc
    · obtain ⟨rfl, t, o, rfl, el, ec⟩ := e
      exact ⟨_, rfl, q t ⟨by omega, by omega, ec⟩⟩
end
end Lf

set_option Elab.async false
set_option linter.all false
set_option maxRecDepth 100000
set_option maxHeartbeats 1000000
namespace Lf
open PySem L2
/-- the texts of a dict -/
def rowOf (kvs : List (Key × V)) : Row := fun n => match valV kvs (Sum.inr n) with | some (.str t) => some t | _ => none
theorem rowOf_some {kvs : List (Key × V)} {n t : Str} (h : rowOf kvs n = some t) : valV kvs (Sum.inr n) = some (.str t) := by
  unfold rowOf at h
  cases e : valV kvs (Sum.inr n : Key) with
  | none => rw [e] at h; cases h
  | some v =>
    rw [e] at h
    cases v <;> first | (cases h; rfl) | cases h
theorem rowOf_of {kvs : List (Key × V)} {n t : Str} (h : valV kvs (Sum.inr n) = some (.str t)) : rowOf kvs n = some t := by unfold rowOf; rw [h]
structure RowOk (kvs : List (Key × V)) : Prop where
  txt : ∀ p ∈ kvs, (∃ n, p.1 = Sum.inr n) ∧ ∃ t, p.2 = .str t
  few : kvs.length ≤ 10
  nd : (kvs.map (·.1)).Nodup
theorem RowOk.nil : RowOk [] := ⟨fun _ h => (nomatch h), Nat.zero_le _, List.nodup_nil⟩
theorem RowOk.put {kvs : List (Key × V)} {n t : Str} (h : RowOk kvs) (hn : valV kvs (Sum.inr n) = none) (hl : kvs.length < 10) : RowOk (putK kvs (Sum.inr n) (.str t)) := by
  refine ⟨fun p hp => ?_, ?_, nd_putK _ h.nd hn⟩
  · rw [putK_new _ hn] at hp
    rcases List.mem_append.mp hp with z | z
    · exact h.txt p z
    · have : p = (Sum.inr n, .str t) := by simpa using z
      subst this
      exact ⟨⟨n, rfl⟩, t, rfl⟩
  · rw [putK_new _ hn, List.length_append]
    exact hl
theorem rowOf_put {kvs : List (Key × V)} {n t m : Str} : rowOf (putK kvs (Sum.inr n) (.str t)) m = if m = n then some t else rowOf kvs m := by
  unfold rowOf
  rw [valV_put]
  by_cases e : m = n
  · subst e; simp
  · have : ¬ (Sum.inr m : Key) = Sum.inr n := fun z => e (Sum.inr.inj z)
    rw [if_neg this, if_neg e]
theorem FitPc.other {kvs : List (Key × V)} {n t : Str} {p : Pc} (hn : n ∉ p.nm) (h : FitPc (rowOf kvs) p) : FitPc (rowOf (putK kvs (Sum.inr n) (.str t))) p := by
  cases p with
  | say _ => trivial
  | ask m sg lo hi =>
    obtain ⟨u, e, f⟩ := h
    refine ⟨u, ?_, f⟩
    rw [rowOf_put, if_neg (fun z => hn (by rw [← z]; exact List.mem_singleton.mpr rfl))]
    exact e
theorem RowAt.of {H : Hp} {d : Addr} {kvs : List (Key × V)} (h : H d = some (.dK kvs)) : RowAt H (rowOf kvs) (.ref d) := ⟨d, kvs, rfl, .inl h, fun _ _ e => rowOf_some e⟩
theorem flat_take {α : Type} {f : α → List Str} {l : List α} {i : Nat} {x : α} (h : l[i]? = some x) (nd : (l.flatMap f).Nodup) : ∀ n ∈ f x, n ∉ (l.take i).flatMap f := by
  intro n hn hm
  have e : l = l.take i ++ (x :: l.drop (i + 1)) := by
    have hi := (List.getElem?_eq_some_iff.mp h).1
    have hx : l[i] = x := (List.getElem?_eq_some_iff.mp h).2
    rw [← hx, ← List.drop_eq_getElem_cons hi, List.take_append_drop]
  rw [e, List.flatMap_append, List.flatMap_cons, List.nodup_append] at nd
  exact nd.2.2 n hm n (List.mem_append_left _ hn) rfl
section
variable {P : Program} {w : World} {K : PySem.W.Frag} {mg : Str → Option Value} {base : Heap} {D : Adr}
theorem scRowL : FnScope ["script", "k", "pieces", "values", "j"] ["script", "k", "pieces"] (defScope sLawRow) := ⟨rfl, rfl, rfl, by decide +kernel, rfl, by decide +kernel, by decide +kernel⟩
def spRowL (K : PySem.W.Frag) : Sp := fun vs H Q _ => ∃ (a l : Addr) (ns : List Int) (k : Int) (us : List V) (ps : List Pc), vs = [.ref a, .int k, .ref l] ∧ Scr K H a ns ∧ 0 ≤ k ∧ k ≤ 800000 ∧ H l = some (.lst us) ∧ Paired (Pc.At H) ps us ∧ PartsOk ps ∧
  ∀ (d : Addr) (kvs : List (Key × V)), H d = none → RowOk kvs → kvs.length ≤ 3 → FitRow ps (rowOf kvs) → (∀ n, valV kvs (Sum.inr n) ≠ none → n ∈ ps.flatMap Pc.nm) → Q (.ref d) (L2.upd H d (.dK kvs))
theorem ok_rowL (T : Txt w K mg D) : FnOk P w K mg base CX0 4 D.aLawRow D.dLawRow ["script", "k", "pieces"] (spRowL K) := by
  have G : FnOk P w K mg base CX0 3 D.aLawWord D.dLawWord ["script", "k", "piece"] (spWord K) := ok_word T
  refine T.fLawRow.ok scRowL (fun vs H Q E h => ?_) (fun cdv A outer s H vs Q E hr h => ?_)
  · obtain ⟨a, l, ns, k, us, ps, rfl, _⟩ := h; rfl
  · obtain ⟨a, l, ns, k, us, ps, rfl, hS, h0, h1, hl, hp, ok, q⟩ := h
    have hu := hu_of hr
    have hus : us.length = ps.length := hp.length.symm
    have h3 := ok.hi
    refine ⟨_, pss_cons (ps_set (i := 3) scRowL.nd rfl (Or.inl rfl) pe_dnewK)
      (pss_cons (ps_for PassesOwn.never rfl (pi_range1 rfl T.zRange (pa_cons (pe_callB call_len_seq rfl T.zLen PySem.boot_len (pa_cons (pv 2) pa_nil)) pa_nil)) (pg_name (i := 4) scRowL.nd rfl (Or.inl rfl))
        (pss_one (ps_if (pt_cmpR op_eq (pe_ix ix_tup (pe_ix ix_list (pv 2) (pv 4) (fun _ _ => rfl)) pe_int (fun _ _ => rfl)) pe_str (nomark _))
          (pss_one (ps_dput hu (pv 3) (pe_ix ix_tup (pe_ix ix_list (pv 2) (pv 4) (fun _ _ => rfl)) pe_int (fun _ _ => rfl)) (pe_call G hr rfl T.mLawWord T.fLawWord.kp T.bLawWord .nil pass0 (pa_cons (pv 0) (pa_cons (pe_op op_add (pv 1) (pe_op op_mul pe_int (pv 4))) (pa_cons (pe_ix ix_list (pv 2) (pv 4) (fun _ _ => rfl)) pa_nil)))) rfl)) pss_nil)))
      (pss_one (ps_ret (pv 3)))), ?_⟩
    intro d hd
    have s1 := same_new hd (.dK [])
    refine ⟨_, rfl, l, us, rfl, .inl (SqL.of (s1 _ _ hl)), _, rfl, by omega, by omega, ?_⟩
    rw [Int.toNat_natCast]
    refine for_range (lo := 0) (n := us.length) (fun i σ H' => ∃ (kvs : List (Key × V)) (o : Option V), σ = [some (.ref a), some (.int k), some (.ref l), some (.ref d), o] ∧ H' = L2.upd H d (.dK kvs) ∧ RowOk kvs ∧ kvs.length ≤ i ∧ (∀ p ∈ ps.take i, FitPc (rowOf kvs) p) ∧ ∀ n, valV kvs (Sum.inr n) ≠ none → n ∈ (ps.take i).flatMap Pc.nm)
      ⟨[], none, rfl, rfl, RowOk.nil, Nat.le_refl _, (fun _ z => nomatch z), (fun n z => absurd rfl z)⟩ (fun i σ H' hi e => ?_) (fun σ H' e => ?_)
    · obtain ⟨kvs, o, rfl, rfl, rok, rl, rf, rn⟩ := e
      have s2 := same_new hd (.dK kvs)
      have hx : us[i]? = some us[i] := List.getElem?_eq_getElem hi
      obtain ⟨p, ep, pat⟩ := Paired.two hp hx
      have hat : atI us (0 + (i : Int)) = some us[i] := by rw [Int.zero_add]; exact atI_nat hx
      have okp := ok.all p (List.mem_of_getElem? ep)
      have fresh := flat_take (f := Pc.nm) ep ok.nd
      have tk := take_snoc ep
      obtain ⟨b, eb, hb⟩ := pat
      rw [eb] at hat
      cases p with
      | say z =>
        refine ⟨_, rfl, _, rfl, l, us, _, _, rfl, rfl, SqL.of (s2 _ _ hl), hat, b, _, _, _, rfl, rfl, SqT.of (s2 _ _ hb), rfl, rfl, _, rfl, iteDF ne_as.symm ?_⟩
        refine ⟨kvs, _, rfl, rfl, rok, by omega, fun x hx' => ?_, fun n hn => ?_⟩
        · rw [tk] at hx'
          rcases List.mem_append.mp hx' with y | y
          · exact rf x y
          · have : x = .say z := by simpa using y
            subst this; trivial
        · rw [tk, List.flatMap_append]; exact List.mem_append_left _ (rn n hn)
      | ask m sg lo hi' =>
        have hm := fresh m (List.mem_singleton.mpr rfl)
        have hnone : valV kvs (Sum.inr m : Key) = none := by
          cases z : valV kvs (Sum.inr m : Key) with
          | none => rfl
          | some v => exact absurd (rn m (by rw [z]; exact fun y => nomatch y)) hm
        refine ⟨_, rfl, _, rfl, l, us, _, _, rfl, rfl, SqL.of (s2 _ _ hl), hat, b, _, _, _, rfl, rfl, SqT.of (s2 _ _ hb), rfl, rfl, _, rfl, iteD rfl ?_⟩
        refine ⟨_, rfl, _, rfl, _, rfl, _, _, rfl, rfl, .inl ⟨by decide, by decide⟩, _, _, rfl, rfl, _, rfl, _, rfl, l, us, _, _, rfl, rfl, SqL.of (s2 _ _ hl), hat, a, ns, k + 6 * (0 + (i : Int)), _, m, sg, lo, hi', rfl, hS.mono s2, by omega, by omega, ⟨b, rfl, s2 _ _ hb⟩, okp, fun t ft => ?_⟩
        refine ⟨_, rfl, _, rfl, _, rfl, l, us, _, _, rfl, rfl, SqL.of (s2 _ _ hl), hat, b, _, _, _, rfl, rfl, SqT.of (s2 _ _ hb), rfl, d, _, rfl, DPut.k (k := Sum.inr m) upd_same (small1000 (by omega)), ?_⟩
        refine ⟨putK kvs (Sum.inr m) (.str t), _, rfl, upd_upd_same, rok.put hnone (by omega), Nat.le_trans (length_putK _ _ _) (by omega), fun x hx' => ?_, fun n hn => ?_⟩
        · rw [tk] at hx'
          rcases List.mem_append.mp hx' with y | y
          · exact FitPc.other (fun z => hm (List.mem_flatMap.mpr ⟨x, y, z⟩)) (rf x y)
          · have : x = .ask m sg lo hi' := by simpa using y
            subst this
            exact ⟨t, by rw [rowOf_put, if_pos rfl], ft⟩
        · rw [tk, List.flatMap_append]
          rw [valV_put] at hn
          by_cases z : (Sum.inr n : Key) = Sum.inr m
          · rw [Sum.inr.inj z]
            exact List.mem_append_right _ (by simp [Pc.nm])
          · rw [if_neg z] at hn
            exact List.mem_append_left _ (rn n hn)
    · obtain ⟨kvs, o, rfl, rfl, rok, rl, rf, rn⟩ := e
      rw [hus, List.take_length] at rf rn
      exact ⟨_, rfl, q d kvs hd rok (by omega) rf rn⟩
end
end Lf

set_option Elab.async false
set_option linter.all false
set_option maxRecDepth 100000
set_option maxHeartbeats 1000000
namespace Lf
open PySem L2
def kNone : Key := Sum.inr "none"
/-- a row of the values: its texts fit, and besides there may stand none -/
structure RowG (inner : List Pc) (rk : List (Key × V)) : Prop where
  ok : RowOk rk
  few : rk.length ≤ 3 ∨ (rk.length ≤ 4 ∧ valV rk kNone ≠ none)
  fit : FitRow inner (rowOf rk)
/-- an item of a list of rows: no dict of those in d -/
def RowsG (H : Hp) (d : Addr) (inner : List Pc) (us : List V) : Prop := ∀ u ∈ us, ∃ a rk, u = .ref a ∧ a ≠ d ∧ H a = some (.dK rk) ∧ RowG inner rk
def ValF (H : Hp) (d : Addr) (kvs : List (Key × V)) : Pie → Prop
  | .one (.say _) => True
  | .one (.ask n sg lo hi) => ∃ t, valV kvs (Sum.inr n) = some (.str t) ∧ Fits sg lo hi t
  | .rows n inner _ lo hi => ∃ l us, valV kvs (Sum.inr n) = some (.ref l) ∧ H l = some (.lst us) ∧ lo ≤ (us.length : Int) ∧ (us.length : Int) ≤ hi ∧ RowsG H d inner us
/-- every value is a text or a list of rows -/
def VOk (H : Hp) (d : Addr) (v : V) : Prop := (∃ t, v = .str t) ∨ ∃ l us inner, v = .ref l ∧ H l = some (.lst us) ∧ us.length ≤ 3 ∧ RowsG H d inner us
structure DatOk (H : Hp) (d : Addr) (kvs : List (Key × V)) : Prop where
  all : ∀ p ∈ kvs, (∃ n, p.1 = Sum.inr n) ∧ VOk H d p.2
  nd : (kvs.map (·.1)).Nodup
theorem RowsG.mono {H H' : Hp} (e : Same H H') {d : Addr} {inner : List Pc} {us : List V} (h : RowsG H d inner us) : RowsG H' d inner us := fun u hu => by
  obtain ⟨a, rk, h1, h2, h3, h4⟩ := h u hu
  exact ⟨a, rk, h1, h2, e _ _ h3, h4⟩
theorem RowsG.upd {H : Hp} {d : Addr} {o : HO} {inner : List Pc} {us : List V} (h : RowsG H d inner us) : RowsG (L2.upd H d o) d inner us := fun u hu => by
  obtain ⟨a, rk, h1, h2, h3, h4⟩ := h u hu
  exact ⟨a, rk, h1, h2, by rw [upd_ne h2]; exact h3, h4⟩
theorem VOk.mono {H H' : Hp} (e : Same H H') {d : Addr} {v : V} (h : VOk H d v) : VOk H' d v := by
  rcases h with h | ⟨l, us, inner, h1, h2, h3, h4⟩
  · exact .inl h
  · exact .inr ⟨l, us, inner, h1, e _ _ h2, h3, h4.mono e⟩
theorem VOk.upd {H : Hp} {d : Addr} {ks : List (Key × V)} (hd : H d = some (.dK ks)) {o : HO} {v : V} (h : VOk H d v) : VOk (L2.upd H d o) d v := by
  rcases h with h | ⟨l, us, inner, h1, h2, h3, h4⟩
  · exact .inl h
  · exact .inr ⟨l, us, inner, h1, by rw [upd_ne (ne_of h2 hd (by intro z; cases z))]; exact h2, h3, h4.upd⟩
theorem DatOk.mono {H H' : Hp} (e : Same H H') {d : Addr} {kvs : List (Key × V)} (h : DatOk H d kvs) : DatOk H' d kvs := ⟨fun p hp => ⟨(h.all p hp).1, (h.all p hp).2.mono e⟩, h.nd⟩
theorem ValF.mono {H H' : Hp} (e : Same H H') {d : Addr} {kvs : List (Key × V)} : ∀ {p : Pie}, ValF H d kvs p → ValF H' d kvs p
  | .one (.say _), _ => trivial
  | .one (.ask ..), h => h
  | .rows .., ⟨l, us, h1, h2, h3, h4, h5⟩ => ⟨l, us, h1, e _ _ h2, h3, h4, h5.mono e⟩
theorem valV_other {kvs : List (Key × V)} {n m : Str} {v : V} (h : m ≠ n) : valV (putK kvs (Sum.inr n) v) (Sum.inr m) = valV kvs (Sum.inr m) := by
  rw [valV_put, if_neg fun z => h (Sum.inr.inj z)]
theorem valV_this {kvs : List (Key × V)} {n : Str} {v : V} : valV (putK kvs (Sum.inr n) v) (Sum.inr n) = some v := by rw [valV_put, if_pos rfl]
/-- another name is put -/
theorem ValF.put {H : Hp} {d : Addr} {ks kvs : List (Key × V)} (hd : H d = some (.dK ks)) {n : Str} {v : V} {o : HO} : ∀ {p : Pie}, n ∉ p.nm → ValF H d kvs p → ValF (L2.upd H d o) d (putK kvs (Sum.inr n) v) p
  | .one (.say _), _, _ => trivial
  | .one (.ask m ..), hn, ⟨t, h1, h2⟩ => ⟨t, by rw [valV_other (fun z => hn (by rw [← z]; exact List.mem_singleton.mpr rfl))]; exact h1, h2⟩
  | .rows m .., hn, ⟨l, us, h1, h2, h3, h4, h5⟩ => ⟨l, us, by rw [valV_other (fun z => hn (by rw [← z]; exact List.mem_singleton.mpr rfl))]; exact h1, by rw [upd_ne (ne_of h2 hd (by intro z; cases z))]; exact h2, h3, h4, h5.upd⟩
theorem DatOk.put {H : Hp} {d : Addr} {kvs : List (Key × V)} (hd : H d = some (.dK kvs)) {n : Str} {v : V} {o : HO} (h : DatOk H d kvs) (hn : valV kvs (Sum.inr n) = none) (hv : VOk H d v) : DatOk (L2.upd H d o) d (putK kvs (Sum.inr n) v) := by
  refine ⟨fun p hp => ?_, nd_putK _ h.nd hn⟩
  rw [putK_new _ hn] at hp
  rcases List.mem_append.mp hp with z | z
  · exact ⟨(h.all p z).1, (h.all p z).2.upd hd⟩
  · have : p = (Sum.inr n, v) := by simpa using z
    subst this
    exact ⟨⟨n, rfl⟩, hv.upd hd⟩
/-- behind i pieces -/
structure Half (H H' : Hp) (d : Addr) (kvs : List (Key × V)) (ps : List Pie) : Prop where
  same : Same H H'
  here : H' d = some (.dK kvs)
  dat : DatOk H' d kvs
  few : kvs.length ≤ ps.length
  val : ∀ p ∈ ps, ValF H' d kvs p
  nms : ∀ n, valV kvs (Sum.inr n) ≠ none → n ∈ ps.flatMap Pie.nm
theorem Half.mono {H H' H2 : Hp} {d : Addr} {kvs : List (Key × V)} {ps : List Pie} (e : Same H' H2) (h : Half H H' d kvs ps) : Half H H2 d kvs ps :=
  ⟨h.same.trans e, e _ _ h.here, h.dat.mono e, h.few, fun p hp => (h.val p hp).mono e, h.nms⟩
theorem Half.say {H H' : Hp} {d : Addr} {kvs : List (Key × V)} {ps : List Pie} (h : Half H H' d kvs ps) (z : Str) : Half H H' d kvs (ps ++ [.one (.say z)]) := by
  refine ⟨h.same, h.here, h.dat, by rw [List.length_append]; exact Nat.le_trans h.few (Nat.le_add_right _ _), fun p hp => ?_, fun n hn => ?_⟩
  · rcases List.mem_append.mp hp with y | y
    · exact h.val p y
    · have : p = .one (.say z) := by simpa using y
      subst this; trivial
  · rw [List.flatMap_append]; exact List.mem_append_left _ (h.nms n hn)
theorem Half.put {H H' : Hp} {d : Addr} {kvs : List (Key × V)} {ps : List Pie} {p : Pie} {n : Str} {v : V} (h : Half H H' d kvs ps) (h0 : H d = none) (hp : p.nm = [n]) (hn : n ∉ ps.flatMap Pie.nm) (hv : VOk H' d v)
    (hval : ValF (L2.upd H' d (.dK (putK kvs (Sum.inr n) v))) d (putK kvs (Sum.inr n) v) p) : Half H (L2.upd H' d (.dK (putK kvs (Sum.inr n) v))) d (putK kvs (Sum.inr n) v) (ps ++ [p]) := by
  have hnone : valV kvs (Sum.inr n : Key) = none := by
    cases z : valV kvs (Sum.inr n : Key) with
    | none => rfl
    | some v => exact absurd (h.nms n (by rw [z]; exact fun y => nomatch y)) hn
  refine ⟨Same.updN h.same h0 _, upd_same, h.dat.put h.here hnone hv, ?_, fun x hx => ?_, fun m hm => ?_⟩
  · rw [putK_new _ hnone, List.length_append, List.length_append]
    exact Nat.add_le_add_right h.few 1
  · rcases List.mem_append.mp hx with y | y
    · exact (h.val x y).put h.here (fun z => hn (List.mem_flatMap.mpr ⟨x, y, z⟩))
    · have : x = p := by simpa using y
      subst this; exact hval
  · rw [List.flatMap_append]
    rw [valV_put] at hm
    by_cases z : (Sum.inr m : Key) = Sum.inr n
    · rw [Sum.inr.inj z]
      exact List.mem_append_right _ (by simp [hp])
    · rw [if_neg z] at hm
      exact List.mem_append_left _ (h.nms m hm)
theorem Half.nil {H : Hp} {d : Addr} (hd : H d = none) : Half H (L2.upd H d (.dK [])) d [] [] := ⟨same_new hd _, upd_same, ⟨(fun _ z => nomatch z), List.nodup_nil⟩, Nat.le_refl _, (fun _ z => nomatch z), fun n z => absurd rfl z⟩
section
variable {P : Program} {w : World} {K : PySem.W.Frag} {mg : Str → Option Value} {base : Heap} {D : Adr}
theorem scValues : FnScope ["script", "start", "pieces", "values", "k", "piece", "here", "many", "row"] ["script", "start", "pieces"] (defScope sLawValues) := ⟨rfl, rfl, rfl, by decide +kernel, rfl, by decide +kernel, by decide +kernel⟩
def spValues (K : PySem.W.Frag) : Sp := fun vs H Q _ => ∃ (a l : Addr) (ns : List Int) (st : Int) (us : List V) (ps : List Pie), vs = [.ref a, .int st, .ref l] ∧ Scr K H a ns ∧ 0 ≤ st ∧ st ≤ 1000 ∧ H l = some (.lst us) ∧ Paired (Pie.At H) ps us ∧ FormOk ps ∧
  ∀ (d : Addr) (kvs : List (Key × V)) (H' : Hp), Same H H' → H d = none → H' d = some (.dK kvs) → DatOk H' d kvs → kvs.length ≤ 6 → (∀ p ∈ ps, ValF H' d kvs p) → (∀ n, valV kvs (Sum.inr n) ≠ none → n ∈ ps.flatMap Pie.nm) → Q (.ref d) H'
theorem ok_values (T : Txt w K mg D) : FnOk P w K mg base CX0 5 D.aLawValues D.dLawValues ["script", "start", "pieces"] (spValues K) := by
  have G : FnOk P w K mg base CX0 2 D.aLawDraw D.dLawDraw ["script", "k"] (spDraw K) := ok_draw T
  have GW : FnOk P w K mg base CX0 3 D.aLawWord D.dLawWord ["script", "k", "piece"] (spWord K) := ok_word T
  have GR : FnOk P w K mg base CX0 4 D.aLawRow D.dLawRow ["script", "k", "pieces"] (spRowL K) := ok_rowL T
  refine T.fLawValues.ok scValues (fun vs H Q E h => ?_) (fun cdv A outer s H vs Q E hr h => ?_)
  · obtain ⟨a, l, ns, st, us, ps, rfl, _⟩ := h; rfl
  · obtain ⟨a, l, ns, st, us, ps, rfl, hS, h0, h1, hl, hp, ok, q⟩ := h
    have hu := hu_of hr
    have hr2 : Room 2 _ := hr.mono (by decide)
    have hr3 : Room 3 _ := hr.mono (by decide)
    have hus : us.length = ps.length := hp.length.symm
    have h6 := ok.hi
    refine ⟨_, pss_cons (ps_set (i := 3) scValues.nd rfl (Or.inl rfl) pe_dnewK)
      (pss_cons (ps_for PassesOwn.never rfl (pi_range1 rfl T.zRange (pa_cons (pe_callB call_len_seq rfl T.zLen PySem.boot_len (pa_cons (pv 2) pa_nil)) pa_nil)) (pg_name (i := 4) scValues.nd rfl (Or.inl rfl))
        (pss_cons (ps_set (i := 5) scValues.nd rfl (Or.inr rfl) (pe_ix ix_list (pv 2) (pv 4) (fun _ _ => rfl)))
        (pss_cons (ps_set (i := 6) scValues.nd rfl (Or.inr rfl) (pe_op op_add (pv 1) (pe_op op_mul pe_int (pv 4))))
        (pss_cons (ps_if (pt_cmpR op_eq (pe_ix ix_tup (pv 5) pe_int (fun _ _ => rfl)) pe_str (nomark _))
          (pss_one (ps_dput hu (pv 3) (pe_ix ix_tup (pv 5) pe_int (fun _ _ => rfl)) (pe_call GW hr3 rfl T.mLawWord T.fLawWord.kp T.bLawWord .nil pass0 (pa_cons (pv 0) (pa_cons (pv 6) (pa_cons (pv 5) pa_nil)))) rfl)) pss_nil)
        (pss_one (ps_if (pt_cmpR op_eq (pe_ix ix_tup (pv 5) pe_int (fun _ _ => rfl)) pe_str (nomark _))
          (pss_cons (ps_set (i := 7) scValues.nd rfl (Or.inl rfl) (pe_op op_add (pe_ix ix_tup (pv 5) pe_int (fun _ _ => rfl)) (pe_op op_mod (pe_call G hr2 rfl T.mLawDraw T.fLawDraw.kp T.bLawDraw .nil pass0 (pa_cons (pv 0) (pa_cons (pv 6) pa_nil))) (pe_op op_add (pe_op op_sub (pe_ix ix_tup (pv 5) pe_int (fun _ _ => rfl)) (pe_ix ix_tup (pv 5) pe_int (fun _ _ => rfl))) pe_int))))
          (pss_cons (ps_setComp (i := 8) (cp := [(0, "script"), (6, "here"), (5, "piece")]) (te := tCall (spRowL K) [] E0 (tCons (tVar 1) (tCons (tOp (rI0 fun i j => .int (i + j)) (tOp (rI0 fun i j => .int (i + j)) (tVar 2) (tC (.int 1))) (tOp (rI CMul fun i j => .int (i * j)) (tC (.int 25)) (tVar 0))) (tCons (tOp (rIxT K) (tVar 3) (tC (.int 2))) tNil)))) scValues.nd rfl rfl
            (CompScope.of (defScope sLawValues) ["script", "start", "pieces", "values", "k", "piece", "here", "many", "row"] rfl rfl (by decide +kernel)) rfl (pi_range1 rfl T.zRange (pa_cons (pv 7) pa_nil)) (fun _ _ _ _ _ => pts_nil)
            (fun _ _ _ _ _ => pe_call GR hr rfl T.mLawRow T.fLawRow.kp T.bLawRow .nil pass0 (pa_cons (pv 1) (pa_cons (pe_op op_add (pe_op op_add (pv 2) pe_int) (pe_op op_mul pe_int (pv 0))) (pa_cons (pe_ix ix_tup (pv 3) pe_int (fun _ _ => rfl)) pa_nil)))))
          (pss_one (ps_dput hu (pv 3) (pe_ix ix_tup (pv 5) pe_int (fun _ _ => rfl)) (pv 8) rfl)))) pss_nil))))))
      (pss_one (ps_ret (pv 3)))), ?_⟩
    intro d hd
    have s1 := same_new hd (.dK [])
    refine ⟨_, rfl, l, us, rfl, .inl (SqL.of (s1 _ _ hl)), _, rfl, by omega, by omega, ?_⟩
    rw [Int.toNat_natCast]
    refine for_range (lo := 0) (n := us.length) (fun i σ H' => ∃ (kvs : List (Key × V)) (o4 o5 o6 o7 o8 : Option V), σ = [some (.ref a), some (.int st), some (.ref l), some (.ref d), o4, o5, o6, o7, o8] ∧ Half H H' d kvs (ps.take i))
      ⟨[], none, none, none, none, none, rfl, Half.nil hd⟩ (fun i σ H' hi e => ?_) (fun σ H' e => ?_)
    · obtain ⟨kvs, o4, o5, o6, o7, o8, rfl, hf⟩ := e
      have s2 := hf.same
      have hx : us[i]? = some us[i] := List.getElem?_eq_getElem hi
      obtain ⟨p, ep, pat⟩ := Paired.two hp hx
      have hat : atI us (0 + (i : Int)) = some us[i] := by rw [Int.zero_add]; exact atI_nat hx
      have okp := ok.all p (List.mem_of_getElem? ep)
      have fresh := flat_take (f := Pie.nm) ep ok.nd
      have hlen : kvs.length < sizeLine := small1000 (by have := hf.few; rw [List.length_take] at this; omega)
      rw [take_snoc ep]
      refine ⟨_, rfl, _, rfl, l, us, _, _, rfl, rfl, SqL.of (s2 _ _ hl), hat, ?_⟩
      refine ⟨_, rfl, _, rfl, _, _, rfl, rfl, .inl ⟨by decide, by decide⟩, _, _, rfl, rfl, ?_⟩
      cases p with
      | one p =>
        obtain ⟨b, eb, hb⟩ := pat
        rw [eb]
        cases p with
        | say z =>
          refine ⟨_, rfl, b, _, _, _, rfl, rfl, SqT.of (s2 _ _ hb), rfl, rfl, _, rfl, iteDF ne_as.symm ?_⟩
          refine ⟨_, rfl, b, _, _, _, rfl, rfl, SqT.of (s2 _ _ hb), rfl, rfl, _, rfl, iteDF ne_sr ?_⟩
          exact ⟨kvs, _, _, _, _, _, rfl, hf.say z⟩
        | ask m sg lo hi' =>
          refine ⟨_, rfl, b, _, _, _, rfl, rfl, SqT.of (s2 _ _ hb), rfl, rfl, _, rfl, iteD rfl ?_⟩
          refine ⟨_, rfl, _, rfl, _, rfl, a, ns, _, _, m, sg, lo, hi', rfl, hS.mono s2, by omega, by omega, ⟨b, rfl, s2 _ _ hb⟩, okp, fun t ft => ?_⟩
          refine ⟨_, rfl, _, rfl, b, _, _, _, rfl, rfl, SqT.of (s2 _ _ hb), rfl, d, _, rfl, DPut.k (k := Sum.inr m) hf.here hlen, ?_⟩
          have h2 := hf.put (p := .one (.ask m sg lo hi')) hd rfl (fresh m (List.mem_singleton.mpr rfl)) (v := .str t) (.inl ⟨t, rfl⟩) ⟨t, valV_this, ft⟩
          refine ⟨_, rfl, b, _, _, _, rfl, rfl, SqT.of (h2.same _ _ hb), rfl, rfl, _, rfl, iteDF ne_ra.symm ?_⟩
          exact ⟨_, _, _, _, _, _, rfl, h2⟩
      | rows n inner gap lo hi' =>
        obtain ⟨b, r2, ws, eb, hb, hr2', hin⟩ := pat
        obtain ⟨hn, hpo, hg, b0, b1, b2⟩ := okp
        rw [eb]
        refine ⟨_, rfl, b, _, _, _, rfl, rfl, SqT.of (s2 _ _ hb), rfl, rfl, _, rfl, iteDF ne_ra ?_⟩
        refine ⟨_, rfl, b, _, _, _, rfl, rfl, SqT.of (s2 _ _ hb), rfl, rfl, _, rfl, iteD rfl ?_⟩
        refine ⟨_, rfl, b, _, _, _, rfl, rfl, SqT.of (s2 _ _ hb), rfl, _, rfl, _, rfl, a, ns, _, rfl, hS.mono s2, by omega, by omega, _, rfl, b, _, _, _, rfl, rfl, SqT.of (s2 _ _ hb), rfl, _, rfl, b, _, _, _, rfl, rfl, SqT.of (s2 _ _ hb), rfl, _, _, rfl, rfl, _, _, rfl, rfl, _, _, rfl, rfl, (by show 0 < hi' - lo + 1; omega), _, _, rfl, rfl, ?_⟩
        generalize drawOf ns (st + 90 * (0 + (i : Int))) = c
        have d0 : 0 ≤ c % (hi' - lo + 1) := Int.emod_nonneg _ (by omega)
        have d1 : c % (hi' - lo + 1) < hi' - lo + 1 := Int.emod_lt_of_pos _ (by omega)
        refine ⟨_, rfl, lo + c % (hi' - lo + 1), rfl, by omega, by omega, ?_⟩
        generalize hm : (lo + c % (hi' - lo + 1)).toNat = m
        refine comp_range (lo := 0) (n := m) (fun j ys H5 => Same H' H5 ∧ ys.length = j ∧ RowsG H5 d inner ys) ⟨Same.refl _, rfl, fun _ z => nomatch z⟩ (fun j ys H5 _ e => Nat.le_of_eq e.2.1) (small (by omega)) (fun j ys H5 hj e => ?_) (fun ys H5 e r hr' => ?_)
        · obtain ⟨e1, e2, e3⟩ := e
          have s3 := s2.trans e1
          refine ⟨_, rfl, _, rfl, _, _, rfl, rfl, _, rfl, _, _, rfl, rfl, .inl ⟨by decide, by decide⟩, _, _, rfl, rfl, _, rfl, b, _, _, _, rfl, rfl, SqT.of (s3 _ _ hb), rfl, a, r2, ns, _, ws, inner, rfl, hS.mono s3, by omega, by omega, s3 _ _ hr2', Paired.mapP hin fun _ _ z => z.mono s3, hpo, fun x rk hx' rok rl rf rn => ?_⟩
          have s4 := same_new hx' (.dK rk)
          refine ⟨e1.trans s4, by rw [List.length_append, e2]; rfl, fun u hu' => ?_⟩
          rcases List.mem_append.mp hu' with y | y
          · exact e3.mono s4 u y
          · have : u = .ref x := by simpa using y
            subst this
            exact ⟨x, rk, rfl, Ne.symm (ne_of_none (e1 _ _ hf.here) hx'), upd_same, rok, .inl rl, rf⟩
        · obtain ⟨e1, e2, e3⟩ := e
          have s4 := same_new hr' (.lst ys)
          have h1' := hf.mono (e1.trans s4)
          have s5 := h1'.same
          refine ⟨_, rfl, _, rfl, _, rfl, b, _, _, _, rfl, rfl, SqT.of (s5 _ _ hb), rfl, d, _, rfl, DPut.k (k := Sum.inr n) h1'.here hlen, ?_⟩
          have hrd : r ≠ d := ne_of upd_same h1'.here (by intro z; cases z)
          refine ⟨_, _, _, _, _, _, rfl, h1'.put (p := .rows n inner gap lo hi') hd rfl (fresh n (List.mem_singleton.mpr rfl)) (.inr ⟨r, ys, inner, rfl, upd_same, by omega, e3.mono s4⟩) ⟨r, ys, valV_this, by rw [upd_ne hrd]; exact upd_same, by omega, by omega, (e3.mono s4).upd⟩⟩
    · obtain ⟨kvs, o4, o5, o6, o7, o8, rfl, hf⟩ := e
      rw [hus, List.take_length] at hf
      exact ⟨_, rfl, q d kvs H' hf.same hd hf.here hf.dat (Nat.le_trans hf.few h6) hf.val hf.nms⟩
end
end Lf

set_option Elab.async false
set_option linter.all false
set_option maxRecDepth 100000
set_option maxHeartbeats 1000000
namespace Lf
open PySem L2
theorem sE (x : Str) : Str.empty ++ x = x := by
  show (⟨#[] ++ x.cps⟩ : Str) = x
  rw [Array.empty_append]
theorem sE' (x : Str) : x ++ Str.empty = x := by
  show (⟨x.cps ++ #[]⟩ : Str) = x
  rw [Array.append_empty]
theorem sA (x y z : Str) : (x ++ y) ++ z = x ++ (y ++ z) := by
  show (⟨(x.cps ++ y.cps) ++ z.cps⟩ : Str) = ⟨x.cps ++ (y.cps ++ z.cps)⟩
  rw [Array.append_assoc]
theorem cat_snoc : ∀ (l : List Str) (x : Str), cat (l ++ [x]) = cat l ++ x
  | [], x => (sE x).symm
  | [t], x => by
    show (t ++ Str.empty) ++ x = t ++ x
    rw [sE']
  | t :: u :: r, x => by
    have ih := cat_snoc (u :: r) x
    show (t ++ Str.empty) ++ cat ((u :: r) ++ [x]) = ((t ++ Str.empty) ++ cat (u :: r)) ++ x
    rw [ih]; exact (sA _ _ _).symm
section
variable {P : Program} {w : World} {K : PySem.W.Frag} {mg : Str → Option Value} {base : Heap} {D : Adr}
theorem scLine : FnScope ["pieces", "values", "text", "piece"] ["pieces", "values"] (defScope sLawLine) := ⟨rfl, rfl, rfl, by decide +kernel, rfl, by decide +kernel, by decide +kernel⟩
def spLine : Sp := fun vs H Q _ => ∃ (l : Addr) (us : List V) (ps : List Pc) (f : Row) (d : V), vs = [.ref l, d] ∧ H l = some (.lst us) ∧ Paired (Pc.At H) ps us ∧ RowAt H f d ∧ ps.length ≤ 3 ∧ (∀ p ∈ ps, p.ok ∧ FitPc f p) ∧ Q (.str (wRow ps f)) H
theorem ok_line (T : Txt w K mg D) : FnOk P w K mg base CX0 1 D.aLawLine D.dLawLine ["pieces", "values"] spLine := by
  refine T.fLawLine.ok scLine (fun vs H Q E h => ?_) (fun cdv A outer s H vs Q E hr h => ?_)
  · obtain ⟨l, us, ps, f, d, rfl, _⟩ := h; rfl
  · obtain ⟨l, us, ps, f, d, rfl, hl, hp, ⟨da, kvs, rfl, hd, hv⟩, h3, hok, q⟩ := h
    have hu := hu_of hr
    have hus : us.length = ps.length := hp.length.symm
    refine ⟨_, pss_cons (ps_set (i := 2) scLine.nd rfl (Or.inl rfl) pe_str)
      (pss_cons (ps_for PassesOwn.never rfl (pi_list (pv 0)) (pg_name (i := 3) scLine.nd rfl (Or.inl rfl))
        (pss_one (ps_if (pt_cmpR op_eq (pe_ix ix_tup (pv 3) pe_int (fun _ _ => rfl)) pe_str (nomark _))
          (pss_one (ps_set (i := 2) scLine.nd rfl (Or.inl rfl) (pe_op op_add_str (pv 2) (pe_ix ix_tup (pv 3) pe_int (fun _ _ => rfl)))))
          (pss_one (ps_set (i := 2) scLine.nd rfl (Or.inl rfl) (pe_op op_add_str (pv 2) (pe_dget hu (pv 1) (pe_ix ix_tup (pv 3) pe_int (fun _ _ => rfl)) (fun _ _ => rfl))))))))
      (pss_one (ps_ret (pv 2)))), ?_⟩
    refine ⟨_, rfl, l, rfl, ⟨_, SqL.of hl⟩, for_list (xs := us) (fun i σ H' => H' = H ∧ ∃ o, σ = [some (.ref l), some (.ref da), some (.str (cat ((ps.take i).map (wPc f)))), o]) ⟨rfl, none, rfl⟩ (fun i σ H' hi e => by rw [e.1]; exact SqL.of hl) (fun i x σ H' hx e => ?_) (fun σ H' e => ?_)⟩
    · obtain ⟨rfl, o, rfl⟩ := e
      obtain ⟨p, ep, b, rfl, hb⟩ := Paired.two hp hx
      obtain ⟨okp, fp⟩ := hok p (List.mem_of_getElem? ep)
      have hz := wPc_len okp fp
      have hi : i < us.length := (List.getElem?_eq_some_iff.mp hx).1
      have hc : (cat ((ps.take i).map (wPc f))).length ≤ 36 := by
        refine Nat.le_trans (cat_len (n := 12) fun t ht => ?_) ?_
        · obtain ⟨p', hp', rfl⟩ := List.mem_map.mp ht
          obtain ⟨o1, o2⟩ := hok p' (List.mem_of_mem_take hp')
          exact wPc_len o1 o2
        · rw [List.length_map, List.length_take]; omega
      have et : cat ((ps.take (i + 1)).map (wPc f)) = cat ((ps.take i).map (wPc f)) ++ wPc f p := by rw [take_snoc ep, List.map_append]; exact cat_snoc _ _
      rw [et]
      cases p with
      | say z =>
        refine ⟨_, rfl, b, _, _, _, rfl, rfl, SqT.of hb, rfl, rfl, _, rfl, iteD rfl ?_⟩
        exact ⟨_, rfl, _, rfl, b, _, _, _, rfl, rfl, SqT.of hb, rfl, _, z, rfl, rfl, small (by have : z.length ≤ 12 := hz; omega), rfl, _, rfl⟩
      | ask n sg lo hi' =>
        obtain ⟨t, e1, e2⟩ := fp
        rw [wPc_ask e1] at hz ⊢
        refine ⟨_, rfl, b, _, _, _, rfl, rfl, SqT.of hb, rfl, rfl, _, rfl, iteDF ne_as ?_⟩
        exact ⟨_, rfl, _, rfl, _, rfl, b, _, _, _, rfl, rfl, SqT.of hb, rfl, da, _, rfl, .inl ⟨kvs, Sum.inr n, hd, rfl, (hv n t e1).symm⟩, _, t, rfl, rfl, small (by omega), rfl, _, rfl⟩
    · obtain ⟨rfl, o, rfl⟩ := e
      rw [hus, List.take_length]
      exact ⟨_, rfl, q⟩
/-! ### _law_written -/
theorem scWritten : FnScope ["pieces", "values", "text", "piece"] ["pieces", "values"] (defScope sLawWritten) := ⟨rfl, rfl, rfl, by decide +kernel, rfl, by decide +kernel, by decide +kernel⟩
def spWritten : Sp := fun vs H Q _ => ∃ (l : Addr) (us : List V) (ps : List Pie) (F : Vs) (d : Addr) (kvs : List (Key × V)), vs = [.ref l, .ref d] ∧ H l = some (.lst us) ∧ Paired (Pie.At H) ps us ∧ FormOk ps ∧ Rd H d (.dK kvs) ∧ (∀ n x, F n = some x → ∃ u, valV kvs (Sum.inr n) = some u ∧ ValAt H x u) ∧ (∀ p ∈ ps, FitPie F p) ∧ ∀ H', Same H H' → Q (.str (wForm ps F)) H'
theorem ok_written (T : Txt w K mg D) : FnOk P w K mg base CX0 2 D.aLawWritten D.dLawWritten ["pieces", "values"] spWritten := by
  have G : FnOk P w K mg base CX0 1 D.aLawLine D.dLawLine ["pieces", "values"] spLine := ok_line T
  refine T.fLawWritten.ok scWritten (fun vs H Q E h => ?_) (fun cdv A outer s H vs Q E hr h => ?_)
  · obtain ⟨l, us, ps, F, d, kvs, rfl, _⟩ := h; rfl
  · obtain ⟨l, us, ps, F, d, kvs, rfl, hl, hp, ok, hd, hv, hfit, q⟩ := h
    have hu := hu_of hr
    have hus : us.length = ps.length := hp.length.symm
    have h6 := ok.hi
    refine ⟨_, pss_cons (ps_set (i := 2) scWritten.nd rfl (Or.inl rfl) pe_str)
      (pss_cons (ps_for PassesOwn.never rfl (pi_list (pv 0)) (pg_name (i := 3) scWritten.nd rfl (Or.inr rfl))
        (pss_one (ps_if (pt_cmpR op_eq (pe_ix ix_tup (pv 3) pe_int (fun _ _ => rfl)) pe_str (nomark _))
          (pss_one (ps_set (i := 2) scWritten.nd rfl (Or.inl rfl) (pe_op op_add_str (pv 2) (pe_bm PySem.F.plainAttrs_str PySem.F.slot_str_join PySem.F.type_str_join mt_join (pe_ix ix_tup (pv 3) pe_int (fun _ _ => rfl))
            (pa_cons (pe_comp (cp := [(3, "piece")]) (te := tCall spLine [] E0 (tCons (tOp (rIxT K) (tVar 1) (tC (.int 2))) (tCons (tVar 0) tNil))) (CompScope.of (defScope sLawWritten) ["pieces", "values", "text", "piece"] rfl rfl (by decide +kernel)) rfl
              (pi_list (pe_dget hu (pv 1) (pe_ix ix_tup (pv 3) pe_int (fun _ _ => rfl)) (fun _ _ => rfl))) (fun _ _ _ _ _ => pts_nil)
              (fun _ _ _ _ _ => pe_call G hr rfl T.mLawLine T.fLawLine.kp T.bLawLine .nil pass0 (pa_cons (pe_ix ix_tup (pv 1) pe_int (fun _ _ => rfl)) (pa_cons (pv 0) pa_nil)))) pa_nil)))))
          (pss_one (ps_set (i := 2) scWritten.nd rfl (Or.inl rfl) (pe_op op_add_str (pv 2) (pe_call G hr rfl T.mLawLine T.fLawLine.kp T.bLawLine .nil pass0 (pa_cons (pe_lst (pa_cons (pv 3) pa_nil)) (pa_cons (pv 1) pa_nil)))))))))
      (pss_one (ps_ret (pv 2)))), ?_⟩
    refine ⟨_, rfl, l, rfl, ⟨_, SqL.of hl⟩, for_list (xs := us) (fun i σ H' => Same H H' ∧ ∃ o, σ = [some (.ref l), some (.ref d), some (.str (cat ((ps.take i).map (wPie F)))), o]) ⟨Same.refl _, none, rfl⟩ (fun i σ H' hi e => SqL.of (e.1 _ _ hl)) (fun i x σ H' hx e => ?_) (fun σ H' e => ?_)⟩
    · obtain ⟨s1, o, rfl⟩ := e
      obtain ⟨p, ep, pat⟩ := Paired.two hp hx
      have mp := List.mem_of_getElem? ep
      have okp := ok.all p mp
      have fp := hfit p mp
      have hz := wPie_len okp fp
      have hi : i < us.length := (List.getElem?_eq_some_iff.mp hx).1
      have hc : (cat ((ps.take i).map (wPie F))).length ≤ 750 := by
        refine Nat.le_trans (cat_len (n := 150) fun t ht => ?_) ?_
        · obtain ⟨p', hp', rfl⟩ := List.mem_map.mp ht
          exact wPie_len (ok.all p' (List.mem_of_mem_take hp')) (hfit p' (List.mem_of_mem_take hp'))
        · rw [List.length_map, List.length_take]; omega
      have et : cat ((ps.take (i + 1)).map (wPie F)) = cat ((ps.take i).map (wPie F)) ++ wPie F p := by rw [take_snoc ep, List.map_append]; exact cat_snoc _ _
      rw [et]
      have hd1 : Rd H' d (.dK kvs) := Rd.mono s1 hd
      have pat1 := pat.mono s1
      have one : ∀ (q : Pc), p = .one q → x = x → FitPc (rowOf kvs) q ∧ wPc (rowOf kvs) q = wPie F p := by
        rintro q rfl _
        cases q with
        | say z => exact ⟨trivial, rfl⟩
        | ask n sg lo hi' =>
          obtain ⟨t, e1, e2⟩ := fp
          obtain ⟨u, e3, e4⟩ := hv n _ e1
          cases (show u = .str t from e4)
          have e5 := rowOf_of e3
          exact ⟨⟨t, e5, e2⟩, by rw [wPc_ask e5, wPie_ask e1]⟩
      have mono1 : ∀ (q : Pc), q.ok → FitPc (rowOf kvs) q → ∀ y ∈ [q], y.ok ∧ FitPc (rowOf kvs) y := fun q h1 h2 y hy => by
        have : y = q := by simpa using hy
        subst this; exact ⟨h1, h2⟩
      cases p with
      | one p =>
        obtain ⟨b, rfl, hb⟩ := pat1
        cases p with
        | say z =>
          refine ⟨_, rfl, b, _, _, _, rfl, rfl, SqT.of hb, rfl, rfl, _, rfl, iteDF ne_sr ?_⟩
          refine ⟨_, rfl, _, rfl, (by show 1 ≤ sizeLine; decide), fun r hr' => ⟨_, rfl, ?_⟩⟩
          obtain ⟨f1, f2⟩ := one _ rfl rfl
          have s2 := same_new hr' (.lst [.ref b])
          rw [← f2] at hz ⊢
          exact ⟨r, [.ref b], [Pc.say z], rowOf kvs, .ref d, rfl, upd_same, .cons ⟨b, rfl, s2 _ _ hb⟩ .nil, ⟨d, kvs, rfl, Rd.mono s2 hd1, fun _ _ e => rowOf_some e⟩, (by show 1 ≤ 3; decide), mono1 _ okp f1, _, _, rfl, rfl, small (Nat.le_trans (Nat.add_le_add hc hz) (by decide)), s1.trans s2, _, rfl⟩
        | ask n sg lo hi' =>
          refine ⟨_, rfl, b, _, _, _, rfl, rfl, SqT.of hb, rfl, rfl, _, rfl, iteDF ne_ra.symm ?_⟩
          refine ⟨_, rfl, _, rfl, (by show 1 ≤ sizeLine; decide), fun r hr' => ⟨_, rfl, ?_⟩⟩
          obtain ⟨f1, f2⟩ := one _ rfl rfl
          have s2 := same_new hr' (.lst [.ref b])
          rw [← f2] at hz ⊢
          exact ⟨r, [.ref b], [Pc.ask n sg lo hi'], rowOf kvs, .ref d, rfl, upd_same, .cons ⟨b, rfl, s2 _ _ hb⟩ .nil, ⟨d, kvs, rfl, Rd.mono s2 hd1, fun _ _ e => rowOf_some e⟩, (by show 1 ≤ 3; decide), mono1 _ okp f1, _, _, rfl, rfl, small (Nat.le_trans (Nat.add_le_add hc hz) (by decide)), s1.trans s2, _, rfl⟩
      | rows n inner gap lo hi' =>
        obtain ⟨b, r2, ws, rfl, hb, hr2', hin⟩ := pat1
        obtain ⟨rs, e1, f1, f2, f3⟩ := fp
        obtain ⟨u, e3, lv, vs, rfl, hlv, hrs⟩ := hv n _ e1
        obtain ⟨hn, hpo, hg, b0, b1, b2⟩ := okp
        rw [wPie_rows e1] at hz ⊢
        have hvs : vs.length = rs.length := hrs.length.symm
        have hlv1 := s1 _ _ hlv
        refine ⟨_, rfl, b, _, _, _, rfl, rfl, SqT.of hb, rfl, rfl, _, rfl, iteD rfl ?_⟩
        refine ⟨_, rfl, _, rfl, b, _, _, _, rfl, rfl, SqT.of hb, rfl, rfl, _, rfl, _, rfl, b, _, _, _, rfl, rfl, SqT.of hb, rfl, d, _, rfl, .inl ⟨kvs, Sum.inr n, hd1, rfl, e3.symm⟩, lv, rfl, ⟨_, SqL.of hlv1⟩, ?_⟩
        refine comp_list (xs := vs) (fun j ys H5 => H5 = H' ∧ ys = (rs.take j).map fun f => V.str (wRow inner f)) ⟨rfl, rfl⟩ (fun j ys H5 hj e => ⟨by rw [e.1]; exact SqL.of hlv1, ?_⟩) (small (by omega)) (fun j x ys H5 hx e => ?_) (fun ys H5 e r hr' => ?_)
        · rw [e.2, List.length_map, List.length_take]; omega
        · obtain ⟨rfl, rfl⟩ := e
          obtain ⟨f, ef, pf⟩ := Paired.two hrs hx
          have mf := List.mem_of_getElem? ef
          refine ⟨_, rfl, b, _, _, _, rfl, rfl, SqT.of hb, rfl, _, rfl, r2, ws, inner, f, x, rfl, hr2', hin, pf.mono s1, hpo.hi, fun y hy => ⟨hpo.all y hy, f3 f mf y hy⟩, rfl, ?_⟩
          rw [take_snoc ef, List.map_append]
          rfl
        · obtain ⟨rfl, rfl⟩ := e
          rw [hvs, List.take_length]
          have s2 := same_new hr' (.lst (rs.map fun f => V.str (wRow inner f)))
          refine ⟨gap, r, rs.map (wRow inner), rfl, rfl, SqL.of (by rw [upd_same, List.map_map]; rfl), ?_, _, _, rfl, rfl, small (by omega), s1.trans s2, _, rfl⟩
          refine joinOk_of (n := 500) (fun t ht => ?_) (by rw [List.length_map]; exact Nat.le_trans (Nat.mul_le_mul_right 500 (show rs.length ≤ 100 by omega)) (by decide))
          obtain ⟨f, hf', rfl⟩ := List.mem_map.mp ht
          have z1 := wRow_len hpo (f3 f hf')
          have z2 := hg.hi
          omega
    · obtain ⟨s1, o, rfl⟩ := e
      rw [hus, List.take_length]
      exact ⟨_, rfl, q H' s1⟩
end
end Lf

set_option Elab.async false
set_option linter.all false
set_option maxRecDepth 100000
set_option maxHeartbeats 1000000
namespace L2
open PySem PySem.Spec PyProof.Rows
end L2
namespace Lf
open PySem L2
/-! ### the values as a function -/
def rowV (H : Hp) : V → Row
  | .ref a => match H a with | some (.dK rk) => rowOf rk | _ => fun _ => none
  | _ => fun _ => none
def valO (H : Hp) : V → Option Val
  | .str t => some (.text t)
  | .ref l => match H l with | some (.lst us) => some (.rows (us.map (rowV H))) | _ => none
  | _ => none
def FOf (H : Hp) (kvs : List (Key × V)) : Vs := fun n => (valV kvs (Sum.inr n)).bind (valO H)
theorem rowV_of {H : Hp} {a : Addr} {rk : List (Key × V)} (h : H a = some (.dK rk)) : rowV H (.ref a) = rowOf rk := by
  show (match H a with | some (.dK rk) => rowOf rk | _ => fun _ => none) = _
  rw [h]
theorem valO_of {H : Hp} {l : Addr} {us : List V} (h : H l = some (.lst us)) : valO H (.ref l) = some (.rows (us.map (rowV H))) := by
  show (match H l with | some (.lst us) => some (Val.rows (us.map (rowV H))) | _ => none) = _
  rw [h]
theorem FOf_of {H : Hp} {kvs : List (Key × V)} {n : Str} {u : V} (h : valV kvs (Sum.inr n) = some u) : FOf H kvs n = valO H u := by
  show (valV kvs (Sum.inr n)).bind (valO H) = _
  rw [h]; rfl
theorem valV_some_mem {kvs : List (Key × V)} {k : Key} {v : V} (h : valV kvs k = some v) : (k, v) ∈ kvs := by
  unfold valV at h
  obtain ⟨p, hp, e⟩ := Option.map_eq_some_iff.mp h
  have h1 := List.mem_of_find?_eq_some hp
  have h2 : p.1 = k := by simpa using List.find?_some hp
  have : p = (k, v) := Prod.ext h2 e
  rw [← this]; exact h1
theorem rows_paired {H : Hp} {d : Addr} {inner : List Pc} : ∀ {us : List V}, RowsG H d inner us → Paired (RowAt H) (us.map (rowV H)) us
  | [], _ => .nil
  | u :: r, h => by
    obtain ⟨a, rk, e, _, ha, _⟩ := h u List.mem_cons_self
    refine .cons ?_ (rows_paired fun x hx => h x (List.mem_cons_of_mem _ hx))
    subst e
    rw [rowV_of ha]
    exact RowAt.of ha
theorem FOf_at {H : Hp} {d : Addr} {kvs : List (Key × V)} (h : DatOk H d kvs) : ∀ n x, FOf H kvs n = some x → ∃ u, valV kvs (Sum.inr n) = some u ∧ ValAt H x u := fun n x e => by
  cases z : valV kvs (Sum.inr n : Key) with
  | none =>
    have : FOf H kvs n = none := by show (valV kvs (Sum.inr n)).bind (valO H) = _; rw [z]; rfl
    rw [this] at e; cases e
  | some u =>
    rw [FOf_of z] at e
    refine ⟨u, rfl, ?_⟩
    rcases (h.all _ (valV_some_mem z)).2 with ⟨t, y⟩ | ⟨l, us, inner, y, h2, _, h4⟩
    · subst y
      cases e
      exact rfl
    · have y : u = .ref l := y
      subst y
      rw [valO_of h2] at e
      cases e
      exact ⟨l, us, rfl, h2, rows_paired h4⟩
theorem FOf_fit {H : Hp} {d : Addr} {kvs : List (Key × V)} : ∀ {p : Pie}, ValF H d kvs p → FitPie (FOf H kvs) p
  | .one (.say _), _ => trivial
  | .one (.ask ..), ⟨t, h1, h2⟩ => ⟨t, FOf_of h1, h2⟩
  | .rows .., ⟨l, us, h1, h2, h3, h4, h5⟩ => ⟨us.map (rowV H), (FOf_of h1).trans (valO_of h2), by rw [List.length_map]; exact h3, by rw [List.length_map]; exact h4, fun f hf => by
    obtain ⟨u, hu, e⟩ := List.mem_map.mp hf
    obtain ⟨a, rk, z1, _, z3, z4⟩ := h5 u hu
    subst z1
    rw [rowV_of z3] at e
    subst e
    exact z4.fit⟩
theorem FOf_same {H H' : Hp} {d : Addr} {kvs : List (Key × V)} (e : Same H H') (h : DatOk H d kvs) : FOf H' kvs = FOf H kvs := by
  funext n
  cases z : valV kvs (Sum.inr n : Key) with
  | none => show (valV kvs (Sum.inr n)).bind _ = (valV kvs (Sum.inr n)).bind _; rw [z]; rfl
  | some u =>
    rw [FOf_of z, FOf_of z]
    rcases (h.all _ (valV_some_mem z)).2 with ⟨t, y⟩ | ⟨l, us, inner, y, h2, _, h4⟩
    · have y : u = .str t := y
      subst y; rfl
    · have y : u = .ref l := y
      subst y
      rw [valO_of h2, valO_of (e _ _ h2)]
      congr 2
      refine List.map_congr_left fun v hv => ?_
      obtain ⟨a, rk, z1, _, z3, _⟩ := h4 v hv
      subst z1
      rw [rowV_of z3, rowV_of (e _ _ z3)]
/-! ### the copy equals the values -/
theorem EqT.str {K : PySem.W.Frag} {H : Hp} {t : Str} : ∀ n, EqT K H n (.str t) (.str t)
  | 0 => ⟨rfl, trivial⟩
  | n + 1 => .inl (EqT.str n)
theorem EqD.str {K : PySem.W.Frag} {H : Hp} {t : Str} : ∀ n, EqD K H n (.str t) (.str t)
  | 0 => EqT.str 0
  | n + 1 => .inl (EqT.str (n + 1))
/-! ### pieces that are written alike -/
theorem EqT.up {K : PySem.W.Frag} {H : Hp} {x y : V} : ∀ {n m : Nat}, n ≤ m → EqT K H n x y → EqT K H m x y
  | n, 0, h, e => by cases Nat.le_zero.mp h; exact e
  | n, m + 1, h, e => by
    rcases Nat.lt_or_ge n (m + 1) with z | z
    · exact .inl (EqT.up (Nat.lt_succ_iff.mp z) e)
    · have : n = m + 1 := Nat.le_antisymm h z
      subst this; exact e
theorem EqT.pc {K : PySem.W.Frag} {H : Hp} {p : Pc} {v v' : V} (h : p.At H v) (h' : p.At H v') : EqT K H 1 v v' := by
  obtain ⟨a, rfl, ha⟩ := h
  obtain ⟨b, rfl, hb⟩ := h'
  refine .inr (.inr ⟨a, b, p.tup, p.tup, rfl, rfl, SqT.of ha, SqT.of hb, ?_⟩)
  cases p with
  | say t => exact .cons ⟨rfl, trivial⟩ (.cons ⟨rfl, trivial⟩ .nil)
  | ask n sg lo hi => exact .cons ⟨rfl, trivial⟩ (.cons ⟨rfl, trivial⟩ (.cons ⟨rfl, trivial⟩ (.cons ⟨rfl, trivial⟩ (.cons ⟨rfl, trivial⟩ .nil))))
theorem paired_both {α β : Type} {F : α → β → Prop} {R : β → β → Prop} (f : ∀ a b b', F a b → F a b' → R b b') : ∀ {as : List α} {bs bs' : List β}, Paired F as bs → Paired F as bs' → Paired R bs bs'
  | _, _, _, .nil, .nil => .nil
  | _, _, _, .cons h t, .cons h' t' => .cons (f _ _ _ h h') (paired_both f t t')
theorem EqT.pie {K : PySem.W.Frag} {H : Hp} : ∀ {p : Pie} {v v' : V}, p.At H v → p.At H v' → EqT K H 3 v v'
  | .one p, _, _, h, h' => EqT.up (by decide : 1 ≤ 3) (EqT.pc (p := p) h h')
  | .rows n inner gap lo hi, _, _, ⟨a, l, vs, e, ha, hl, hp⟩, ⟨b, l', vs', e', hb, hl', hp'⟩ => by
    subst e e'
    refine .inr (.inr ⟨a, b, _, _, rfl, rfl, SqT.of ha, SqT.of hb, ?_⟩)
    have sc : ∀ x : V, plainV x → EqT K H 2 x x := fun x hx => EqT.up (by decide : 0 ≤ 2) ⟨rfl, hx⟩
    refine .cons (sc _ trivial) (.cons (sc _ trivial) (.cons ?_ (.cons (sc _ trivial) (.cons (sc _ trivial) (.cons (sc _ trivial) .nil)))))
    exact .inr (.inl ⟨l, l', vs, vs', rfl, rfl, SqL.of hl, SqL.of hl', paired_both (F := Pc.At H) (R := EqT K H 1) (fun _ _ _ z z' => EqT.pc z z') hp hp'⟩)
theorem EqD.pies {K : PySem.W.Frag} {H : Hp} {ps : List Pie} {us us' : List V} (h : Paired (Pie.At H) ps us) (h' : Paired (Pie.At H) ps us') : Paired (EqD K H 3) us us' :=
  paired_both (fun _ _ _ z z' => .inl (EqT.pie z z')) h h'
theorem EqD.texts {K : PySem.W.Frag} {H : Hp} {n : Nat} : ∀ (ts : List Str), Paired (EqD K H n) (ts.map V.str) (ts.map V.str)
  | [] => .nil
  | _ :: r => .cons (EqD.str n) (EqD.texts r)
theorem Pie.AtF.at' {H0 H : Hp} : ∀ {p : Pie} {v : V}, p.AtF H0 H v → p.At H v
  | .one _, _, h => h
  | .rows .., _, ⟨a, l, vs, h1, h2, h3, _, h5⟩ => ⟨a, l, vs, h1, h2, h3, h5⟩
/-! ### lists that were handed in are emptied -/
/-- the lists of cs: none is empty, their items are tuples -/
structure Cs (H0 H : Hp) (cs : List Addr) : Prop where
  new : ∀ c ∈ cs, H0 c = none
  at' : ∀ c ∈ cs, ∃ x t a vs, H c = some (.lst (x :: vs)) ∧ x = .ref a ∧ H a = some (.tup t)
def Clr (cs : List Addr) (H H' : Hp) : Prop := ∀ b o, H b = some o → b ∉ cs → H' b = some o
theorem Clr.refl {cs : List Addr} {H : Hp} : Clr cs H H := fun _ _ z _ => z
theorem Clr.same {cs : List Addr} {H H' H2 : Hp} (e : Clr cs H H') (s : Same H' H2) : Clr cs H H2 := fun b o z n => s _ _ (e b o z n)
theorem Clr.put {cs : List Addr} {H H' : Hp} {c : Addr} (e : Clr cs H H') (hc : c ∈ cs) (o : HO) : Clr cs H (L2.upd H' c o) := fun b o z n => by
  rw [upd_ne (fun y => n (by rw [y]; exact hc))]; exact e b o z n
theorem Cs.tup {H0 H : Hp} {cs : List Addr} (h : Cs H0 H cs) {b : Addr} {o : HO} (hb : H b = some o) (hn : ∀ xs, o ≠ .lst xs) : b ∉ cs := fun z => by
  obtain ⟨x, t, a, vs, h1, _⟩ := h.at' b z
  rw [h1] at hb
  exact hn _ (Option.some.inj hb).symm
theorem Cs.old {H0 H : Hp} {cs : List Addr} (h : Cs H0 H cs) {b : Addr} {o : HO} (hb : H0 b = some o) : b ∉ cs := fun z => by
  rw [h.new b z] at hb; cases hb
theorem Cs.mono {H0 H H' : Hp} {cs : List Addr} (e : Same H H') (h : Cs H0 H cs) : Cs H0 H' cs := ⟨h.new, fun c hc => by
  obtain ⟨x, t, a, vs, h1, h2, h3⟩ := h.at' c hc
  exact ⟨x, t, a, vs, e _ _ h1, h2, e _ _ h3⟩⟩
theorem Clr.old {cs : List Addr} {H0 H H' : Hp} (e : Clr cs H H') (h : Cs H0 H cs) (s : Same H0 H) : Same H0 H' := fun b o z => e b o (s _ _ z) (h.old z)
theorem Clr.keep {cs : List Addr} {H0 Hf H H' : Hp} (e : Clr cs H H') (h : Cs H0 H cs) (hf : ∀ c ∈ cs, Hf c ≠ none) : Keep Hf H H' := fun b o z k => e b o z fun y => by
  obtain ⟨x, t, a, vs, h1, _⟩ := h.at' b y
  rw [h1] at z
  exact hf b y (k ⟨_, (Option.some.inj z).symm⟩)
theorem Clr.rows {cs : List Addr} {H0 H H' : Hp} (e : Clr cs H H') (h : Cs H0 H cs) {d : Addr} {inner : List Pc} {us : List V} (hr : RowsG H d inner us) : RowsG H' d inner us := fun u hu => by
  obtain ⟨a, rk, h1, h2, h3, h4⟩ := hr u hu
  exact ⟨a, rk, h1, h2, e _ _ h3 (h.tup h3 (fun _ z => nomatch z)), h4⟩
theorem Cs.rowl {cs : List Addr} {H0 H : Hp} (h : Cs H0 H cs) {d l : Addr} {inner : List Pc} {us : List V} (hl : H l = some (.lst us)) (hr : RowsG H d inner us) : l ∉ cs := fun z => by
  obtain ⟨x, t, a, vs, h1, h2, h3⟩ := h.at' l z
  rw [h1] at hl
  cases hl
  obtain ⟨b, rk, y1, _, y3, _⟩ := hr x List.mem_cons_self
  rw [h2] at y1
  cases y1
  rw [h3] at y3
  cases y3
theorem Clr.dat {cs : List Addr} {H0 H H' : Hp} (e : Clr cs H H') (h : Cs H0 H cs) {d : Addr} {kvs : List (Key × V)} (hd : DatOk H d kvs) : DatOk H' d kvs := by
  refine ⟨fun p hp => ⟨(hd.all p hp).1, ?_⟩, hd.nd⟩
  rcases (hd.all p hp).2 with z | ⟨l, us, inner, h1, h2, h3, h4⟩
  · exact .inl z
  · exact .inr ⟨l, us, inner, h1, e _ _ h2 (h.rowl h2 h4), h3, e.rows h h4⟩
theorem Clr.fof {cs : List Addr} {H0 H H' : Hp} (e : Clr cs H H') (h : Cs H0 H cs) {d : Addr} {kvs : List (Key × V)} (hd : DatOk H d kvs) : FOf H' kvs = FOf H kvs := by
  funext n
  cases z : valV kvs (Sum.inr n : Key) with
  | none => show (valV kvs (Sum.inr n)).bind _ = (valV kvs (Sum.inr n)).bind _; rw [z]; rfl
  | some u =>
    rw [FOf_of z, FOf_of z]
    rcases (hd.all _ (valV_some_mem z)).2 with ⟨t, y⟩ | ⟨l, us, inner, y, h2, _, h4⟩
    · have y : u = .str t := y
      subst y; rfl
    · have y : u = .ref l := y
      subst y
      rw [valO_of h2, valO_of (e _ _ h2 (h.rowl h2 h4))]
      congr 2
      refine List.map_congr_left fun v hv => ?_
      obtain ⟨a, rk, z1, _, z3, _⟩ := h4 v hv
      subst z1
      rw [rowV_of z3, rowV_of (e _ _ z3 (h.tup z3 (fun _ z => nomatch z)))]
end Lf

set_option Elab.async false
set_option linter.all false
set_option maxRecDepth 100000
set_option maxHeartbeats 2000000
namespace Lf
open PySem L2
section
variable {P : Program} {w : World} {K : PySem.W.Frag} {mg : Str → Option Value} {base : Heap} {D : Adr}
theorem scNO : FnScope ["form"] ["form"] (defScope sNamesOf) := ⟨rfl, rfl, rfl, by decide +kernel, rfl, by decide +kernel, by decide +kernel⟩
def nmV (ps : List Pie) : List V := (ps.flatMap Pie.nm).map V.str
def spNO (D : Adr) : Sp := fun vs H Q _ => ∃ (H0 : Hp) (ps : List Pie) (v : V), vs = [v] ∧ FormAt D.cl H0 H ps v ∧ FormOk ps ∧ ∀ r, H r = none → Q (.ref r) (upd H r (.lst (nmV ps)))
theorem items_of {H0 H : Hp} : ∀ {ps : List Pie} {ys : List V}, Paired (Pie.Obj D.cl H0 H) ps ys → Paired (ItemAt D H) (ps.map Pie.nm) ys
  | _, _, .nil => .nil
  | _, _, .cons a t => .cons (Pie.Obj.item a) (items_of t)
theorem ok_NO (T : Txt w K mg D) : FnOk P w K mg base CX0 2 D.aNamesOf D.dNamesOf ["form"] (spNO D) := by
  have G : FnOk P w K mg base CX0 1 D.aNamesIn D.dNamesIn ["parts"] (spNI K D) := ok_NI T
  refine T.fNamesOf.ok scNO (fun vs H Q E h => ?_) (fun cdv A outer s H vs Q E hr h => ?_)
  · obtain ⟨H0, ps, v, rfl, _⟩ := h; rfl
  · obtain ⟨H0, ps, v, rfl, ⟨a, l, ws, m, us, rfl, hfl, hl, _, hpl, _⟩, ok, q⟩ := h
    obtain ⟨dx, fs, ha, hf⟩ := hfl
    have hws : ws.length = ps.length := hpl.length.symm
    have := ok.hi
    refine ⟨_, pss_one (ps_ret (pe_call G hr rfl T.mNamesIn T.fNamesIn.kp T.bNamesIn .nil pass0 (pa_cons (pe_fld (pv 0) rfl) pa_nil))), ?_⟩
    refine ⟨_, rfl, a, _, dx, _, _, rfl, ha, T.kForm.cl, T.nFormPlan, hf _ List.mem_cons_self, l, ws, ps.map Pie.nm, rfl, hl, by omega, items_of hpl, fun ns hns => ?_, fun r hr' => ?_⟩
    · obtain ⟨p, _, rfl⟩ := List.mem_map.mp hns
      exact pie_nm1 p
    · have e : (ps.map Pie.nm).flatten = ps.flatMap Pie.nm := by rw [List.flatMap_def]
      rw [e]
      exact q r hr'
theorem scLaw : FnScope ["script", "pieces", "handed", "k", "inner", "form", "values", "ahead", "row", "due", "found"] ["script"] (defScope sLaw) := ⟨rfl, rfl, rfl, by decide +kernel, rfl, by decide +kernel, by decide +kernel⟩
def spLaw (K : PySem.W.Frag) : Sp := fun vs H Q _ => ∃ (a : Addr) (ns : List Int), vs = [.ref a] ∧ Scr K H a ns ∧ ∀ H', Q (.bl true) H'
theorem ixN_nat {n i : Nat} (h : i < n) : ixN n (0 + (i : Int)) = some i := by
  unfold ixN
  rw [if_pos (by omega), if_pos (by omega)]
  congr 1
  omega
theorem set_mid {α : Type} {u v : α} {r : List α} : ∀ {xs : List α}, (xs ++ u :: r).set xs.length v = (xs ++ [v]) ++ r
  | [] => rfl
  | x :: xs => by
    show x :: (xs ++ u :: r).set xs.length v = x :: ((xs ++ [v]) ++ r)
    rw [set_mid]
theorem get_mid {α : Type} {u : α} {r : List α} : ∀ {xs : List α}, (xs ++ u :: r)[xs.length]? = some u
  | [] => rfl
  | x :: xs => by
    show (xs ++ u :: r)[xs.length]? = some u
    exact get_mid
theorem ok_law (T : Txt w K mg D) : FnOk P w K mg base CX0 13 D.aLaw D.dLaw ["script"] (spLaw K) := by
  have GP : FnOk P w K mg base CX0 6 D.aLawPieces D.dLawPieces ["script", "many", "most"] (spPieces K) := ok_pieces T
  have GV : FnOk P w K mg base CX0 5 D.aLawValues D.dLawValues ["script", "start", "pieces"] (spValues K) := ok_values T
  have GF : FnOk P w K mg base CX0 11 D.aFormI D.dFormI ["self", "pieces"] (spFormI D) := ok_formI T
  have GW : FnOk P w K mg base CX0 2 D.aLawWritten D.dLawWritten ["pieces", "values"] spWritten := ok_written T
  have GX : FnOk P w K mg base CX0 8 D.aFill D.dFill ["form", "values"] (spFill D) := ok_fill T
  have GN : FnOk P w K mg base CX0 2 D.aNamesOf D.dNamesOf ["form"] (spNO D) := ok_NO T
  refine T.fLaw.ok scLaw (fun vs H Q E h => ?_) (fun cdv A outer s H vs Q E hr h => ?_)
  · obtain ⟨a, ns, rfl, _⟩ := h; rfl
  · obtain ⟨a, ns, rfl, hS, q⟩ := h
    have hr2 : Room 2 _ := hr.mono (by decide)
    have hr5 : Room 5 _ := hr.mono (by decide)
    have hr6 : Room 6 _ := hr.mono (by decide)
    have hr8 : Room 8 _ := hr.mono (by decide)
    have hu4 := Nat.lt_of_le_of_lt (Nat.add_le_add_left (by decide : 4 ≤ 64) _) hr.units
    refine ⟨_, pss_cons (ps_set (i := 1) scLaw.nd rfl (Or.inl rfl) (pe_call GP hr6 rfl T.mLawPieces T.fLawPieces.kp T.bLawPieces .nil pass0 (pa_cons (pv 0) (pa_cons pe_int (pa_cons pe_int pa_nil)))))
      (pss_cons (ps_set (i := 2) scLaw.nd rfl (Or.inl rfl) (pe_callTy call_list_of rfl T.zList (by decide +kernel) (pa_cons (pv 1) pa_nil)))
      (pss_cons (ps_for PassesOwn.never rfl (pi_range1 rfl T.zRange (pa_cons (pe_callB call_len_seq rfl T.zLen PySem.boot_len (pa_cons (pv 2) pa_nil)) pa_nil)) (pg_name (i := 3) scLaw.nd rfl (Or.inl rfl))
        (pss_one (ps_if (pt_cmpR op_eq (pe_ix ix_tup (pe_ix ix_list (pv 2) (pv 3) (fun _ _ => rfl)) pe_int (fun _ _ => rfl)) pe_str (nomark _))
          (pss_one (ps_asg (pe_op op_catT (pe_tup (pa_cons pe_str (pa_cons (pe_ix ix_tup (pe_ix ix_list (pv 2) (pv 3) (fun _ _ => rfl)) pe_int (fun _ _ => rfl)) (pa_cons (pe_callTy call_list_of rfl T.zList (by decide +kernel) (pa_cons (pe_ix ix_tup (pe_ix ix_list (pv 2) (pv 3) (fun _ _ => rfl)) pe_int (fun _ _ => rfl)) pa_nil)) pa_nil))))
            (pe_slice sl_tup (pe_ix ix_list (pv 2) (pv 3) (fun _ _ => rfl)) (po_some pe_int) po_none)) (pg_sub (pv 2) (pv 3) set_list))) pss_nil)))
      (pss_cons (ps_setComp (i := 4) (cp := []) (tt := tTest (tOp rEq (tOp (rIxT K) (tVar 0) (tC (.int 0))) (tC (.str "rows")))) (te := tOp (rIxT K) (tVar 0) (tC (.int 2))) scLaw.nd rfl rfl (CompScope.of (defScope sLaw) ["script", "pieces", "handed", "k", "inner", "form", "values", "ahead", "row", "due", "found"] rfl rfl (by decide +kernel)) rfl (pi_list (pv 2))
        (fun _ _ _ _ _ => pts_one (pt_cmpR op_eq (pe_ix ix_tup (pv 0) pe_int (fun _ _ => rfl)) pe_str (nomark _))) (fun _ _ _ _ _ => pe_ix ix_tup (pv 0) pe_int (fun _ _ => rfl)))
      (pss_cons (ps_set (i := 5) scLaw.nd rfl (Or.inl rfl) (pe_make T.mkForm GF (hr.mono (by decide)) rfl T.mgForm T.bFormI .nil pass0 (pa_cons (pv 2) pa_nil)))
      (pss_cons (ps_set (i := 6) scLaw.nd rfl (Or.inl rfl) (pe_call GV hr5 rfl T.mLawValues T.fLawValues.kp T.bLawValues .nil pass0 (pa_cons (pv 0) (pa_cons pe_int (pa_cons (pv 1) pa_nil)))))
      (pss_cons (ps_set (i := 7) scLaw.nd rfl (Or.inl rfl) (pe_call GX hr8 rfl T.mFill T.fFill.kp T.bFill .nil pass0 (pa_cons (pv 5) (pa_cons (pv 6) pa_nil))))
      (pss_cons (ps_if (PW.pt (pw_or (pt_cmpR op_neSame (pv 2) (pv 1) (nomark _)) (pw_or (pt_not (pt_val (pe_callB call_isinst rfl T.zIsinstance PyProof.Rows.boot_isinstance (pa_cons (pe_fld (pv 5) rfl) (pa_cons (pe_bltn (v := .ty "list") rfl T.zList PyProof.Rows.boot_list rfl) pa_nil)))))
          (pw_or1 (pt_cmpR op_neSame (pe_fld (pv 5) rfl) (pv 1) (nomark _)))))) (pss_one (ps_ret pe_bl)) pss_nil)
      (pss_cons (ps_expr (pe_bm PySem.F.plainAttrs_list PySem.F.slot_list_append PySem.F.type_list_append mt_append (pv 2) (pa_cons (pe_tup (pa_cons pe_str (pa_cons pe_str pa_nil))) pa_nil)))
      (pss_cons (ps_for PassesOwn.never rfl (pi_list (pv 4)) (pg_name (i := 8) scLaw.nd rfl (Or.inl rfl)) (pss_one (ps_expr (pe_bm0 PySem.F.plainAttrs_list PySem.F.slot_list_clear PySem.F.type_list_clear mt_clear (pv 8)))))
      (pss_cons (ps_setComp (i := 9) (cp := []) (tt := tTest (tOp rNe (tOp (rIxT K) (tVar 0) (tC (.int 0))) (tC (.str "say")))) (te := tOp (rIxT K) (tVar 0) (tC (.int 1))) scLaw.nd rfl rfl (CompScope.of (defScope sLaw) ["script", "pieces", "handed", "k", "inner", "form", "values", "ahead", "row", "due", "found"] rfl rfl (by decide +kernel)) rfl (pi_list (pv 1))
        (fun _ _ _ _ _ => pts_one (pt_cmpR op_ne (pe_ix ix_tup (pv 0) pe_int (fun _ _ => rfl)) pe_str (nomark _))) (fun _ _ _ _ _ => pe_ix ix_tup (pv 0) pe_int (fun _ _ => rfl)))
      (pss_cons (ps_set (i := 10) scLaw.nd rfl (Or.inl rfl) (pe_call GN hr2 rfl T.mNamesOf T.fNamesOf.kp T.bNamesOf .nil pass0 (pa_cons (pv 5) pa_nil)))
      (pss_cons (ps_if (PW.pt (pw_or (pt_not (pt_val (pe_callB call_isinst rfl T.zIsinstance PyProof.Rows.boot_isinstance (pa_cons (pv 10) (pa_cons (pe_bltn (v := .ty "list") rfl T.zList PyProof.Rows.boot_list rfl) pa_nil)))))
          (pw_or (pt_cmpR op_neSame (pv 10) (pv 9) (nomark _)) (pw_or1 (pt_cmpR op_neSame (pe_fld (pv 5) rfl) (pv 1) (nomark _)))))) (pss_one (ps_ret pe_bl)) pss_nil)
      (pss_cons (ps_expr (pe_bm PySem.F.plainAttrs_list PySem.F.slot_list_append PySem.F.type_list_append mt_append (pv 10) (pa_cons pe_str pa_nil)))
      (pss_one (ps_ret (pe_and (pe_cmpR op_eqSame (pe_call GN hr2 rfl T.mNamesOf T.fNamesOf.kp T.bNamesOf .nil pass0 (pa_cons (pv 5) pa_nil)) (pv 9) (nomark _))
        (pe_and (pe_cmpR op_eq (pe_call GX hr8 rfl T.mFill T.fFill.kp T.bFill .nil pass0 (pa_cons (pv 5) (pa_cons (pv 6) pa_nil))) (pv 7) (nomark _))
          (pe_one (pe_cmpR op_eq (pv 7) (pe_call GW hr2 rfl T.mLawWritten T.fLawWritten.kp T.bLawWritten .nil pass0 (pa_cons (pv 1) (pa_cons (pv 6) pa_nil))) (nomark _)))))))))))))))))))), ?_⟩
    refine ⟨_, rfl, a, ns, 6, 4, rfl, hS, by decide, by decide, by decide, by decide, fun r us ps H1 e1 nr hr' hp ok nn nN => ?_⟩
    have hp1 : Paired (Pie.At H1) ps us := Paired.mapP hp fun _ _ z => z.at'
    have hus : us.length = ps.length := hp1.length.symm
    have h6 := ok.hi
    have h1 := ok.lo
    refine ⟨_, rfl, r, us, rfl, .inl (SqL.of hr'), fun h hh => ?_⟩
    have s2 := same_new hh (.lst us)
    have hH2 : L2.upd H1 h (.lst us) h = some (.lst us) := upd_same
    revert s2 hH2
    generalize L2.upd H1 h (.lst us) = H2
    intro s2 hH2
    refine ⟨_, rfl, h, us, rfl, .inl (SqL.of hH2), _, rfl, by omega, by omega, ?_⟩
    rw [Int.toNat_natCast]
    refine for_range (lo := 0) (n := us.length) (fun i σ H' => ∃ (xs : List V) (o3 : Option V), σ = [some (.ref a), some (.ref r), some (.ref h), o3, none, none, none, none, none, none, none] ∧ Same H1 H' ∧ (∀ b o, H2 b = some o → H' b ≠ none) ∧ H' h = some (.lst (xs ++ us.drop i)) ∧ Paired (Pie.AtF H2 H') (ps.take i) xs)
      ⟨[], none, rfl, s2, (fun b o z => by rw [z]; exact fun y => nomatch y), hH2, .nil⟩ (fun i σ H' hi e => ?_) (fun σ H' e => ?_)
    · obtain ⟨xs, o3, rfl, e2, e3, e4, e5⟩ := e
      obtain ⟨x, hx⟩ : ∃ x, us[i]? = some x := ⟨_, List.getElem?_eq_getElem hi⟩
      obtain ⟨p, ep, pat⟩ := Paired.two hp1 hx
      have hxs : xs.length = i := by have := e5.length; rw [List.length_take] at this; omega
      have ed : us.drop i = x :: us.drop (i + 1) := by rw [List.drop_eq_getElem_cons hi, (List.getElem?_eq_some_iff.mp hx).2]
      rw [ed] at e4
      have hat : atI (xs ++ x :: us.drop (i + 1)) (0 + (i : Int)) = some x := by
        rw [Int.zero_add]
        refine atI_nat ?_
        rw [← hxs]; exact get_mid
      have pat' := pat.mono e2
      have tk := take_snoc ep
      cases p with
      | one p =>
        obtain ⟨b, eb, hb⟩ := pat'
        subst eb
        have fin : Paired (Pie.AtF H2 H') (ps.take (i + 1)) (xs ++ [.ref b]) := by
          rw [tk]; exact e5.snoc (show (Pie.one p).AtF H2 H' (.ref b) from ⟨b, rfl, hb⟩)
        have e4' : H' h = some (.lst ((xs ++ [.ref b]) ++ us.drop (i + 1))) := by rw [e4, List.append_assoc]; rfl
        cases p with
        | say z =>
          refine ⟨_, rfl, _, rfl, h, _, _, _, rfl, rfl, SqL.of e4, hat, b, _, _, _, rfl, rfl, SqT.of hb, rfl, rfl, _, rfl, iteDF ne_sr ?_⟩
          exact ⟨_, _, rfl, e2, e3, e4', fin⟩
        | ask n sg lo hi' =>
          refine ⟨_, rfl, _, rfl, h, _, _, _, rfl, rfl, SqL.of e4, hat, b, _, _, _, rfl, rfl, SqT.of hb, rfl, rfl, _, rfl, iteDF ne_ra.symm ?_⟩
          exact ⟨_, _, rfl, e2, e3, e4', fin⟩
      | rows n inner gap lo hi' =>
        obtain ⟨b, l, ws, eb, hb, hl, hin⟩ := pat'
        subst eb
        refine ⟨_, rfl, _, rfl, h, _, _, _, rfl, rfl, SqL.of e4, hat, b, _, _, _, rfl, rfl, SqT.of hb, rfl, rfl, _, rfl, iteD rfl ?_⟩
        refine ⟨_, rfl, _, rfl, h, _, _, _, rfl, rfl, SqL.of e4, hat, b, _, _, _, rfl, rfl, SqT.of hb, rfl, _, rfl, _, rfl, h, _, _, _, rfl, rfl, SqL.of e4, hat, b, _, _, _, rfl, rfl, SqT.of hb, rfl, l, ws, rfl, .inl (SqL.of hl), fun l2 hl2 => ⟨(by show 3 ≤ sizeLine; decide), fun p3 h3 => ?_⟩⟩
        have g2 := same_new hl2 (.lst ws)
        have g3 := same_new h3 (.tup [.str "rows", .str n, .ref l2])
        have g23 := g2.trans g3
        refine ⟨_, rfl, _, rfl, h, _, _, _, rfl, rfl, SqL.of (g23 _ _ e4), hat, _, rfl, b, _, rfl, SqT.of (g23 _ _ hb), fun z => absurd (show (3 : Nat) = 0 from z.1) (by decide), fun p5 h5 => ?_⟩
        have g5 := same_new h5 (.tup (cutV [.str "rows", .str n, .ref l, .str gap, .int lo, .int hi'] (some 3) none))
        refine ⟨p3, p5, _, _, rfl, rfl, SqT.of (g5 _ _ upd_same), SqT.of upd_same, (fun z => nomatch z), (by show 3 + 3 ≤ sizeLine; decide), (fun z => nomatch z), fun _ p6 h6' => ?_⟩
        have g6 := same_new h6' (.tup ([.str "rows", .str n, .ref l2] ++ cutV [.str "rows", .str n, .ref l, .str gap, .int lo, .int hi'] (some 3) none))
        have gg := g23.trans (g5.trans g6)
        have t6 : L2.upd (L2.upd (L2.upd (L2.upd H' l2 (.lst ws)) p3 (.tup [.str "rows", .str n, .ref l2])) p5 (.tup (cutV [.str "rows", .str n, .ref l, .str gap, .int lo, .int hi'] (some 3) none))) p6 (.tup ([.str "rows", .str n, .ref l2] ++ cutV [.str "rows", .str n, .ref l, .str gap, .int lo, .int hi'] (some 3) none)) p6 = some (.tup [.str "rows", .str n, .ref l2, .str gap, .int lo, .int hi']) := upd_same
        have l6 := (g5.trans g6) _ _ (g3 _ _ (show L2.upd H' l2 (.lst ws) l2 = some (.lst ws) from upd_same))
        refine ⟨_, rfl, _, rfl, h, _, _, i, rfl, rfl, gg _ _ e4, ixN_nat (by rw [List.length_append, List.length_cons]; omega), ?_⟩
        have h2l : H2 l2 = none := by
          cases z : H2 l2 with
          | none => rfl
          | some o => exact absurd hl2 (e3 _ _ z)
        have hlh : l2 ≠ h := fun z => by rw [z, hH2] at h2l; cases h2l
        have h1h : H1 h = none := hh
        revert t6 l6 gg
        generalize L2.upd (L2.upd (L2.upd (L2.upd H' l2 (.lst ws)) p3 (.tup [.str "rows", .str n, .ref l2])) p5 (.tup (cutV [.str "rows", .str n, .ref l, .str gap, .int lo, .int hi'] (some 3) none))) p6 (.tup ([.str "rows", .str n, .ref l2] ++ cutV [.str "rows", .str n, .ref l, .str gap, .int lo, .int hi'] (some 3) none)) = H6
        intro gg t6 l6
        have es : (xs ++ .ref b :: us.drop (i + 1)).set i (.ref p6) = (xs ++ [.ref p6]) ++ us.drop (i + 1) := by rw [← hxs]; exact set_mid
        rw [es]
        have kp : Keep H2 H' (L2.upd H6 h (.lst ((xs ++ [.ref p6]) ++ us.drop (i + 1)))) := fun b' o' z k => by
          by_cases y : b' = h
          · subst y
            rw [e4] at z
            rw [k ⟨_, (Option.some.inj z).symm⟩] at hH2
            cases hH2
          · rw [upd_ne y]; exact gg _ _ z
        have p6h : p6 ≠ h := ne_of t6 (gg _ _ e4) (by intro z; cases z)
        refine ⟨xs ++ [.ref p6], _, rfl, Same.updN (e2.trans gg) h1h _, fun b' o' z => ?_, upd_same, ?_⟩
        · by_cases y : b' = h
          · rw [y, upd_same]; exact fun z => nomatch z
          · rw [upd_ne y]
            cases w' : H' b' with
            | none => exact absurd w' (e3 _ _ z)
            | some o2 => rw [gg _ _ w']; exact fun z => nomatch z
        · rw [tk]
          refine (Paired.mapP e5 fun _ _ z => z.keep kp).snoc ?_
          exact ⟨p6, l2, ws, rfl, by rw [upd_ne p6h]; exact t6, by rw [upd_ne hlh]; exact l6, h2l, Paired.mapP hin fun _ _ z => (z.mono gg).keep (H0 := H2) (fun b' o' z k => by
            by_cases y : b' = h
            · subst y
              rw [gg _ _ e4] at z
              rw [k ⟨_, (Option.some.inj z).symm⟩] at hH2
              cases hH2
            · rw [upd_ne y]; exact z)⟩
    · obtain ⟨xs, o3, rfl, e2, e3, e4, e5⟩ := e
      rw [hus, List.take_length] at e5
      rw [List.drop_length, List.append_nil] at e4
      have hxs : xs.length = ps.length := e5.length.symm
      refine ⟨_, rfl, h, rfl, ⟨_, SqL.of e4⟩, comp_listT (xs := xs) (fun i ys H5 => H5 = H' ∧ ∃ cs : List Addr, ys = cs.map V.ref ∧ cs.length ≤ i ∧ Cs H2 H' cs) ⟨rfl, [], rfl, Nat.le_refl _, ⟨(fun _ z => nomatch z), (fun _ z => nomatch z)⟩⟩ (fun i ys H5 hi e => ?_) (small (by omega)) (fun i x ys H5 hx e => ?_) (fun ys H5 e q' hq' => ?_)⟩
      · obtain ⟨rfl, cs, rfl, hc, _⟩ := e
        exact ⟨SqL.of e4, by rw [List.length_map]; exact hc⟩
      · obtain ⟨rfl, cs, rfl, hc, hcs⟩ := e
        obtain ⟨p, ep, pat⟩ := Paired.two e5 hx
        have okp := ok.all p (List.mem_of_getElem? ep)
        cases p with
        | one p =>
          obtain ⟨b, rfl, hb⟩ := pat
          cases p with
          | say z =>
            refine ⟨_, rfl, b, _, _, _, rfl, rfl, SqT.of hb, rfl, rfl, _, rfl, iteDF ne_sr ?_⟩
            exact ⟨rfl, cs, rfl, Nat.le_succ_of_le hc, hcs⟩
          | ask n sg lo hi' =>
            refine ⟨_, rfl, b, _, _, _, rfl, rfl, SqT.of hb, rfl, rfl, _, rfl, iteDF ne_ra.symm ?_⟩
            exact ⟨rfl, cs, rfl, Nat.le_succ_of_le hc, hcs⟩
        | rows n inner gap lo hi' =>
          obtain ⟨b, l, ws, rfl, hb, hl, nl, hin⟩ := pat
          refine ⟨_, rfl, b, _, _, _, rfl, rfl, SqT.of hb, rfl, rfl, _, rfl, iteD rfl ?_⟩
          refine ⟨_, rfl, b, _, _, _, rfl, rfl, SqT.of hb, rfl, rfl, cs ++ [l], by rw [List.map_append]; rfl, by rw [List.length_append]; exact Nat.succ_le_succ hc, ?_⟩
          refine ⟨fun c hc' => ?_, fun c hc' => ?_⟩
          · rcases List.mem_append.mp hc' with z | z
            · exact hcs.new c z
            · have : c = l := by simpa using z
              rw [this]; exact nl
          · rcases List.mem_append.mp hc' with z | z
            · exact hcs.at' c z
            · have : c = l := by simpa using z
              subst this
              have := okp.2.1.lo
              cases hin with
              | nil => exact absurd this (by decide)
              | cons u t =>
                obtain ⟨b', rfl, hb'⟩ := u
                exact ⟨_, _, b', _, hl, rfl, hb'⟩
      obtain ⟨rfl, cs, rfl, hc, hcs⟩ := e
      have s6 := same_new hq' (.lst (cs.map V.ref))
      have hq6 : L2.upd H5 q' (.lst (cs.map V.ref)) q' = some (.lst (cs.map V.ref)) := upd_same
      have hqn : ∀ b o, H5 b = some o → b ≠ q' := fun b o z => ne_of_none z hq'
      have qh : q' ≠ h := Ne.symm (hqn _ _ e4)
      have qc : q' ∉ cs := fun z => by
        obtain ⟨x, t, b, vs, y1, _⟩ := hcs.at' _ z
        exact hqn _ _ y1 rfl
      revert s6 hq6
      generalize L2.upd H5 q' (.lst (cs.map V.ref)) = H6
      intro s6 hq6
      have hh6 := s6 _ _ e4
      have p6 : Paired (Pie.At H6) ps xs := Paired.mapP e5 fun _ _ z => z.at'.mono s6
      have s16 := e2.trans s6
      refine ⟨_, rfl, fun f df nf ndf ne => ?_⟩
      have s7 : Same H6 (L2.upd (L2.upd H6 df (.own f)) f (.ins D.cForm df [])) := Same.updN (same_new ndf _) nf _
      refine ⟨f, df, h, xs, ps, rfl, upd_same, s7 _ _ hh6, Paired.mapP p6 fun _ _ z => z.mono s7, ok, fun H8 b8 f8 => ⟨rfl, ?_⟩⟩
      have s68 : Same H6 H8 := fun b o z => b8 b o (s7 _ _ z) (ne_of_none z nf)
      have s18 := s16.trans s68
      have n7 : ∀ b o, H6 b = some o → L2.upd (L2.upd H6 df (.own f)) f (.ins D.cForm df []) b ≠ none := fun b o z => by rw [s7 _ _ z]; exact fun y => nomatch y
      revert f8 n7 b8 s7
      generalize L2.upd (L2.upd H6 df (.own f)) f (.ins D.cForm df []) = H7
      intro s7 b8 f8 n7
      refine ⟨_, rfl, _, rfl, a, r, ns, 300, us, ps, rfl, (hS.mono e1).mono s18, by decide, by decide, s18 _ _ hr', Paired.mapP hp1 fun _ _ z => z.mono s18, ok, fun d kvs H9 e9 nd hd hD h6' hV hN => ?_⟩
      have hfit : ∀ p ∈ ps, FitPie (FOf H9 kvs) p := fun p hp' => FOf_fit (hV p hp')
      refine ⟨_, rfl, _, rfl, _, ps, FOf H9 kvs, _, _, rfl, f8.mono e9, ok, ⟨d, kvs, rfl, .inl hd, FOf_at hD⟩, hfit, fun H10 s10 => ?_⟩
      have s1A := (s18.trans e9).trans s10
      have s6A := (s68.trans e9).trans s10
      have F10 : FOf H10 kvs = FOf H9 kvs := FOf_same s10 hD
      have hD10 := hD.mono s10
      have fA := f8.mono (e9.trans s10)
      have rA := s1A _ _ hr'
      have pA : Paired (Pie.At H10) ps us := Paired.mapP hp1 fun _ _ z => z.mono s1A
      obtain ⟨f', l', vs', m, us2, ef, hfl, hl', nl', hpl, hm, nm, hpm⟩ := id fA
      cases ef
      obtain ⟨dx, fs, hf, hff⟩ := id hfl
      have efp := hff ("pieces", .ref m) (List.mem_cons_of_mem _ List.mem_cons_self)
      refine ⟨_, rfl, _, rfl, 3, hu4, .inl ⟨h, r, xs, us, rfl, rfl, SqL.of (s6A _ _ hh6), SqL.of rA, EqD.pies (Paired.mapP p6 fun _ _ z => z.mono s6A) pA⟩, _, rfl, iteF ?_⟩
      refine ⟨_, rfl, f, _, dx, _, _, rfl, hf, T.kForm.cl, T.nFormPieces, efp, _, _, true, .inr ⟨_, rfl, T.isListList⟩, TyOf.lst hm, _, rfl, iteF ?_⟩
      refine ⟨_, rfl, f, _, dx, _, _, rfl, hf, T.kForm.cl, T.nFormPieces, efp, _, rfl, 3, hu4, .inl ⟨m, r, us2, us, rfl, rfl, SqL.of hm, SqL.of rA, EqD.pies (Paired.mapP hpm fun _ _ z => z.at') pA⟩, _, rfl, iteF ?_⟩
      have hhA := s6A _ _ hh6
      have hqA := s6A _ _ hq6
      have hC : Cs H1 H10 (h :: cs) := by
        have hcs' := hcs.mono (s6.trans s6A)
        refine ⟨fun c hc' => ?_, fun c hc' => ?_⟩
        · rcases List.mem_cons.mp hc' with z | z
          · rw [z]; exact hh
          · exact s2.free (hcs.new c z)
        · rcases List.mem_cons.mp hc' with z | z
          · subst z
            have p10 : Paired (Pie.At H10) ps xs := Paired.mapP p6 fun _ _ z => z.mono s6A
            clear e5 p6
            cases p10 with
            | nil => exact absurd h1 (by decide)
            | cons u t =>
              rename_i p _ x _
              cases p with
              | one p => obtain ⟨b, rfl, hb⟩ := u; exact ⟨_, _, b, _, hhA, rfl, hb⟩
              | rows n inner gap lo hi' => obtain ⟨b, l, ws, rfl, hb, _⟩ := u; exact ⟨_, _, b, _, hhA, rfl, hb⟩
          · exact hcs'.at' c z
      have hqC : q' ∉ h :: cs := fun z => by
        rcases List.mem_cons.mp z with y | y
        · exact qh y
        · exact qc y
      have hC7 : ∀ c ∈ h :: cs, H7 c ≠ none := fun c hc' => by
        rcases List.mem_cons.mp hc' with z | z
        · rw [z]; exact n7 _ _ hh6
        · obtain ⟨x, t, b, vs, y1, _⟩ := hcs.at' c z
          exact n7 _ _ (s6 _ _ y1)
      have hch : ∀ c ∈ cs, c ≠ h := fun c hc' z => by
        have := hcs.new c hc'
        rw [z, hH2] at this
        cases this
      refine ⟨_, rfl, .inl ⟨rfl, _, SqL.of hhA⟩, (by show 2 ≤ sizeLine; decide), fun pm hpm' => ⟨h, xs, .ref pm, rfl, rfl, same_new hpm' _ _ _ hhA, small1000 (by omega), ?_⟩⟩
      have cB : Clr (h :: cs) H10 (L2.upd (L2.upd H10 pm (.tup [.str "say", .str "more"])) h (.lst (xs ++ [.ref pm]))) := (Clr.refl.same (same_new hpm' _)).put List.mem_cons_self _
      have lB : ∀ c ∈ cs, ∃ ys, L2.upd (L2.upd H10 pm (.tup [.str "say", .str "more"])) h (.lst (xs ++ [.ref pm])) c = some (.lst ys) := fun c hc' => by
        obtain ⟨x, t, b, vs, y1, _⟩ := hC.at' c (List.mem_cons_of_mem _ hc')
        exact ⟨_, by rw [upd_ne (hch c hc')]; exact same_new hpm' _ _ _ y1⟩
      revert cB lB
      generalize L2.upd (L2.upd H10 pm (.tup [.str "say", .str "more"])) h (.lst (xs ++ [.ref pm])) = HB
      intro cB lB
      refine ⟨_, rfl, q', rfl, ⟨_, SqL.of (cB _ _ hqA hqC)⟩, for_list (xs := cs.map V.ref) (fun i σ H' => ∃ o8, σ = [some (.ref a), some (.ref r), some (.ref h), o3, some (.ref q'), some (.ref f), some (.ref d), some (.str (wForm ps (FOf H9 kvs))), o8, none, none] ∧ Clr (h :: cs) H10 H' ∧ ∀ c ∈ cs, ∃ ys, H' c = some (.lst ys)) ⟨_, rfl, cB, lB⟩ (fun i σ H' hi e => ?_) (fun i x σ H' hx e => ?_) (fun σ H' e => ?_)⟩
      · obtain ⟨o8, _, z, _⟩ := e
        exact SqL.of (z _ _ hqA hqC)
      · obtain ⟨o8, rfl, z1, z2⟩ := e
        obtain ⟨c, hc', rfl⟩ := List.mem_map.mp (List.mem_of_getElem? hx)
        obtain ⟨ys, y1⟩ := z2 c hc'
        refine ⟨_, rfl, .inl ⟨rfl, _, SqL.of y1⟩, c, ys, rfl, rfl, y1, ?_⟩
        refine ⟨_, rfl, z1.put (List.mem_cons_of_mem _ hc') _, fun c2 hc2 => ?_⟩
        by_cases y : c2 = c
        · exact ⟨[], by rw [y]; exact upd_same⟩
        · obtain ⟨ys2, y2⟩ := z2 c2 hc2
          exact ⟨ys2, by rw [upd_ne y]; exact y2⟩
      obtain ⟨o8, rfl, cl, _⟩ := e
      have sC := cl.old hC s1A
      have fC := fA.keep (cl.keep hC hC7)
      have dC : H' d = some (.dK kvs) := cl _ _ (s10 _ _ hd) (hC.tup (s10 _ _ hd) (fun _ z => nomatch z))
      have hDC := cl.dat hC hD10
      have FC : FOf H' kvs = FOf H9 kvs := (cl.fof hC hD10).trans F10
      have rC := sC _ _ hr'
      have pC : Paired (Pie.At H') ps us := Paired.mapP hp1 fun _ _ z => z.mono sC
      refine ⟨_, rfl, r, rfl, ⟨_, SqL.of rC⟩, comp_listT (xs := us) (fun i ys H5 => H5 = H' ∧ ys = nmV (ps.take i)) ⟨rfl, rfl⟩ (fun i ys H5 hi e => ?_) (small (by omega)) (fun i x ys H5 hx e => ?_) (fun ys H5 e r9 hr9 => ?_)⟩
      · obtain ⟨rfl, rfl⟩ := e
        refine ⟨SqL.of rC, ?_⟩
        have := flat_le pie_nm1 (ps.take i)
        rw [List.length_take] at this
        unfold nmV
        rw [List.length_map]
        omega
      · obtain ⟨rfl, rfl⟩ := e
        obtain ⟨p, ep, pat⟩ := Paired.two pC hx
        have tk : nmV (ps.take (i + 1)) = nmV (ps.take i) ++ p.nm.map V.str := by unfold nmV; rw [take_snoc ep, List.flatMap_append, List.map_append]; simp
        cases p with
        | one p =>
          obtain ⟨b, rfl, hb⟩ := pat
          cases p with
          | say z =>
            refine ⟨_, rfl, b, _, _, _, rfl, rfl, SqT.of hb, rfl, rfl, _, rfl, iteNS rfl ⟨rfl, ?_⟩⟩
            rw [tk]; exact (List.append_nil _).symm
          | ask n sg lo hi' =>
            refine ⟨_, rfl, b, _, _, _, rfl, rfl, SqT.of hb, rfl, rfl, _, rfl, iteN ne_as ?_⟩
            exact ⟨_, rfl, b, _, _, _, rfl, rfl, SqT.of hb, rfl, rfl, tk.symm⟩
        | rows n inner gap lo hi' =>
          obtain ⟨b, l, ws, rfl, hb, _⟩ := pat
          refine ⟨_, rfl, b, _, _, _, rfl, rfl, SqT.of hb, rfl, rfl, _, rfl, iteN ne_rs ?_⟩
          exact ⟨_, rfl, b, _, _, _, rfl, rfl, SqT.of hb, rfl, rfl, tk.symm⟩
      obtain ⟨rfl, rfl⟩ := e
      rw [hus, List.take_length]
      have s11 := same_new hr9 (.lst (nmV ps))
      have h9 : L2.upd H5 r9 (.lst (nmV ps)) r9 = some (.lst (nmV ps)) := upd_same
      have nml : (nmV ps).length ≤ 6 := by
        have := flat_le pie_nm1 ps
        unfold nmV
        rw [List.length_map]
        omega
      revert s11 h9
      generalize L2.upd H5 r9 (.lst (nmV ps)) = H11
      intro s11 h9
      have alike : ∀ {Hx : Hp} {x y : Addr}, Hx x = some (.lst (nmV ps)) → Hx y = some (.lst (nmV ps)) → ∃ a b xs ys, V.ref x = .ref a ∧ V.ref y = .ref b ∧ SqL K Hx a xs ∧ SqL K Hx b ys ∧ Paired (EqD K Hx 3) xs ys := fun z1 z2 => ⟨_, _, _, _, rfl, rfl, SqL.of z1, SqL.of z2, EqD.texts _⟩
      refine ⟨_, rfl, _, ps, _, rfl, fC.mono s11, ok, fun r10 hr10 => ?_⟩
      have s12 := same_new hr10 (.lst (nmV ps))
      have f12 := fC.mono (s11.trans s12)
      obtain ⟨f'', l'', vs'', m2, us3, ef2, hfl2, _, _, _, hm2, _, hpm2⟩ := id f12
      cases ef2
      obtain ⟨dx2, fs2, hf2, hff2⟩ := id hfl2
      have efp2 := hff2 ("pieces", .ref m2) (List.mem_cons_of_mem _ List.mem_cons_self)
      refine ⟨_, rfl, _, _, true, .inr ⟨_, rfl, T.isListList⟩, TyOf.lst upd_same, _, rfl, iteF ?_⟩
      refine ⟨_, rfl, _, rfl, 3, hu4, .inl (alike upd_same (s12 _ _ h9)), _, rfl, iteF ?_⟩
      refine ⟨_, rfl, f, _, dx2, _, _, rfl, hf2, T.kForm.cl, T.nFormPieces, efp2, _, rfl, 3, hu4, .inl ⟨m2, r, us3, us, rfl, rfl, SqL.of hm2, SqL.of ((s11.trans s12) _ _ rC), EqD.pies (Paired.mapP hpm2 fun _ _ z => z.at') (Paired.mapP pC fun _ _ z => z.mono (s11.trans s12))⟩, _, rfl, iteF ?_⟩
      refine ⟨_, rfl, .inl ⟨rfl, _, SqL.of upd_same⟩, r10, nmV ps, .str "none", rfl, rfl, upd_same, small1000 (by omega), ?_⟩
      have s13 : Same H11 (L2.upd (L2.upd H11 r10 (.lst (nmV ps))) r10 (.lst (nmV ps ++ [.str "none"]))) := Same.updN s12 hr10 _
      revert s13
      generalize L2.upd (L2.upd H11 r10 (.lst (nmV ps))) r10 (.lst (nmV ps ++ [.str "none"])) = H13
      intro s13
      have sD := s11.trans s13
      refine ⟨_, rfl, _, ps, _, rfl, fC.mono sD, ok, fun r14 hr14 => ?_⟩
      have s14 := same_new hr14 (.lst (nmV ps))
      have sE := sD.trans s14
      refine ⟨_, rfl, 3, hu4, .inl (alike upd_same (s14 _ _ (s13 _ _ h9))), true, rfl, iteT ?_⟩
      have fat : ∀ n x, FOf H9 kvs n = some x → ∃ u, valV kvs (Sum.inr n) = some u ∧ ValAt H5 x u := by rw [← FC]; exact FOf_at hDC
      refine ⟨_, rfl, _, rfl, _, ps, FOf H9 kvs, _, _, rfl, fC.mono sE, ok, ⟨d, kvs, rfl, .inl (sE _ _ dC), fun n x z => ?_⟩, hfit, fun H15 s15 => ?_⟩
      · obtain ⟨u, u1, u2⟩ := fat n x z
        exact ⟨u, u1, u2.mono sE⟩
      have sF := sE.trans s15
      refine ⟨_, rfl, rfl, _, rfl, iteD rfl ?_⟩
      refine ⟨_, rfl, _, rfl, _, rfl, r, us, ps, FOf H9 kvs, d, kvs, rfl, sF _ _ rC, Paired.mapP pC fun _ _ z => z.mono sF, ok, .inl (sF _ _ dC), fun n x z => ?_, hfit, fun H16 s16 => ⟨rfl, blT rfl (q _)⟩⟩
      obtain ⟨u, u1, u2⟩ := fat n x z
      exact ⟨u, u1, u2.mono sF⟩
end
end Lf

set_option Elab.async false
set_option linter.all false
set_option maxRecDepth 100000
set_option maxHeartbeats 4000000
namespace Lf
open PySem L2 PyProof.Rows
theorem all_mk {l : PySem.W.OpenLaw} {w : World} {K : PySem.W.Frag} {h : Heap} {mg : Str → Option Value} {fa : Addr} (X : K.In h) (G : h.Ns mainGlobals mg) (hfa : mg "law" = some (.ref fa))
    {aNamesOf aNamesIn aPartsOf aPartOf aCopyOf aNeed aNeedSigns aNeedBounds aFill aFilledParts aFilledPart aFilledAsk aFilledRows aValueOf aLawCellAt aLawDraw aLawSigns aLawSay aLawAsk aLawInner aLawPiece aLawPieces aLawWord aLawRow aLawValues aLawLine aLawWritten aLaw aFormI aSayI aAskI aRowsI cForm cSay cAsk cRows cWords cRow cLen : Addr}
    {odNamesOf anNamesOf odNamesIn anNamesIn odPartsOf anPartsOf odPartOf anPartOf odCopyOf anCopyOf odNeed anNeed odNeedSigns anNeedSigns odNeedBounds anNeedBounds odFill anFill odFilledParts anFilledParts odFilledPart anFilledPart odFilledAsk anFilledAsk odFilledRows anFilledRows odValueOf anValueOf odLawCellAt anLawCellAt odLawDraw anLawDraw odLawSigns anLawSigns odLawSay anLawSay odLawAsk anLawAsk odLawInner anLawInner odLawPiece anLawPiece odLawPieces anLawPieces odLawWord anLawWord odLawRow anLawRow odLawValues anLawValues odLawLine anLawLine odLawWritten anLawWritten odLaw anLaw odFormI anFormI odSayI anSayI odAskI anAskI odRowsI anRowsI : Option Addr}
    {slNamesOf slNamesIn slPartsOf slPartOf slCopyOf slNeed slNeedSigns slNeedBounds slFill slFilledParts slFilledPart slFilledAsk slFilledRows slValueOf slLawCellAt slLawDraw slLawSigns slLawSay slLawAsk slLawInner slLawPiece slLawPieces slLawWord slLawRow slLawValues slLawLine slLawWritten slLaw slFormI slSayI slAskI slRowsI slW slR : Array (Option Value)}
    {ocNamesOf kvNamesOf dcNamesOf pmNamesOf cdNamesOf ctNamesOf ocNamesIn kvNamesIn dcNamesIn pmNamesIn cdNamesIn ctNamesIn ocPartsOf kvPartsOf dcPartsOf pmPartsOf cdPartsOf ctPartsOf ocPartOf kvPartOf dcPartOf pmPartOf cdPartOf ctPartOf ocCopyOf kvCopyOf dcCopyOf pmCopyOf cdCopyOf ctCopyOf ocNeed kvNeed dcNeed pmNeed cdNeed ctNeed ocNeedSigns kvNeedSigns dcNeedSigns pmNeedSigns cdNeedSigns ctNeedSigns ocNeedBounds kvNeedBounds dcNeedBounds pmNeedBounds cdNeedBounds ctNeedBounds ocFill kvFill dcFill pmFill cdFill ctFill ocFilledParts kvFilledParts dcFilledParts pmFilledParts cdFilledParts ctFilledParts ocFilledPart kvFilledPart dcFilledPart pmFilledPart cdFilledPart ctFilledPart ocFilledAsk kvFilledAsk dcFilledAsk pmFilledAsk cdFilledAsk ctFilledAsk ocFilledRows kvFilledRows dcFilledRows pmFilledRows cdFilledRows ctFilledRows ocValueOf kvValueOf dcValueOf pmValueOf cdValueOf ctValueOf ocLawCellAt kvLawCellAt dcLawCellAt pmLawCellAt cdLawCellAt ctLawCellAt ocLawDraw kvLawDraw dcLawDraw pmLawDraw cdLawDraw ctLawDraw ocLawSigns kvLawSigns dcLawSigns pmLawSigns cdLawSigns ctLawSigns ocLawSay kvLawSay dcLawSay pmLawSay cdLawSay ctLawSay ocLawAsk kvLawAsk dcLawAsk pmLawAsk cdLawAsk ctLawAsk ocLawInner kvLawInner dcLawInner pmLawInner cdLawInner ctLawInner ocLawPiece kvLawPiece dcLawPiece pmLawPiece cdLawPiece ctLawPiece ocLawPieces kvLawPieces dcLawPieces pmLawPieces cdLawPieces ctLawPieces ocLawWord kvLawWord dcLawWord pmLawWord cdLawWord ctLawWord ocLawRow kvLawRow dcLawRow pmLawRow cdLawRow ctLawRow ocLawValues kvLawValues dcLawValues pmLawValues cdLawValues ctLawValues ocLawLine kvLawLine dcLawLine pmLawLine cdLawLine ctLawLine ocLawWritten kvLawWritten dcLawWritten pmLawWritten cdLawWritten ctLawWritten ocLaw kvLaw dcLaw pmLaw cdLaw ctLaw ocFormI kvFormI dcFormI pmFormI cdFormI ctFormI ocSayI kvSayI dcSayI pmSayI cdSayI ctSayI ocAskI kvAskI dcAskI pmAskI cdAskI ctAskI ocRowsI kvRowsI dcRowsI pmRowsI cdRowsI ctRowsI : Value}
    {tS t1 t2 t3 t4 t5 t6 t7 t8 u1 u2 u3 : Tok} {epL : Nat}
    (aCForm : PySem.W.nsIn K mainGlobals "Form" = some (some (.ref cForm)))
    (aCSay : PySem.W.nsIn K mainGlobals "Say" = some (some (.ref cSay)))
    (aCAsk : PySem.W.nsIn K mainGlobals "Ask" = some (some (.ref cAsk)))
    (aCRows : PySem.W.nsIn K mainGlobals "Rows" = some (some (.ref cRows)))
    (nNamesOf : PySem.W.nsIn K mainGlobals "names_of" = some (some (.ref aNamesOf)))
    (lNamesOf : K.lookup aNamesOf = some ⟨ocNamesOf, odNamesOf, .func (PySem.W.fnOf "names_of" "names_of" (defArgs sNamesOf) (defBody sNamesOf) (defScope sNamesOf) .none kvNamesOf dcNamesOf pmNamesOf anNamesOf cdNamesOf ctNamesOf), slNamesOf⟩)
    (cNamesOf : PySem.W.codeIn K cdNamesOf "names_of" = true)
    (kNamesOf : PySem.W.keepIn K (.ref aNamesOf) = true)
    (nNamesIn : PySem.W.nsIn K mainGlobals "names_in" = some (some (.ref aNamesIn)))
    (lNamesIn : K.lookup aNamesIn = some ⟨ocNamesIn, odNamesIn, .func (PySem.W.fnOf "names_in" "names_in" (defArgs sNamesIn) (defBody sNamesIn) (defScope sNamesIn) .none kvNamesIn dcNamesIn pmNamesIn anNamesIn cdNamesIn ctNamesIn), slNamesIn⟩)
    (cNamesIn : PySem.W.codeIn K cdNamesIn "names_in" = true)
    (kNamesIn : PySem.W.keepIn K (.ref aNamesIn) = true)
    (nPartsOf : PySem.W.nsIn K mainGlobals "parts_of" = some (some (.ref aPartsOf)))
    (lPartsOf : K.lookup aPartsOf = some ⟨ocPartsOf, odPartsOf, .func (PySem.W.fnOf "parts_of" "parts_of" (defArgs sPartsOf) (defBody sPartsOf) (defScope sPartsOf) .none kvPartsOf dcPartsOf pmPartsOf anPartsOf cdPartsOf ctPartsOf), slPartsOf⟩)
    (cPartsOf : PySem.W.codeIn K cdPartsOf "parts_of" = true)
    (kPartsOf : PySem.W.keepIn K (.ref aPartsOf) = true)
    (nPartOf : PySem.W.nsIn K mainGlobals "part_of" = some (some (.ref aPartOf)))
    (lPartOf : K.lookup aPartOf = some ⟨ocPartOf, odPartOf, .func (PySem.W.fnOf "part_of" "part_of" (defArgs sPartOf) (defBody sPartOf) (defScope sPartOf) .none kvPartOf dcPartOf pmPartOf anPartOf cdPartOf ctPartOf), slPartOf⟩)
    (cPartOf : PySem.W.codeIn K cdPartOf "part_of" = true)
    (kPartOf : PySem.W.keepIn K (.ref aPartOf) = true)
    (nCopyOf : PySem.W.nsIn K mainGlobals "copy_of" = some (some (.ref aCopyOf)))
    (lCopyOf : K.lookup aCopyOf = some ⟨ocCopyOf, odCopyOf, .func (PySem.W.fnOf "copy_of" "copy_of" (defArgs sCopyOf) (defBody sCopyOf) (defScope sCopyOf) .none kvCopyOf dcCopyOf pmCopyOf anCopyOf cdCopyOf ctCopyOf), slCopyOf⟩)
    (cCopyOf : PySem.W.codeIn K cdCopyOf "copy_of" = true)
    (kCopyOf : PySem.W.keepIn K (.ref aCopyOf) = true)
    (nNeed : PySem.W.nsIn K mainGlobals "need" = some (some (.ref aNeed)))
    (lNeed : K.lookup aNeed = some ⟨ocNeed, odNeed, .func (PySem.W.fnOf "need" "need" (defArgs sNeed) (defBody sNeed) (defScope sNeed) .none kvNeed dcNeed pmNeed anNeed cdNeed ctNeed), slNeed⟩)
    (cNeed : PySem.W.codeIn K cdNeed "need" = true)
    (kNeed : PySem.W.keepIn K (.ref aNeed) = true)
    (nNeedSigns : PySem.W.nsIn K mainGlobals "need_signs" = some (some (.ref aNeedSigns)))
    (lNeedSigns : K.lookup aNeedSigns = some ⟨ocNeedSigns, odNeedSigns, .func (PySem.W.fnOf "need_signs" "need_signs" (defArgs sNeedSigns) (defBody sNeedSigns) (defScope sNeedSigns) .none kvNeedSigns dcNeedSigns pmNeedSigns anNeedSigns cdNeedSigns ctNeedSigns), slNeedSigns⟩)
    (cNeedSigns : PySem.W.codeIn K cdNeedSigns "need_signs" = true)
    (kNeedSigns : PySem.W.keepIn K (.ref aNeedSigns) = true)
    (nNeedBounds : PySem.W.nsIn K mainGlobals "need_bounds" = some (some (.ref aNeedBounds)))
    (lNeedBounds : K.lookup aNeedBounds = some ⟨ocNeedBounds, odNeedBounds, .func (PySem.W.fnOf "need_bounds" "need_bounds" (defArgs sNeedBounds) (defBody sNeedBounds) (defScope sNeedBounds) .none kvNeedBounds dcNeedBounds pmNeedBounds anNeedBounds cdNeedBounds ctNeedBounds), slNeedBounds⟩)
    (cNeedBounds : PySem.W.codeIn K cdNeedBounds "need_bounds" = true)
    (kNeedBounds : PySem.W.keepIn K (.ref aNeedBounds) = true)
    (nFill : PySem.W.nsIn K mainGlobals "fill" = some (some (.ref aFill)))
    (lFill : K.lookup aFill = some ⟨ocFill, odFill, .func (PySem.W.fnOf "fill" "fill" (defArgs sFill) (defBody sFill) (defScope sFill) .none kvFill dcFill pmFill anFill cdFill ctFill), slFill⟩)
    (cFill : PySem.W.codeIn K cdFill "fill" = true)
    (kFill : PySem.W.keepIn K (.ref aFill) = true)
    (nFilledParts : PySem.W.nsIn K mainGlobals "filled_parts" = some (some (.ref aFilledParts)))
    (lFilledParts : K.lookup aFilledParts = some ⟨ocFilledParts, odFilledParts, .func (PySem.W.fnOf "filled_parts" "filled_parts" (defArgs sFilledParts) (defBody sFilledParts) (defScope sFilledParts) .none kvFilledParts dcFilledParts pmFilledParts anFilledParts cdFilledParts ctFilledParts), slFilledParts⟩)
    (cFilledParts : PySem.W.codeIn K cdFilledParts "filled_parts" = true)
    (kFilledParts : PySem.W.keepIn K (.ref aFilledParts) = true)
    (nFilledPart : PySem.W.nsIn K mainGlobals "filled_part" = some (some (.ref aFilledPart)))
    (lFilledPart : K.lookup aFilledPart = some ⟨ocFilledPart, odFilledPart, .func (PySem.W.fnOf "filled_part" "filled_part" (defArgs sFilledPart) (defBody sFilledPart) (defScope sFilledPart) .none kvFilledPart dcFilledPart pmFilledPart anFilledPart cdFilledPart ctFilledPart), slFilledPart⟩)
    (cFilledPart : PySem.W.codeIn K cdFilledPart "filled_part" = true)
    (kFilledPart : PySem.W.keepIn K (.ref aFilledPart) = true)
    (nFilledAsk : PySem.W.nsIn K mainGlobals "filled_ask" = some (some (.ref aFilledAsk)))
    (lFilledAsk : K.lookup aFilledAsk = some ⟨ocFilledAsk, odFilledAsk, .func (PySem.W.fnOf "filled_ask" "filled_ask" (defArgs sFilledAsk) (defBody sFilledAsk) (defScope sFilledAsk) .none kvFilledAsk dcFilledAsk pmFilledAsk anFilledAsk cdFilledAsk ctFilledAsk), slFilledAsk⟩)
    (cFilledAsk : PySem.W.codeIn K cdFilledAsk "filled_ask" = true)
    (kFilledAsk : PySem.W.keepIn K (.ref aFilledAsk) = true)
    (nFilledRows : PySem.W.nsIn K mainGlobals "filled_rows" = some (some (.ref aFilledRows)))
    (lFilledRows : K.lookup aFilledRows = some ⟨ocFilledRows, odFilledRows, .func (PySem.W.fnOf "filled_rows" "filled_rows" (defArgs sFilledRows) (defBody sFilledRows) (defScope sFilledRows) .none kvFilledRows dcFilledRows pmFilledRows anFilledRows cdFilledRows ctFilledRows), slFilledRows⟩)
    (cFilledRows : PySem.W.codeIn K cdFilledRows "filled_rows" = true)
    (kFilledRows : PySem.W.keepIn K (.ref aFilledRows) = true)
    (nValueOf : PySem.W.nsIn K mainGlobals "value_of" = some (some (.ref aValueOf)))
    (lValueOf : K.lookup aValueOf = some ⟨ocValueOf, odValueOf, .func (PySem.W.fnOf "value_of" "value_of" (defArgs sValueOf) (defBody sValueOf) (defScope sValueOf) .none kvValueOf dcValueOf pmValueOf anValueOf cdValueOf ctValueOf), slValueOf⟩)
    (cValueOf : PySem.W.codeIn K cdValueOf "value_of" = true)
    (kValueOf : PySem.W.keepIn K (.ref aValueOf) = true)
    (nLawCellAt : PySem.W.nsIn K mainGlobals "_law_cell_at" = some (some (.ref aLawCellAt)))
    (lLawCellAt : K.lookup aLawCellAt = some ⟨ocLawCellAt, odLawCellAt, .func (PySem.W.fnOf "_law_cell_at" "_law_cell_at" (defArgs sLawCellAt) (defBody sLawCellAt) (defScope sLawCellAt) .none kvLawCellAt dcLawCellAt pmLawCellAt anLawCellAt cdLawCellAt ctLawCellAt), slLawCellAt⟩)
    (cLawCellAt : PySem.W.codeIn K cdLawCellAt "_law_cell_at" = true)
    (kLawCellAt : PySem.W.keepIn K (.ref aLawCellAt) = true)
    (nLawDraw : PySem.W.nsIn K mainGlobals "_law_draw" = some (some (.ref aLawDraw)))
    (lLawDraw : K.lookup aLawDraw = some ⟨ocLawDraw, odLawDraw, .func (PySem.W.fnOf "_law_draw" "_law_draw" (defArgs sLawDraw) (defBody sLawDraw) (defScope sLawDraw) .none kvLawDraw dcLawDraw pmLawDraw anLawDraw cdLawDraw ctLawDraw), slLawDraw⟩)
    (cLawDraw : PySem.W.codeIn K cdLawDraw "_law_draw" = true)
    (kLawDraw : PySem.W.keepIn K (.ref aLawDraw) = true)
    (nLawSigns : PySem.W.nsIn K mainGlobals "_law_signs" = some (some (.ref aLawSigns)))
    (lLawSigns : K.lookup aLawSigns = some ⟨ocLawSigns, odLawSigns, .func (PySem.W.fnOf "_law_signs" "_law_signs" (defArgs sLawSigns) (defBody sLawSigns) (defScope sLawSigns) .none kvLawSigns dcLawSigns pmLawSigns anLawSigns cdLawSigns ctLawSigns), slLawSigns⟩)
    (cLawSigns : PySem.W.codeIn K cdLawSigns "_law_signs" = true)
    (kLawSigns : PySem.W.keepIn K (.ref aLawSigns) = true)
    (nLawSay : PySem.W.nsIn K mainGlobals "_law_say" = some (some (.ref aLawSay)))
    (lLawSay : K.lookup aLawSay = some ⟨ocLawSay, odLawSay, .func (PySem.W.fnOf "_law_say" "_law_say" (defArgs sLawSay) (defBody sLawSay) (defScope sLawSay) .none kvLawSay dcLawSay pmLawSay anLawSay cdLawSay ctLawSay), slLawSay⟩)
    (cLawSay : PySem.W.codeIn K cdLawSay "_law_say" = true)
    (kLawSay : PySem.W.keepIn K (.ref aLawSay) = true)
    (nLawAsk : PySem.W.nsIn K mainGlobals "_law_ask" = some (some (.ref aLawAsk)))
    (lLawAsk : K.lookup aLawAsk = some ⟨ocLawAsk, odLawAsk, .func (PySem.W.fnOf "_law_ask" "_law_ask" (defArgs sLawAsk) (defBody sLawAsk) (defScope sLawAsk) .none kvLawAsk dcLawAsk pmLawAsk anLawAsk cdLawAsk ctLawAsk), slLawAsk⟩)
    (cLawAsk : PySem.W.codeIn K cdLawAsk "_law_ask" = true)
    (kLawAsk : PySem.W.keepIn K (.ref aLawAsk) = true)
    (nLawInner : PySem.W.nsIn K mainGlobals "_law_inner" = some (some (.ref aLawInner)))
    (lLawInner : K.lookup aLawInner = some ⟨ocLawInner, odLawInner, .func (PySem.W.fnOf "_law_inner" "_law_inner" (defArgs sLawInner) (defBody sLawInner) (defScope sLawInner) .none kvLawInner dcLawInner pmLawInner anLawInner cdLawInner ctLawInner), slLawInner⟩)
    (cLawInner : PySem.W.codeIn K cdLawInner "_law_inner" = true)
    (kLawInner : PySem.W.keepIn K (.ref aLawInner) = true)
    (nLawPiece : PySem.W.nsIn K mainGlobals "_law_piece" = some (some (.ref aLawPiece)))
    (lLawPiece : K.lookup aLawPiece = some ⟨ocLawPiece, odLawPiece, .func (PySem.W.fnOf "_law_piece" "_law_piece" (defArgs sLawPiece) (defBody sLawPiece) (defScope sLawPiece) .none kvLawPiece dcLawPiece pmLawPiece anLawPiece cdLawPiece ctLawPiece), slLawPiece⟩)
    (cLawPiece : PySem.W.codeIn K cdLawPiece "_law_piece" = true)
    (kLawPiece : PySem.W.keepIn K (.ref aLawPiece) = true)
    (nLawPieces : PySem.W.nsIn K mainGlobals "_law_pieces" = some (some (.ref aLawPieces)))
    (lLawPieces : K.lookup aLawPieces = some ⟨ocLawPieces, odLawPieces, .func (PySem.W.fnOf "_law_pieces" "_law_pieces" (defArgs sLawPieces) (defBody sLawPieces) (defScope sLawPieces) .none kvLawPieces dcLawPieces pmLawPieces anLawPieces cdLawPieces ctLawPieces), slLawPieces⟩)
    (cLawPieces : PySem.W.codeIn K cdLawPieces "_law_pieces" = true)
    (kLawPieces : PySem.W.keepIn K (.ref aLawPieces) = true)
    (nLawWord : PySem.W.nsIn K mainGlobals "_law_word" = some (some (.ref aLawWord)))
    (lLawWord : K.lookup aLawWord = some ⟨ocLawWord, odLawWord, .func (PySem.W.fnOf "_law_word" "_law_word" (defArgs sLawWord) (defBody sLawWord) (defScope sLawWord) .none kvLawWord dcLawWord pmLawWord anLawWord cdLawWord ctLawWord), slLawWord⟩)
    (cLawWord : PySem.W.codeIn K cdLawWord "_law_word" = true)
    (kLawWord : PySem.W.keepIn K (.ref aLawWord) = true)
    (nLawRow : PySem.W.nsIn K mainGlobals "_law_row" = some (some (.ref aLawRow)))
    (lLawRow : K.lookup aLawRow = some ⟨ocLawRow, odLawRow, .func (PySem.W.fnOf "_law_row" "_law_row" (defArgs sLawRow) (defBody sLawRow) (defScope sLawRow) .none kvLawRow dcLawRow pmLawRow anLawRow cdLawRow ctLawRow), slLawRow⟩)
    (cLawRow : PySem.W.codeIn K cdLawRow "_law_row" = true)
    (kLawRow : PySem.W.keepIn K (.ref aLawRow) = true)
    (nLawValues : PySem.W.nsIn K mainGlobals "_law_values" = some (some (.ref aLawValues)))
    (lLawValues : K.lookup aLawValues = some ⟨ocLawValues, odLawValues, .func (PySem.W.fnOf "_law_values" "_law_values" (defArgs sLawValues) (defBody sLawValues) (defScope sLawValues) .none kvLawValues dcLawValues pmLawValues anLawValues cdLawValues ctLawValues), slLawValues⟩)
    (cLawValues : PySem.W.codeIn K cdLawValues "_law_values" = true)
    (kLawValues : PySem.W.keepIn K (.ref aLawValues) = true)
    (nLawLine : PySem.W.nsIn K mainGlobals "_law_line" = some (some (.ref aLawLine)))
    (lLawLine : K.lookup aLawLine = some ⟨ocLawLine, odLawLine, .func (PySem.W.fnOf "_law_line" "_law_line" (defArgs sLawLine) (defBody sLawLine) (defScope sLawLine) .none kvLawLine dcLawLine pmLawLine anLawLine cdLawLine ctLawLine), slLawLine⟩)
    (cLawLine : PySem.W.codeIn K cdLawLine "_law_line" = true)
    (kLawLine : PySem.W.keepIn K (.ref aLawLine) = true)
    (nLawWritten : PySem.W.nsIn K mainGlobals "_law_written" = some (some (.ref aLawWritten)))
    (lLawWritten : K.lookup aLawWritten = some ⟨ocLawWritten, odLawWritten, .func (PySem.W.fnOf "_law_written" "_law_written" (defArgs sLawWritten) (defBody sLawWritten) (defScope sLawWritten) .none kvLawWritten dcLawWritten pmLawWritten anLawWritten cdLawWritten ctLawWritten), slLawWritten⟩)
    (cLawWritten : PySem.W.codeIn K cdLawWritten "_law_written" = true)
    (kLawWritten : PySem.W.keepIn K (.ref aLawWritten) = true)
    (nLaw : PySem.W.nsIn K mainGlobals "law" = some (some (.ref aLaw)))
    (lLaw : K.lookup aLaw = some ⟨ocLaw, odLaw, .func (PySem.W.fnOf "law" "law" (defArgs sLaw) (defBody sLaw) (defScope sLaw) .none kvLaw dcLaw pmLaw anLaw cdLaw ctLaw), slLaw⟩)
    (cLaw : PySem.W.codeIn K cdLaw "law" = true)
    (kLaw : PySem.W.keepIn K (.ref aLaw) = true)
    (nFormI : PySem.W.findIn K (.ref cForm) "__init__" = some (some (.ref aFormI)))
    (iFormI : PySem.W.isFn K (.ref aFormI) = true)
    (lFormI : K.lookup aFormI = some ⟨ocFormI, odFormI, .func (PySem.W.fnOf "__init__" "Form.__init__" (defArgs sFormI) (defBody sFormI) (defScope sFormI) .none kvFormI dcFormI pmFormI anFormI cdFormI ctFormI), slFormI⟩)
    (cFormI : PySem.W.codeIn K cdFormI "Form.__init__" = true)
    (kFormI : PySem.W.keepIn K (.ref aFormI) = true)
    (nSayI : PySem.W.findIn K (.ref cSay) "__init__" = some (some (.ref aSayI)))
    (iSayI : PySem.W.isFn K (.ref aSayI) = true)
    (lSayI : K.lookup aSayI = some ⟨ocSayI, odSayI, .func (PySem.W.fnOf "__init__" "Say.__init__" (defArgs sSayI) (defBody sSayI) (defScope sSayI) .none kvSayI dcSayI pmSayI anSayI cdSayI ctSayI), slSayI⟩)
    (cSayI : PySem.W.codeIn K cdSayI "Say.__init__" = true)
    (kSayI : PySem.W.keepIn K (.ref aSayI) = true)
    (nAskI : PySem.W.findIn K (.ref cAsk) "__init__" = some (some (.ref aAskI)))
    (iAskI : PySem.W.isFn K (.ref aAskI) = true)
    (lAskI : K.lookup aAskI = some ⟨ocAskI, odAskI, .func (PySem.W.fnOf "__init__" "Ask.__init__" (defArgs sAskI) (defBody sAskI) (defScope sAskI) .none kvAskI dcAskI pmAskI anAskI cdAskI ctAskI), slAskI⟩)
    (cAskI : PySem.W.codeIn K cdAskI "Ask.__init__" = true)
    (kAskI : PySem.W.keepIn K (.ref aAskI) = true)
    (nRowsI : PySem.W.findIn K (.ref cRows) "__init__" = some (some (.ref aRowsI)))
    (iRowsI : PySem.W.isFn K (.ref aRowsI) = true)
    (lRowsI : K.lookup aRowsI = some ⟨ocRowsI, odRowsI, .func (PySem.W.fnOf "__init__" "Rows.__init__" (defArgs sRowsI) (defBody sRowsI) (defScope sRowsI) .none kvRowsI dcRowsI pmRowsI anRowsI cdRowsI ctRowsI), slRowsI⟩)
    (cRowsI : PySem.W.codeIn K cdRowsI "Rows.__init__" = true)
    (kRowsI : PySem.W.keepIn K (.ref aRowsI) = true)
    (pgForm : PySem.W.plainGet K cForm Str.empty = true)
    (hdForm : PySem.W.hasDictIn K cForm = true)
    (poForm : PySem.W.plainOver K cForm = true)
    (saForm : PySem.W.findIn K (.ref cForm) "__setattr__" = some (some (.builtin "object.__setattr__")))
    (mkForm : PySem.W.makesIn K cForm = true)
    (kcForm : PySem.W.keepIn K (.ref cForm) = true)
    (haForm : PySem.W.findIn K (.ref cForm) "__class__" = some (some (.builtin "object.__class__")))
    (hmForm : PySem.W.mroIn K cForm (.type "object") = some true)
    (fFormPieces : PySem.W.findIn K (.ref cForm) "pieces" = some none)
    (fFormPlan : PySem.W.findIn K (.ref cForm) "plan" = some none)
    (pgSay : PySem.W.plainGet K cSay Str.empty = true)
    (hdSay : PySem.W.hasDictIn K cSay = true)
    (poSay : PySem.W.plainOver K cSay = true)
    (saSay : PySem.W.findIn K (.ref cSay) "__setattr__" = some (some (.builtin "object.__setattr__")))
    (mkSay : PySem.W.makesIn K cSay = true)
    (kcSay : PySem.W.keepIn K (.ref cSay) = true)
    (haSay : PySem.W.findIn K (.ref cSay) "__class__" = some (some (.builtin "object.__class__")))
    (hmSay : PySem.W.mroIn K cSay (.type "object") = some true)
    (fSayText : PySem.W.findIn K (.ref cSay) "text" = some none)
    (pgAsk : PySem.W.plainGet K cAsk Str.empty = true)
    (hdAsk : PySem.W.hasDictIn K cAsk = true)
    (poAsk : PySem.W.plainOver K cAsk = true)
    (saAsk : PySem.W.findIn K (.ref cAsk) "__setattr__" = some (some (.builtin "object.__setattr__")))
    (mkAsk : PySem.W.makesIn K cAsk = true)
    (kcAsk : PySem.W.keepIn K (.ref cAsk) = true)
    (haAsk : PySem.W.findIn K (.ref cAsk) "__class__" = some (some (.builtin "object.__class__")))
    (hmAsk : PySem.W.mroIn K cAsk (.type "object") = some true)
    (fAskLeast : PySem.W.findIn K (.ref cAsk) "least" = some none)
    (fAskMost : PySem.W.findIn K (.ref cAsk) "most" = some none)
    (fAskName : PySem.W.findIn K (.ref cAsk) "name" = some none)
    (fAskSigns : PySem.W.findIn K (.ref cAsk) "signs" = some none)
    (pgRows : PySem.W.plainGet K cRows Str.empty = true)
    (hdRows : PySem.W.hasDictIn K cRows = true)
    (poRows : PySem.W.plainOver K cRows = true)
    (saRows : PySem.W.findIn K (.ref cRows) "__setattr__" = some (some (.builtin "object.__setattr__")))
    (mkRows : PySem.W.makesIn K cRows = true)
    (kcRows : PySem.W.keepIn K (.ref cRows) = true)
    (haRows : PySem.W.findIn K (.ref cRows) "__class__" = some (some (.builtin "object.__class__")))
    (hmRows : PySem.W.mroIn K cRows (.type "object") = some true)
    (fRowsGap : PySem.W.findIn K (.ref cRows) "gap" = some none)
    (fRowsLeast : PySem.W.findIn K (.ref cRows) "least" = some none)
    (fRowsMost : PySem.W.findIn K (.ref cRows) "most" = some none)
    (fRowsName : PySem.W.findIn K (.ref cRows) "name" = some none)
    (fRowsParts : PySem.W.findIn K (.ref cRows) "parts" = some none)
    (hn : PySem.W.specialIn K (.builtin "object.__class__") "__get__" = some (some (.builtin "getset_descriptor.__get__")))
    (ht : PySem.W.takesIn K (.builtin "object.__class__") = some true)
    (isSaySay : PySem.W.kitOne K (.ref cSay) (.ref cSay) = some true)
    (isSayAsk : PySem.W.kitOne K (.ref cSay) (.ref cAsk) = some false)
    (isAskSay : PySem.W.kitOne K (.ref cAsk) (.ref cSay) = some false)
    (isAskAsk : PySem.W.kitOne K (.ref cAsk) (.ref cAsk) = some true)
    (isRowsSay : PySem.W.kitOne K (.ref cRows) (.ref cSay) = some false)
    (isRowsAsk : PySem.W.kitOne K (.ref cRows) (.ref cAsk) = some false)
    (isStrStr : PySem.W.kitOne K (.type "str") (.type "str") = some true)
    (isStrList : PySem.W.kitOne K (.type "str") (.type "list") = some false)
    (isListList : PySem.W.kitOne K (.type "list") (.type "list") = some true)
    (gS : PySem.W.nsIn K mainGlobals "SIGNS" = some (some (.str SIGNS tS)))
    (gW : PySem.W.nsIn K mainGlobals "FORM_WORDS" = some (some (.ref cWords)))
    (gR : PySem.W.nsIn K mainGlobals "ROW_WORDS" = some (some (.ref cRow)))
    (gL : PySem.W.nsIn K mainGlobals "LENGTHS" = some (some (.ref cLen)))
    (tW : K.lookup cWords = some ⟨.type "tuple", none, .seq #[.str "say" t1, .str "ask" t2, .str "rows" t3] 0, slW⟩)
    (tR : K.lookup cRow = some ⟨.type "tuple", none, .seq #[.str "say" t4, .str "ask" t5] 0, slR⟩)
    (tL : K.lookup cLen = some ⟨.type "dict", none, .dict #[⟨PyData.keyHash w.params "say", .str "say" t6, .int 2 u1⟩, ⟨PyData.keyHash w.params "ask", .str "ask" t7, .int 5 u2⟩, ⟨PyData.keyHash w.params "rows", .str "rows" t8, .int 6 u3⟩] epL, #[]⟩)
    (zlen : PySem.W.nsIn K mainGlobals "len" = some none)
    (zrange : PySem.W.nsIn K mainGlobals "range" = some none)
    (zisinstance : PySem.W.nsIn K mainGlobals "isinstance" = some none)
    (zset : PySem.W.nsIn K mainGlobals "set" = some none)
    (zall : PySem.W.nsIn K mainGlobals "all" = some none)
    (zlist : PySem.W.nsIn K mainGlobals "list" = some none)
    (zstr : PySem.W.nsIn K mainGlobals "str" = some none)
    (zdict : PySem.W.nsIn K mainGlobals "dict" = some none) :
    ∃ fd : FuncData, (∀ (s : Shared) (v : Value), BindsTo s fd ⟨[v], []⟩ [("script", v)]) ∧ ∀ base : Heap, K.In base → base.Ns mainGlobals mg → FnOk l.prog w K mg base CX0 13 fa fd ["script"] (spLaw K) := by
  have e := hfa.symm.trans (PySem.W.mg_of X G nLaw)
  cases e
  have FNamesOf := fun_mk (st := sNamesOf) lNamesOf cNamesOf kNamesOf
  have BNamesOf := FNamesOf.binds (ps := ["form"]) fun _ _ _ _ _ _ us hl => match us, hl with | [_], _ => rfl
  have FNamesIn := fun_mk (st := sNamesIn) lNamesIn cNamesIn kNamesIn
  have BNamesIn := FNamesIn.binds (ps := ["parts"]) fun _ _ _ _ _ _ us hl => match us, hl with | [_], _ => rfl
  have FPartsOf := fun_mk (st := sPartsOf) lPartsOf cPartsOf kPartsOf
  have BPartsOf := FPartsOf.binds (ps := ["pieces", "words", "most"]) fun _ _ _ _ _ _ us hl => match us, hl with | [_, _, _], _ => rfl
  have FPartOf := fun_mk (st := sPartOf) lPartOf cPartOf kPartOf
  have BPartOf := FPartOf.binds (ps := ["piece", "words"]) fun _ _ _ _ _ _ us hl => match us, hl with | [_, _], _ => rfl
  have FCopyOf := fun_mk (st := sCopyOf) lCopyOf cCopyOf kCopyOf
  have BCopyOf := FCopyOf.binds (ps := ["piece"]) fun _ _ _ _ _ _ us hl => match us, hl with | [_], _ => rfl
  have FNeed := fun_mk (st := sNeed) lNeed cNeed kNeed
  have BNeed := FNeed.binds (ps := ["holds", "words"]) fun _ _ _ _ _ _ us hl => match us, hl with | [_, _], _ => rfl
  have FNeedSigns := fun_mk (st := sNeedSigns) lNeedSigns cNeedSigns kNeedSigns
  have BNeedSigns := FNeedSigns.binds (ps := ["text", "least", "most", "what"]) fun _ _ _ _ _ _ us hl => match us, hl with | [_, _, _, _], _ => rfl
  have FNeedBounds := fun_mk (st := sNeedBounds) lNeedBounds cNeedBounds kNeedBounds
  have BNeedBounds := FNeedBounds.binds (ps := ["part", "highest"]) fun _ _ _ _ _ _ us hl => match us, hl with | [_, _], _ => rfl
  have FFill := fun_mk (st := sFill) lFill cFill kFill
  have BFill := FFill.binds (ps := ["form", "values"]) fun _ _ _ _ _ _ us hl => match us, hl with | [_, _], _ => rfl
  have FFilledParts := fun_mk (st := sFilledParts) lFilledParts cFilledParts kFilledParts
  have BFilledParts := FFilledParts.binds (ps := ["parts", "values"]) fun _ _ _ _ _ _ us hl => match us, hl with | [_, _], _ => rfl
  have FFilledPart := fun_mk (st := sFilledPart) lFilledPart cFilledPart kFilledPart
  have BFilledPart := FFilledPart.binds (ps := ["part", "values"]) fun _ _ _ _ _ _ us hl => match us, hl with | [_, _], _ => rfl
  have FFilledAsk := fun_mk (st := sFilledAsk) lFilledAsk cFilledAsk kFilledAsk
  have BFilledAsk := FFilledAsk.binds (ps := ["ask", "values"]) fun _ _ _ _ _ _ us hl => match us, hl with | [_, _], _ => rfl
  have FFilledRows := fun_mk (st := sFilledRows) lFilledRows cFilledRows kFilledRows
  have BFilledRows := FFilledRows.binds (ps := ["rows", "values"]) fun _ _ _ _ _ _ us hl => match us, hl with | [_, _], _ => rfl
  have FValueOf := fun_mk (st := sValueOf) lValueOf cValueOf kValueOf
  have BValueOf := FValueOf.binds (ps := ["part", "values"]) fun _ _ _ _ _ _ us hl => match us, hl with | [_, _], _ => rfl
  have FLawCellAt := fun_mk (st := sLawCellAt) lLawCellAt cLawCellAt kLawCellAt
  have BLawCellAt := FLawCellAt.binds (ps := ["script", "k"]) fun _ _ _ _ _ _ us hl => match us, hl with | [_, _], _ => rfl
  have FLawDraw := fun_mk (st := sLawDraw) lLawDraw cLawDraw kLawDraw
  have BLawDraw := FLawDraw.binds (ps := ["script", "k"]) fun _ _ _ _ _ _ us hl => match us, hl with | [_, _], _ => rfl
  have FLawSigns := fun_mk (st := sLawSigns) lLawSigns cLawSigns kLawSigns
  have BLawSigns := FLawSigns.binds (ps := ["cell"]) fun _ _ _ _ _ _ us hl => match us, hl with | [_], _ => rfl
  have FLawSay := fun_mk (st := sLawSay) lLawSay cLawSay kLawSay
  have BLawSay := FLawSay.binds (ps := ["cell"]) fun _ _ _ _ _ _ us hl => match us, hl with | [_], _ => rfl
  have FLawAsk := fun_mk (st := sLawAsk) lLawAsk cLawAsk kLawAsk
  have BLawAsk := FLawAsk.binds (ps := ["script", "k", "name", "most"]) fun _ _ _ _ _ _ us hl => match us, hl with | [_, _, _, _], _ => rfl
  have FLawInner := fun_mk (st := sLawInner) lLawInner cLawInner kLawInner
  have BLawInner := FLawInner.binds (ps := ["script", "k", "many", "most"]) fun _ _ _ _ _ _ us hl => match us, hl with | [_, _, _, _], _ => rfl
  have FLawPiece := fun_mk (st := sLawPiece) lLawPiece cLawPiece kLawPiece
  have BLawPiece := FLawPiece.binds (ps := ["script", "k", "name", "most"]) fun _ _ _ _ _ _ us hl => match us, hl with | [_, _, _, _], _ => rfl
  have FLawPieces := fun_mk (st := sLawPieces) lLawPieces cLawPieces kLawPieces
  have BLawPieces := FLawPieces.binds (ps := ["script", "many", "most"]) fun _ _ _ _ _ _ us hl => match us, hl with | [_, _, _], _ => rfl
  have FLawWord := fun_mk (st := sLawWord) lLawWord cLawWord kLawWord
  have BLawWord := FLawWord.binds (ps := ["script", "k", "piece"]) fun _ _ _ _ _ _ us hl => match us, hl with | [_, _, _], _ => rfl
  have FLawRow := fun_mk (st := sLawRow) lLawRow cLawRow kLawRow
  have BLawRow := FLawRow.binds (ps := ["script", "k", "pieces"]) fun _ _ _ _ _ _ us hl => match us, hl with | [_, _, _], _ => rfl
  have FLawValues := fun_mk (st := sLawValues) lLawValues cLawValues kLawValues
  have BLawValues := FLawValues.binds (ps := ["script", "start", "pieces"]) fun _ _ _ _ _ _ us hl => match us, hl with | [_, _, _], _ => rfl
  have FLawLine := fun_mk (st := sLawLine) lLawLine cLawLine kLawLine
  have BLawLine := FLawLine.binds (ps := ["pieces", "values"]) fun _ _ _ _ _ _ us hl => match us, hl with | [_, _], _ => rfl
  have FLawWritten := fun_mk (st := sLawWritten) lLawWritten cLawWritten kLawWritten
  have BLawWritten := FLawWritten.binds (ps := ["pieces", "values"]) fun _ _ _ _ _ _ us hl => match us, hl with | [_, _], _ => rfl
  have FLaw := fun_mk (st := sLaw) lLaw cLaw kLaw
  have BLaw := FLaw.binds (ps := ["script"]) fun _ _ _ _ _ _ us hl => match us, hl with | [_], _ => rfl
  have FFormI := fun_mk (st := sFormI) lFormI cFormI kFormI
  have BFormI := FFormI.binds (ps := ["self", "pieces"]) fun _ _ _ _ _ _ us hl => match us, hl with | [_, _], _ => rfl
  have FSayI := fun_mk (st := sSayI) lSayI cSayI kSayI
  have BSayI := FSayI.binds (ps := ["self", "piece"]) fun _ _ _ _ _ _ us hl => match us, hl with | [_, _], _ => rfl
  have FAskI := fun_mk (st := sAskI) lAskI cAskI kAskI
  have BAskI := FAskI.binds (ps := ["self", "piece"]) fun _ _ _ _ _ _ us hl => match us, hl with | [_, _], _ => rfl
  have FRowsI := fun_mk (st := sRowsI) lRowsI cRowsI kRowsI
  have BRowsI := FRowsI.binds (ps := ["self", "piece"]) fun _ _ _ _ _ _ us hl => match us, hl with | [_, _], _ => rfl
  have T : Txt w K mg ⟨aNamesOf, aNamesIn, aPartsOf, aPartOf, aCopyOf, aNeed, aNeedSigns, aNeedBounds, aFill, aFilledParts, aFilledPart, aFilledAsk, aFilledRows, aValueOf, aLawCellAt, aLawDraw, aLawSigns, aLawSay, aLawAsk, aLawInner, aLawPiece, aLawPieces, aLawWord, aLawRow, aLawValues, aLawLine, aLawWritten, fa, aFormI, aSayI, aAskI, aRowsI, (PySem.W.fnOf "names_of" "names_of" (defArgs sNamesOf) (defBody sNamesOf) (defScope sNamesOf) .none kvNamesOf dcNamesOf pmNamesOf anNamesOf cdNamesOf ctNamesOf), (PySem.W.fnOf "names_in" "names_in" (defArgs sNamesIn) (defBody sNamesIn) (defScope sNamesIn) .none kvNamesIn dcNamesIn pmNamesIn anNamesIn cdNamesIn ctNamesIn), (PySem.W.fnOf "parts_of" "parts_of" (defArgs sPartsOf) (defBody sPartsOf) (defScope sPartsOf) .none kvPartsOf dcPartsOf pmPartsOf anPartsOf cdPartsOf ctPartsOf), (PySem.W.fnOf "part_of" "part_of" (defArgs sPartOf) (defBody sPartOf) (defScope sPartOf) .none kvPartOf dcPartOf pmPartOf anPartOf cdPartOf ctPartOf), (PySem.W.fnOf "copy_of" "copy_of" (defArgs sCopyOf) (defBody sCopyOf) (defScope sCopyOf) .none kvCopyOf dcCopyOf pmCopyOf anCopyOf cdCopyOf ctCopyOf), (PySem.W.fnOf "need" "need" (defArgs sNeed) (defBody sNeed) (defScope sNeed) .none kvNeed dcNeed pmNeed anNeed cdNeed ctNeed), (PySem.W.fnOf "need_signs" "need_signs" (defArgs sNeedSigns) (defBody sNeedSigns) (defScope sNeedSigns) .none kvNeedSigns dcNeedSigns pmNeedSigns anNeedSigns cdNeedSigns ctNeedSigns), (PySem.W.fnOf "need_bounds" "need_bounds" (defArgs sNeedBounds) (defBody sNeedBounds) (defScope sNeedBounds) .none kvNeedBounds dcNeedBounds pmNeedBounds anNeedBounds cdNeedBounds ctNeedBounds), (PySem.W.fnOf "fill" "fill" (defArgs sFill) (defBody sFill) (defScope sFill) .none kvFill dcFill pmFill anFill cdFill ctFill), (PySem.W.fnOf "filled_parts" "filled_parts" (defArgs sFilledParts) (defBody sFilledParts) (defScope sFilledParts) .none kvFilledParts dcFilledParts pmFilledParts anFilledParts cdFilledParts ctFilledParts), (PySem.W.fnOf "filled_part" "filled_part" (defArgs sFilledPart) (defBody sFilledPart) (defScope sFilledPart) .none kvFilledPart dcFilledPart pmFilledPart anFilledPart cdFilledPart ctFilledPart), (PySem.W.fnOf "filled_ask" "filled_ask" (defArgs sFilledAsk) (defBody sFilledAsk) (defScope sFilledAsk) .none kvFilledAsk dcFilledAsk pmFilledAsk anFilledAsk cdFilledAsk ctFilledAsk), (PySem.W.fnOf "filled_rows" "filled_rows" (defArgs sFilledRows) (defBody sFilledRows) (defScope sFilledRows) .none kvFilledRows dcFilledRows pmFilledRows anFilledRows cdFilledRows ctFilledRows), (PySem.W.fnOf "value_of" "value_of" (defArgs sValueOf) (defBody sValueOf) (defScope sValueOf) .none kvValueOf dcValueOf pmValueOf anValueOf cdValueOf ctValueOf), (PySem.W.fnOf "_law_cell_at" "_law_cell_at" (defArgs sLawCellAt) (defBody sLawCellAt) (defScope sLawCellAt) .none kvLawCellAt dcLawCellAt pmLawCellAt anLawCellAt cdLawCellAt ctLawCellAt), (PySem.W.fnOf "_law_draw" "_law_draw" (defArgs sLawDraw) (defBody sLawDraw) (defScope sLawDraw) .none kvLawDraw dcLawDraw pmLawDraw anLawDraw cdLawDraw ctLawDraw), (PySem.W.fnOf "_law_signs" "_law_signs" (defArgs sLawSigns) (defBody sLawSigns) (defScope sLawSigns) .none kvLawSigns dcLawSigns pmLawSigns anLawSigns cdLawSigns ctLawSigns), (PySem.W.fnOf "_law_say" "_law_say" (defArgs sLawSay) (defBody sLawSay) (defScope sLawSay) .none kvLawSay dcLawSay pmLawSay anLawSay cdLawSay ctLawSay), (PySem.W.fnOf "_law_ask" "_law_ask" (defArgs sLawAsk) (defBody sLawAsk) (defScope sLawAsk) .none kvLawAsk dcLawAsk pmLawAsk anLawAsk cdLawAsk ctLawAsk), (PySem.W.fnOf "_law_inner" "_law_inner" (defArgs sLawInner) (defBody sLawInner) (defScope sLawInner) .none kvLawInner dcLawInner pmLawInner anLawInner cdLawInner ctLawInner), (PySem.W.fnOf "_law_piece" "_law_piece" (defArgs sLawPiece) (defBody sLawPiece) (defScope sLawPiece) .none kvLawPiece dcLawPiece pmLawPiece anLawPiece cdLawPiece ctLawPiece), (PySem.W.fnOf "_law_pieces" "_law_pieces" (defArgs sLawPieces) (defBody sLawPieces) (defScope sLawPieces) .none kvLawPieces dcLawPieces pmLawPieces anLawPieces cdLawPieces ctLawPieces), (PySem.W.fnOf "_law_word" "_law_word" (defArgs sLawWord) (defBody sLawWord) (defScope sLawWord) .none kvLawWord dcLawWord pmLawWord anLawWord cdLawWord ctLawWord), (PySem.W.fnOf "_law_row" "_law_row" (defArgs sLawRow) (defBody sLawRow) (defScope sLawRow) .none kvLawRow dcLawRow pmLawRow anLawRow cdLawRow ctLawRow), (PySem.W.fnOf "_law_values" "_law_values" (defArgs sLawValues) (defBody sLawValues) (defScope sLawValues) .none kvLawValues dcLawValues pmLawValues anLawValues cdLawValues ctLawValues), (PySem.W.fnOf "_law_line" "_law_line" (defArgs sLawLine) (defBody sLawLine) (defScope sLawLine) .none kvLawLine dcLawLine pmLawLine anLawLine cdLawLine ctLawLine), (PySem.W.fnOf "_law_written" "_law_written" (defArgs sLawWritten) (defBody sLawWritten) (defScope sLawWritten) .none kvLawWritten dcLawWritten pmLawWritten anLawWritten cdLawWritten ctLawWritten), (PySem.W.fnOf "law" "law" (defArgs sLaw) (defBody sLaw) (defScope sLaw) .none kvLaw dcLaw pmLaw anLaw cdLaw ctLaw), (PySem.W.fnOf "__init__" "Form.__init__" (defArgs sFormI) (defBody sFormI) (defScope sFormI) .none kvFormI dcFormI pmFormI anFormI cdFormI ctFormI), (PySem.W.fnOf "__init__" "Say.__init__" (defArgs sSayI) (defBody sSayI) (defScope sSayI) .none kvSayI dcSayI pmSayI anSayI cdSayI ctSayI), (PySem.W.fnOf "__init__" "Ask.__init__" (defArgs sAskI) (defBody sAskI) (defScope sAskI) .none kvAskI dcAskI pmAskI anAskI cdAskI ctAskI), (PySem.W.fnOf "__init__" "Rows.__init__" (defArgs sRowsI) (defBody sRowsI) (defScope sRowsI) .none kvRowsI dcRowsI pmRowsI anRowsI cdRowsI ctRowsI), cForm, cSay, cAsk, cRows, cWords, cRow, cLen⟩ := ⟨FNamesOf, BNamesOf, PySem.W.mg_of X G nNamesOf, FNamesIn, BNamesIn, PySem.W.mg_of X G nNamesIn, FPartsOf, BPartsOf, PySem.W.mg_of X G nPartsOf, FPartOf, BPartOf, PySem.W.mg_of X G nPartOf, FCopyOf, BCopyOf, PySem.W.mg_of X G nCopyOf, FNeed, BNeed, PySem.W.mg_of X G nNeed, FNeedSigns, BNeedSigns, PySem.W.mg_of X G nNeedSigns, FNeedBounds, BNeedBounds, PySem.W.mg_of X G nNeedBounds, FFill, BFill, PySem.W.mg_of X G nFill, FFilledParts, BFilledParts, PySem.W.mg_of X G nFilledParts, FFilledPart, BFilledPart, PySem.W.mg_of X G nFilledPart, FFilledAsk, BFilledAsk, PySem.W.mg_of X G nFilledAsk, FFilledRows, BFilledRows, PySem.W.mg_of X G nFilledRows, FValueOf, BValueOf, PySem.W.mg_of X G nValueOf, FLawCellAt, BLawCellAt, PySem.W.mg_of X G nLawCellAt, FLawDraw, BLawDraw, PySem.W.mg_of X G nLawDraw, FLawSigns, BLawSigns, PySem.W.mg_of X G nLawSigns, FLawSay, BLawSay, PySem.W.mg_of X G nLawSay, FLawAsk, BLawAsk, PySem.W.mg_of X G nLawAsk, FLawInner, BLawInner, PySem.W.mg_of X G nLawInner, FLawPiece, BLawPiece, PySem.W.mg_of X G nLawPiece, FLawPieces, BLawPieces, PySem.W.mg_of X G nLawPieces, FLawWord, BLawWord, PySem.W.mg_of X G nLawWord, FLawRow, BLawRow, PySem.W.mg_of X G nLawRow, FLawValues, BLawValues, PySem.W.mg_of X G nLawValues, FLawLine, BLawLine, PySem.W.mg_of X G nLawLine, FLawWritten, BLawWritten, PySem.W.mg_of X G nLawWritten, FLaw, BLaw, PySem.W.mg_of X G nLaw, FFormI, BFormI, FSayI, BSayI, FAskI, BAskI, FRowsI, BRowsI, ⟨⟨pgForm, hdForm, poForm, saForm⟩, haForm, hn, ht, hmForm⟩, ⟨mkForm, nFormI, iFormI, kcForm⟩, PySem.W.mg_of X G aCForm, fFormPieces, fFormPlan, ⟨⟨pgSay, hdSay, poSay, saSay⟩, haSay, hn, ht, hmSay⟩, ⟨mkSay, nSayI, iSayI, kcSay⟩, PySem.W.mg_of X G aCSay, fSayText, ⟨⟨pgAsk, hdAsk, poAsk, saAsk⟩, haAsk, hn, ht, hmAsk⟩, ⟨mkAsk, nAskI, iAskI, kcAsk⟩, PySem.W.mg_of X G aCAsk, fAskLeast, fAskMost, fAskName, fAskSigns, ⟨⟨pgRows, hdRows, poRows, saRows⟩, haRows, hn, ht, hmRows⟩, ⟨mkRows, nRowsI, iRowsI, kcRows⟩, PySem.W.mg_of X G aCRows, fRowsGap, fRowsLeast, fRowsMost, fRowsName, fRowsParts, isSaySay, isSayAsk, isAskSay, isAskAsk, isRowsSay, isRowsAsk, isStrStr, isStrList, isListList, ⟨tS, PySem.W.mg_of X G gS⟩, PySem.W.mg_of X G gW, PySem.W.mg_of X G gR, PySem.W.mg_of X G gL, ⟨t1, t2, t3, slW, tW⟩, ⟨t4, t5, slR, tR⟩, ⟨t6, t7, t8, u1, u2, u3, epL, tL⟩, PySem.W.mg_none_of X G zlen, PySem.W.mg_none_of X G zrange, PySem.W.mg_none_of X G zisinstance, PySem.W.mg_none_of X G zset, PySem.W.mg_none_of X G zall, PySem.W.mg_none_of X G zlist, PySem.W.mg_none_of X G zstr, PySem.W.mg_none_of X G zdict⟩
  exact ⟨(PySem.W.fnOf "law" "law" (defArgs sLaw) (defBody sLaw) (defScope sLaw) .none kvLaw dcLaw pmLaw anLaw cdLaw ctLaw), fun s v => .of_eq rfl, fun base _ _ => ok_law T⟩
theorem walk {l : PySem.W.OpenLaw} {q : Program} {loose : List Str} {XP : (Str → Option Value) → Heap → Prop} {YP : World → Heap → Prop} {d : DefRec} {K : Params → PySem.W.Frag} (hn : l.most = some 63) (hdf : d.params.defaults = [])
    (hY : ∀ (w : World) (h : Heap), YP w h → (K w.params).In h)
    (F : ∀ (w : World) (mg : Str → Option Value) (fa : Addr) (h : Heap), (K w.params).In h → h.Ns mainGlobals mg → mg d.name = some (.ref fa) →
      ∃ fd : FuncData, (∀ (s : Shared) (u : Value), BindsTo s fd ⟨[u], []⟩ [("script", u)]) ∧ ∀ base : Heap, (K w.params).In base → base.Ns mainGlobals mg → FnOk l.prog w (K w.params) mg base CX0 13 fa fd ["script"] (spLaw (K w.params))) :
    PySem.W.WalkO q loose XP YP l.row.toRowW d [] (fun f vs => PySem.call f vs) :=
  L2.walk_of (n := 63) (k := 13) (x := "script") (CX := fun _ => CX0) (sp := fun w => spLaw (K w.params)) hn (by decide) hdf ⟨rfl, by decide, by decide⟩ hY F (fun _ _ a ns hl _ hS => ⟨a, ns, rfl, ⟨hS, hl⟩, fun _ => rfl⟩) fun _ _ _ _ _ z => z
end Lf
open PySem PySem.W PyProof.Rows
set_option maxRecDepth 100000 in
set_option maxHeartbeats 0 in
theorem PySem.Challenge.cw_letterform_k01_forms_holds : PySem.Challenge.rw_letterform_k01_forms.Holds := by
  w_on; o_law; k_head; (case hw => w_witness2)
  k_fill
  refine Lf.walk (l := PySem.Challenge.rw_letterform_k01_forms) rfl rfl (fun w h Y => PySem.W.kIn_of Y) ?F
  case F =>
    intro w mg fa h KX G hmg
    refine' Lf.all_mk KX G hmg ?aCForm ?aCSay ?aCAsk ?aCRows ?nNamesOf ?lNamesOf ?cNamesOf ?kNamesOf ?nNamesIn ?lNamesIn ?cNamesIn ?kNamesIn ?nPartsOf ?lPartsOf ?cPartsOf ?kPartsOf ?nPartOf ?lPartOf ?cPartOf ?kPartOf ?nCopyOf ?lCopyOf ?cCopyOf ?kCopyOf ?nNeed ?lNeed ?cNeed ?kNeed ?nNeedSigns ?lNeedSigns ?cNeedSigns ?kNeedSigns ?nNeedBounds ?lNeedBounds ?cNeedBounds ?kNeedBounds ?nFill ?lFill ?cFill ?kFill ?nFilledParts ?lFilledParts ?cFilledParts ?kFilledParts ?nFilledPart ?lFilledPart ?cFilledPart ?kFilledPart ?nFilledAsk ?lFilledAsk ?cFilledAsk ?kFilledAsk ?nFilledRows ?lFilledRows ?cFilledRows ?kFilledRows ?nValueOf ?lValueOf ?cValueOf ?kValueOf ?nLawCellAt ?lLawCellAt ?cLawCellAt ?kLawCellAt ?nLawDraw ?lLawDraw ?cLawDraw ?kLawDraw ?nLawSigns ?lLawSigns ?cLawSigns ?kLawSigns ?nLawSay ?lLawSay ?cLawSay ?kLawSay ?nLawAsk ?lLawAsk ?cLawAsk ?kLawAsk ?nLawInner ?lLawInner ?cLawInner ?kLawInner ?nLawPiece ?lLawPiece ?cLawPiece ?kLawPiece ?nLawPieces ?lLawPieces ?cLawPieces ?kLawPieces ?nLawWord ?lLawWord ?cLawWord ?kLawWord ?nLawRow ?lLawRow ?cLawRow ?kLawRow ?nLawValues ?lLawValues ?cLawValues ?kLawValues ?nLawLine ?lLawLine ?cLawLine ?kLawLine ?nLawWritten ?lLawWritten ?cLawWritten ?kLawWritten ?nLaw ?lLaw ?cLaw ?kLaw ?nFormI ?iFormI ?lFormI ?cFormI ?kFormI ?nSayI ?iSayI ?lSayI ?cSayI ?kSayI ?nAskI ?iAskI ?lAskI ?cAskI ?kAskI ?nRowsI ?iRowsI ?lRowsI ?cRowsI ?kRowsI ?pgForm ?hdForm ?poForm ?saForm ?mkForm ?kcForm ?haForm ?hmForm ?fFormPieces ?fFormPlan ?pgSay ?hdSay ?poSay ?saSay ?mkSay ?kcSay ?haSay ?hmSay ?fSayText ?pgAsk ?hdAsk ?poAsk ?saAsk ?mkAsk ?kcAsk ?haAsk ?hmAsk ?fAskLeast ?fAskMost ?fAskName ?fAskSigns ?pgRows ?hdRows ?poRows ?saRows ?mkRows ?kcRows ?haRows ?hmRows ?fRowsGap ?fRowsLeast ?fRowsMost ?fRowsName ?fRowsParts ?hn ?ht ?isSaySay ?isSayAsk ?isAskSay ?isAskAsk ?isRowsSay ?isRowsAsk ?isStrStr ?isStrList ?isListList ?gS ?gW ?gR ?gL ?tW ?tR ?tL ?zlen ?zrange ?zisinstance ?zset ?zall ?zlist ?zstr ?zdict
    (case aCForm => k_is)
    (case aCSay => k_is)
    (case aCAsk => k_is)
    (case aCRows => k_is)
    (case nNamesOf => k_is)
    (case lNamesOf => k_is)
    (case cNamesOf => k_is)
    (case kNamesOf => k_is)
    (case nNamesIn => k_is)
    (case lNamesIn => k_is)
    (case cNamesIn => k_is)
    (case kNamesIn => k_is)
    (case nPartsOf => k_is)
    (case lPartsOf => k_is)
    (case cPartsOf => k_is)
    (case kPartsOf => k_is)
    (case nPartOf => k_is)
    (case lPartOf => k_is)
    (case cPartOf => k_is)
    (case kPartOf => k_is)
    (case nCopyOf => k_is)
    (case lCopyOf => k_is)
    (case cCopyOf => k_is)
    (case kCopyOf => k_is)
    (case nNeed => k_is)
    (case lNeed => k_is)
    (case cNeed => k_is)
    (case kNeed => k_is)
    (case nNeedSigns => k_is)
    (case lNeedSigns => k_is)
    (case cNeedSigns => k_is)
    (case kNeedSigns => k_is)
    (case nNeedBounds => k_is)
    (case lNeedBounds => k_is)
    (case cNeedBounds => k_is)
    (case kNeedBounds => k_is)
    (case nFill => k_is)
    (case lFill => k_is)
    (case cFill => k_is)
    (case kFill => k_is)
    (case nFilledParts => k_is)
    (case lFilledParts => k_is)
    (case cFilledParts => k_is)
    (case kFilledParts => k_is)
    (case nFilledPart => k_is)
    (case lFilledPart => k_is)
    (case cFilledPart => k_is)
    (case kFilledPart => k_is)
    (case nFilledAsk => k_is)
    (case lFilledAsk => k_is)
    (case cFilledAsk => k_is)
    (case kFilledAsk => k_is)
    (case nFilledRows => k_is)
    (case lFilledRows => k_is)
    (case cFilledRows => k_is)
    (case kFilledRows => k_is)
    (case nValueOf => k_is)
    (case lValueOf => k_is)
    (case cValueOf => k_is)
    (case kValueOf => k_is)
    (case nLawCellAt => k_is)
    (case lLawCellAt => k_is)
    (case cLawCellAt => k_is)
    (case kLawCellAt => k_is)
    (case nLawDraw => k_is)
    (case lLawDraw => k_is)
    (case cLawDraw => k_is)
    (case kLawDraw => k_is)
    (case nLawSigns => k_is)
    (case lLawSigns => k_is)
    (case cLawSigns => k_is)
    (case kLawSigns => k_is)
    (case nLawSay => k_is)
    (case lLawSay => k_is)
    (case cLawSay => k_is)
    (case kLawSay => k_is)
    (case nLawAsk => k_is)
    (case lLawAsk => k_is)
    (case cLawAsk => k_is)
    (case kLawAsk => k_is)
    (case nLawInner => k_is)
    (case lLawInner => k_is)
    (case cLawInner => k_is)
    (case kLawInner => k_is)
    (case nLawPiece => k_is)
    (case lLawPiece => k_is)
    (case cLawPiece => k_is)
    (case kLawPiece => k_is)
    (case nLawPieces => k_is)
    (case lLawPieces => k_is)
    (case cLawPieces => k_is)
    (case kLawPieces => k_is)
    (case nLawWord => k_is)
    (case lLawWord => k_is)
    (case cLawWord => k_is)
    (case kLawWord => k_is)
    (case nLawRow => k_is)
    (case lLawRow => k_is)
    (case cLawRow => k_is)
    (case kLawRow => k_is)
    (case nLawValues => k_is)
    (case lLawValues => k_is)
    (case cLawValues => k_is)
    (case kLawValues => k_is)
    (case nLawLine => k_is)
    (case lLawLine => k_is)
    (case cLawLine => k_is)
    (case kLawLine => k_is)
    (case nLawWritten => k_is)
    (case lLawWritten => k_is)
    (case cLawWritten => k_is)
    (case kLawWritten => k_is)
    (case nLaw => k_is)
    (case lLaw => k_is)
    (case cLaw => k_is)
    (case kLaw => k_is)
    (case nFormI => k_is)
    (case iFormI => k_is)
    (case lFormI => k_is)
    (case cFormI => k_is)
    (case kFormI => k_is)
    (case nSayI => k_is)
    (case iSayI => k_is)
    (case lSayI => k_is)
    (case cSayI => k_is)
    (case kSayI => k_is)
    (case nAskI => k_is)
    (case iAskI => k_is)
    (case lAskI => k_is)
    (case cAskI => k_is)
    (case kAskI => k_is)
    (case nRowsI => k_is)
    (case iRowsI => k_is)
    (case lRowsI => k_is)
    (case cRowsI => k_is)
    (case kRowsI => k_is)
    (case pgForm => k_is)
    (case hdForm => k_is)
    (case poForm => k_is)
    (case saForm => k_is)
    (case mkForm => k_is)
    (case kcForm => k_is)
    (case haForm => k_is)
    (case hmForm => k_is)
    (case fFormPieces => k_is)
    (case fFormPlan => k_is)
    (case pgSay => k_is)
    (case hdSay => k_is)
    (case poSay => k_is)
    (case saSay => k_is)
    (case mkSay => k_is)
    (case kcSay => k_is)
    (case haSay => k_is)
    (case hmSay => k_is)
    (case fSayText => k_is)
    (case pgAsk => k_is)
    (case hdAsk => k_is)
    (case poAsk => k_is)
    (case saAsk => k_is)
    (case mkAsk => k_is)
    (case kcAsk => k_is)
    (case haAsk => k_is)
    (case hmAsk => k_is)
    (case fAskLeast => k_is)
    (case fAskMost => k_is)
    (case fAskName => k_is)
    (case fAskSigns => k_is)
    (case pgRows => k_is)
    (case hdRows => k_is)
    (case poRows => k_is)
    (case saRows => k_is)
    (case mkRows => k_is)
    (case kcRows => k_is)
    (case haRows => k_is)
    (case hmRows => k_is)
    (case fRowsGap => k_is)
    (case fRowsLeast => k_is)
    (case fRowsMost => k_is)
    (case fRowsName => k_is)
    (case fRowsParts => k_is)
    (case hn => k_is)
    (case ht => k_is)
    (case isSaySay => kit_is)
    (case isSayAsk => kit_is)
    (case isAskSay => kit_is)
    (case isAskAsk => kit_is)
    (case isRowsSay => kit_is)
    (case isRowsAsk => kit_is)
    (case isStrStr => kit_is)
    (case isStrList => kit_is)
    (case isListList => kit_is)
    (case gS => k_is)
    (case gW => k_is)
    (case gR => k_is)
    (case gL => k_is)
    (case tW => k_is)
    (case tR => k_is)
    (case tL => k_is)
    (case zlen => k_is)
    (case zrange => k_is)
    (case zisinstance => k_is)
    (case zset => k_is)
    (case zall => k_is)
    (case zlist => k_is)
    (case zstr => k_is)
    (case zdict => k_is)
