import PyProof.Rows.All
import Wide.All
import OpenK.AllK
import Wide.FinOn
import Lean
import PyProof.EqAt
import PyProof.EqKinds
import PyProof.TupleCall
import PySem.Challenge.RW_letterform_k04_values_refused
set_option Elab.async false
set_option linter.all false
set_option maxRecDepth 100000
/-! THE HAND LAYER, for ints, bools, texts, own classes, LISTS and tuples (index, slices, in, append, pop ..), calls, loops. Paste it whole ahead of your own text; what your proof does not reach may be deleted. -/
namespace L2
open PySem PySem.Spec PyProof.Rows

/-- a key: an int or a str -/
abbrev Key := Sum Int Str
def keyIs : Key → Value → Bool
  | .inl k, v => Value.isInt k v
  | .inr x, v => Value.isStrOf x v
def keyH (w : World) : Key → Int
  | .inl k => hashInt k
  | .inr x => hashStr w x
theorem keyIs_shape : ∀ {k : Key} {v : Value}, keyIs k v = true → (∃ i t, k = Sum.inl i ∧ v = Value.int i t) ∨ (∃ x t, k = Sum.inr x ∧ v = Value.str x t)
  | .inl i, v, h => by
    obtain ⟨t, e⟩ := Value.isInt_shape (k := i) (v := v) h
    exact .inl ⟨i, t, rfl, e⟩
  | .inr x, v, h => by
    obtain ⟨t, e⟩ := Value.isStrOf_shape (x := x) (v := v) h
    exact .inr ⟨x, t, rfl, e⟩
theorem keyIs_int (i : Int) (t : Tok) : keyIs (.inl i) (.int i t) = true := by simp [keyIs, Value.isInt]
theorem keyIs_str (x : Str) (t : Tok) : keyIs (.inr x) (.str x t) = true := by simp [keyIs, Value.isStrOf]
theorem key_ll (a b : Int) : decide ((Sum.inl a : Key) = Sum.inl b) = (a == b) := by
  by_cases e : a = b
  · subst e; simp
  · have h : ¬ (Sum.inl a : Key) = Sum.inl b := fun q => e (Sum.inl.inj q)
    rw [decide_eq_false h]
    exact (beq_eq_false_iff_ne.mpr e).symm
theorem key_rr (a b : Str) : decide ((Sum.inr a : Key) = Sum.inr b) = decide (a = b) := by
  by_cases e : a = b
  · subst e; simp
  · have h : ¬ (Sum.inr a : Key) = Sum.inr b := fun q => e (Sum.inr.inj q)
    rw [decide_eq_false h, decide_eq_false e]
theorem key_lr (a : Int) (b : Str) : decide ((Sum.inl a : Key) = Sum.inr b) = false := decide_eq_false (fun q => nomatch q)
theorem key_rl (a : Str) (b : Int) : decide ((Sum.inr a : Key) = Sum.inl b) = false := decide_eq_false (fun q => nomatch q)

def mixKind (prog : Program) (w : World) : PySem.KeyKind prog w Key where
  is := keyIs
  hash := keyH w
  inj := fun v a b ha hb => by
    rcases keyIs_shape ha with ⟨i, t, rfl, rfl⟩ | ⟨x, t, rfl, rfl⟩
    · rcases keyIs_shape hb with ⟨j, u, rfl, e⟩ | ⟨y, u, rfl, e⟩
      · injection e with e1 _; rw [e1]
      · exact nomatch e
    · rcases keyIs_shape hb with ⟨j, u, rfl, e⟩ | ⟨y, u, rfl, e⟩
      · exact nomatch e
      · injection e with e1 _; rw [e1]
  byValue := fun k v h => by
    rcases keyIs_shape h with ⟨i, t, rfl, rfl⟩ | ⟨x, t, rfl, rfl⟩ <;> rfl
  pyHash := fun hv h => by
    rcases keyIs_shape hv with ⟨i, t, rfl, rfl⟩ | ⟨x, t, rfl, rfl⟩
    · exact wpAny_pyHash_int h
    · exact wpAny_pyHash_str h
  eqBool := fun hu hv h => by
    rcases keyIs_shape hu with ⟨i, t, rfl, rfl⟩ | ⟨x, t, rfl, rfl⟩
    · rcases keyIs_shape hv with ⟨j, u, rfl, rfl⟩ | ⟨y, u, rfl, rfl⟩
      · rw [key_ll] at h; exact wpAny_eqBool_int h
      · rw [key_lr] at h; exact SeqAt.EqAt.int_str i t y u _ _ _ _ h
    · rcases keyIs_shape hv with ⟨j, u, rfl, rfl⟩ | ⟨y, u, rfl, rfl⟩
      · rw [key_rl] at h; exact SeqAt.EqAt.str_int x t j u _ _ _ _ h
      · rw [key_rr] at h; exact wpAny_eqBool_str h
  «strs» := fun k x t v h => by
    rcases keyIs_shape h with ⟨i, u, rfl, e⟩ | ⟨y, u, rfl, e⟩
    · exact nomatch e
    · injection e with e1 _
      subst e1
      cases v <;> rfl

theorem mixKind_int (prog : Program) (w : World) (i : Int) (t : Tok) : (mixKind prog w).is (.inl i) (.int i t) = true := keyIs_int i t
theorem mixKind_str (prog : Program) (w : World) (x : Str) (t : Tok) : (mixKind prog w).is (.inr x) (.str x t) = true := keyIs_str x t
end L2

namespace L2
open PySem PySem.Spec PyProof.Rows

/-- a value, without the heap -/
inductive V where
  | non | bl (b : Bool) | int (i : Int) | str (x : Str) | byt (b : Array UInt8) | flt (b : UInt64) | ref (a : Addr) | ty (n : String)
  deriving DecidableEq

def RelV : V → Value → Prop
  | .non, u => u = Value.none
  | .bl b, u => u = Value.bool b
  | .int i, u => ∃ t, u = Value.int i t
  | .str x, u => ∃ t, u = Value.str x t
  | .byt b, u => ∃ t, u = Value.bytes b t
  | .flt b, u => ∃ t, u = Value.float b t
  | .ref a, u => u = Value.ref a
  | .ty n, u => u = Value.type n

abbrev Vals : List V → List Value → Prop := Paired RelV
theorem Vals.length {xs : List V} {us : List Value} (r : Vals xs us) : xs.length = us.length := Paired.length r
theorem Vals.get : ∀ {xs : List V} {us : List Value} {i : Nat} {x : V}, Vals xs us → xs[i]? = some x → ∃ u, us[i]? = some u ∧ RelV x u
  | _, _, _, _, .nil, e => by simp at e
  | _, _, 0, _, .cons r _, e => by simp at e; subst e; exact ⟨_, rfl, r⟩
  | _, _, i + 1, x, .cons _ t, e => by
    obtain ⟨u, h1, h2⟩ := Vals.get (i := i) (x := x) t (by simpa using e)
    exact ⟨u, by simpa using h1, h2⟩
theorem Vals.append : ∀ {xs ys : List V} {us ws : List Value}, Vals xs us → Vals ys ws → Vals (xs ++ ys) (us ++ ws)
  | _, _, _, _, .nil, s => s
  | _, _, _, _, .cons r t, s => .cons r (Vals.append t s)
theorem Vals.take : ∀ {xs : List V} {us : List Value} (n : Nat), Vals xs us → Vals (xs.take n) (us.take n)
  | _, _, 0, _ => .nil
  | _, _, _ + 1, .nil => .nil
  | _, _, n + 1, .cons r t => .cons r (Vals.take n t)
theorem Vals.drop : ∀ {xs : List V} {us : List Value} (n : Nat), Vals xs us → Vals (xs.drop n) (us.drop n)
  | _, _, 0, r => r
  | _, _, _ + 1, .nil => .nil
  | _, _, n + 1, .cons _ t => Vals.drop n t
def RelO : Option V → Option Value → Prop
  | some v, some u => RelV v u
  | none, none => True
  | _, _ => False
def KV {κ : Type} : List (κ × V) → List (κ × Value) → Prop := Paired fun (p : κ × V) (q : κ × Value) => p.1 = q.1 ∧ RelV p.2 q.2

/-- a key of a dict (00_mix): an int or a text -/
def kV : Key → V
  | .inl i => .int i
  | .inr x => .str x

/-- what stands at a tracked address -/
inductive HO where
  /-- a list -/
  | lst (xs : List V)
  /-- a tuple (never changes) -/
  | tup (xs : List V)
  /-- a dict whose keys are ints and texts; one whose keys are tuples of ints and texts (the empty one is both) -/
  | dK (kvs : List (Key × V)) | dT (kvs : List (List Key × V))
  /-- a set of ints: its members, its size -/
  | set (S : Int → Bool) (n : Nat)
  /-- an instance of the class at C, its dict at dx, its attributes -/
  | ins (C dx : Addr) (fs : List (Str × V))
  /-- the dict of the instance at x -/
  | own (x : Addr)
  /-- the dict of an exception -/
  | xd (fs : List (Str × V))
  /-- a bound method, f of x -/
  | met (f x : Addr)
  /-- a range object lo, lo + 1, .. below hi -/
  | rng (lo hi : Int)
  /-- a thing that is known to the object (the script; a dict while a loop walks it): read, never written while it is so -/
  | frz (o : Obj) (u : HO)
  /-- a code object's table -/
  | tbl (ps : Array Value)
  /-- any other thing, by what is true of its one object (a def of one's own: SetO a S n := HO.ext fun h => ..) -/
  | ext (φ : Heap → Prop)

abbrev Hp := Addr → Option HO
def upd (H : Hp) (a : Addr) (o : HO) : Hp := fun b => if b = a then some o else H b
theorem upd_same {H : Hp} {a : Addr} {o : HO} : upd H a o a = some o := by unfold upd; rw [if_pos rfl]
theorem upd_ne {H : Hp} {a b : Addr} {o : HO} (h : b ≠ a) : upd H a o b = H b := by unfold upd; rw [if_neg h]
/-- two objects of different content stand apart -/
theorem ne_of {H : Hp} {a b : Addr} {o u : HO} (h : H a = some o) (h' : H b = some u) (d : o ≠ u) : a ≠ b := by
  intro e; subst e; rw [h] at h'; exact d (Option.some.inj h')
theorem ne_of_none {H : Hp} {a b : Addr} {o : HO} (h : H a = some o) (h' : H b = none) : a ≠ b := by
  intro e; subst e; rw [h] at h'; cases h'

section
variable (P : Program) (w : World)
def ObjOk (H : Hp) (h : Heap) (a : Addr) : HO → Prop
  | .lst xs => xs.length ≤ sizeLine ∧ ∃ (its : List Value) (n : Nat), Vals xs its ∧ h.get? a = some { cls := .type "list", data := .seq its.toArray n }
  | .tup xs => xs.length ≤ sizeLine ∧ ∃ its : List Value, Vals xs its ∧ IsTup h a its.toArray
  | .dK kvs => kvs.length ≤ sizeLine ∧ (a == sysModules) = false ∧ ∃ vs, KV kvs vs ∧ h.DictOf (mixKind P w) a vs
  | .dT kvs => kvs.length ≤ sizeLine ∧ (a == sysModules) = false ∧ ∃ xs : List (List Key × Addr × Value),
      Paired (fun (p : List Key × V) (q : List Key × Addr × Value) => p.1 = q.1 ∧ H q.2.1 = some (.tup (p.1.map kV)) ∧ RelV p.2 q.2.2) kvs xs ∧
      ∃ o es ep, h.get? a = some o ∧ o.ExactDict ∧ o.data = .dict es ep ∧ es.toList = xs.map (entryOfKey (tupleKind (mixKind P w))) ∧ (xs.map (·.1)).Nodup
  | .set S n => h.SetOf (intKind P w) a S n
  | .ins C dx fs => H dx = some (.own a) ∧ fs.length ≤ 1000 ∧ dx ≠ a ∧ h.get? a = some (PySem.W.instObj C dx) ∧
      ∃ mA, h.Ns1 dx mA ∧ (∀ f, RelO (fs.lookup f) (mA f)) ∧ PySem.Within mA (fs.map (·.1))
  | .own _ => ∃ o, h.get? a = some o
  | .xd fs => ∃ mA, h.Ns1 a mA ∧ ∀ f, RelO (fs.lookup f) (mA f)
  | .rng lo hi => ∃ t u v, h.get? a = some { cls := .type "range", data := .fields #[.int lo t, .int hi u, .int 1 v] }
  | .frz o u => h.get? a = some o ∧ ObjOk H h a u
  | .tbl ps => h.get? a = some { cls := .none, data := .fields ps }
  | .met f x => h.get? a = some (PySem.W.methodObj (.ref f) (.ref x))
  | .ext φ => φ h ∧ (∃ o, h.get? a = some o) ∧ ∀ h1 h2 : Heap, φ h1 → (∀ o, h1.get? a = some o → h2.get? a = some o) → φ h2
/-- the abstract heap is held -/
def HOk (H : Hp) (h : Heap) : Prop := ∀ a o, H a = some o → ObjOk P w H h a o
end

section
variable {P : Program} {w : World} {H H' : Hp} {h h' : Heap} {a : Addr} {o : HO}
theorem ObjOk.lt (x : ObjOk P w H h a o) : a < h.objs.size := by
  cases o with
  | lst xs => obtain ⟨_, _, _, _, e⟩ := x; exact Heap.lt_size e
  | tup xs => obtain ⟨_, _, _, p⟩ := x; exact p.lt
  | dK kvs => obtain ⟨_, _, _, _, o, _, _, e, _⟩ := x; exact Heap.lt_size e
  | dT kvs => obtain ⟨_, _, _, _, o, _, _, e, _⟩ := x; exact Heap.lt_size e
  | set S n => obtain ⟨o, _, _, _, e, _⟩ := x; exact Heap.lt_size e
  | ins C dx fs => obtain ⟨_, _, _, e, _⟩ := x; exact Heap.lt_size e
  | own y => obtain ⟨_, e⟩ := x; exact Heap.lt_size e
  | xd fs => obtain ⟨_, ⟨_, _, _, e, _⟩, _⟩ := x; exact Heap.lt_size e
  | rng lo hi => obtain ⟨_, _, _, e⟩ := x; exact Heap.lt_size e
  | frz ob u => obtain ⟨e, _⟩ := x; exact Heap.lt_size e
  | tbl ps => exact Heap.lt_size (show h.get? a = some _ from x)
  | met f y => exact Heap.lt_size (show h.get? a = some _ from x)
  | ext φ => obtain ⟨_, ⟨_, e⟩, _⟩ := x; exact Heap.lt_size e
theorem Paired.mapP {α β : Type} {F G : α → β → Prop} : ∀ {l₁ : List α} {l₂ : List β}, Paired F l₁ l₂ → (∀ a b, F a b → G a b) → Paired G l₁ l₂
  | _, _, .nil, _ => .nil
  | _, _, .cons r t, f => .cons (f _ _ r) (Paired.mapP t f)
/-- what an object's description leans on: its own object, its own dict, the tuples -/
theorem ObjOk.stay (x : ObjOk P w H h a o) (k : ∀ b u, (b = a ∨ H b = some (.own a)) → h.get? b = some u → h'.get? b = some u)
    (ho : ∀ b, H b = some (.own a) → H' b = some (.own a)) (ht : ∀ b xs, H b = some (.tup xs) → H' b = some (.tup xs)) : ObjOk P w H' h' a o := by
  induction o with
  | lst xs => obtain ⟨z, its, n, r, e⟩ := x; exact ⟨z, its, n, r, k _ _ (.inl rfl) e⟩
  | tup xs => obtain ⟨z, its, r, ob, e, c⟩ := x; exact ⟨z, its, r, ob, k _ _ (.inl rfl) e, c⟩
  | dK kvs => obtain ⟨z, y, vs, r, ob, es, ep, e, c⟩ := x; exact ⟨z, y, vs, r, ob, es, ep, k _ _ (.inl rfl) e, c⟩
  | dT kvs =>
    obtain ⟨z, y, xs, r, ob, es, ep, e, c⟩ := x
    exact ⟨z, y, xs, Paired.mapP r fun p q z => ⟨z.1, ht _ _ z.2.1, z.2.2⟩, ob, es, ep, k _ _ (.inl rfl) e, c⟩
  | set S n => obtain ⟨ob, es, ep, t, e, c⟩ := x; exact ⟨ob, es, ep, t, k _ _ (.inl rfl) e, c⟩
  | ins C dx fs =>
    obtain ⟨d, z, ne, e, mA, ⟨od, es, ep, e2, c⟩, r⟩ := x
    exact ⟨ho _ d, z, ne, k _ _ (.inl rfl) e, mA, ⟨od, es, ep, k _ _ (.inr d) e2, c⟩, r⟩
  | own y => obtain ⟨ob, e⟩ := x; exact ⟨ob, k _ _ (.inl rfl) e⟩
  | xd fs => obtain ⟨mA, ⟨od, es, ep, e, c⟩, r⟩ := x; exact ⟨mA, ⟨od, es, ep, k _ _ (.inl rfl) e, c⟩, r⟩
  | rng lo hi => obtain ⟨t, u, v, e⟩ := x; exact ⟨t, u, v, k _ _ (.inl rfl) e⟩
  | frz ob u ih => obtain ⟨e, q⟩ := x; exact ⟨k _ _ (.inl rfl) e, ih q⟩
  | tbl ps =>
    have e : h.get? a = some { cls := .none, data := .fields ps } := x
    show h'.get? a = some { cls := .none, data := .fields ps }
    exact k a _ (.inl rfl) e
  | met f y =>
    have e : h.get? a = some (PySem.W.methodObj (.ref f) (.ref y)) := x
    show h'.get? a = some (PySem.W.methodObj (.ref f) (.ref y))
    exact k a _ (.inl rfl) e
  | ext φ => obtain ⟨p, ⟨o, e⟩, st⟩ := x; exact ⟨st _ _ p fun o q => k _ _ (.inl rfl) q, ⟨o, k _ _ (.inl rfl) e⟩, st⟩
theorem HOk.lt (x : HOk P w H h) (e : H a = some o) : a < h.objs.size := (x a o e).lt
theorem HOk.fresh (x : HOk P w H h) (e : h.objs.size ≤ a) : H a = none := by
  cases q : H a with
  | none => rfl
  | some u => exact absurd (Nat.lt_of_lt_of_le (x.lt q) e) (Nat.lt_irrefl _)
/-- every object of the heap is kept -/
theorem HOk.kept (x : HOk P w H h) (k : ∀ b u, h.get? b = some u → h'.get? b = some u) : HOk P w H h' := fun a o e =>
  (x a o e).stay (fun b u _ q => k b u q) (fun _ q => q) fun _ _ q => q
/-- a new object is laid and tracked -/
theorem HOk.laid (x : HOk P w H h) (k : ∀ b u, h.get? b = some u → h'.get? b = some u) (hp : h.objs.size ≤ a) (new : ObjOk P w (upd H a o) h' a o) : HOk P w (upd H a o) h' := fun b u e => by
  have hn := x.fresh hp
  by_cases hb : b = a
  · subst hb; rw [upd_same] at e; cases e; exact new
  · rw [upd_ne hb] at e
    exact (x b u e).stay (fun c v _ q => k c v q) (fun c q => by rw [upd_ne (ne_of_none q hn)]; exact q) fun c xs q => by rw [upd_ne (ne_of_none q hn)]; exact q
end

/-- what may be read as u: it is u, or a known u -/
def Rd (H : Hp) (a : Addr) (u : HO) : Prop := H a = some u ∨ ∃ o, H a = some (.frz o u)
theorem Rd.ok {P : Program} {w : World} {H : Hp} {h : Heap} {a : Addr} {u : HO} (r : Rd H a u) (x : HOk P w H h) : ObjOk P w H h a u := by
  rcases r with r | ⟨o, r⟩
  · exact x a u r
  · obtain ⟨_, q⟩ := x a _ r
    exact q
/-- what may be written -/
def Mut : Option HO → Prop
  | some (.lst _) => True
  | some (.dK _) => True
  | some (.dT _) => True
  | some (.set _ _) => True
  | some (.ins _ _ _) => True
  | some (.ext _) => True
  | _ => False
section
variable {P : Program} {w : World} {H : Hp} {h h' : Heap} {x e : Addr} {o' : HO}
/-- the object at e is changed: x itself, or the dict of the instance x -/
theorem HOk.write (ok : HOk P w H h) (mu : Mut (H x)) (he : e = x ∨ H e = some (.own x)) (k : ∀ b u, b ≠ e → h.get? b = some u → h'.get? b = some u) (heo : ∃ u, h'.get? e = some u)
    (new : ObjOk P w (upd H x o') h' x o') : HOk P w (upd H x o') h' := fun b u q => by
  have nown : ∀ c y, H c = some (.own y) → c ≠ x := fun c y r z => by subst z; rw [r] at mu; exact mu
  have ntup : ∀ c xs, H c = some (.tup xs) → c ≠ x := fun c xs r z => by subst z; rw [r] at mu; exact mu
  by_cases hb : b = x
  · subst hb; rw [upd_same] at q; cases q; exact new
  · rw [upd_ne hb] at q
    by_cases hbe : b = e
    · have q' : H b = some (.own x) := by
        rcases he with z | z
        · exact absurd (hbe.trans z) hb
        · rw [hbe]; exact z
      rw [q] at q'; cases q'
      obtain ⟨v, hv⟩ := heo
      exact ⟨v, by rw [hbe]; exact hv⟩
    · refine (ok b u q).stay (fun c v hc r => k c v ?_ r) (fun c r => by rw [upd_ne (nown c b r)]; exact r) fun c xs r => by rw [upd_ne (ntup c xs r)]; exact r
      rcases hc with rfl | hc
      · exact hbe
      · rintro rfl
        rcases he with z | z
        · exact nown c b hc z
        · rw [hc] at z; cases z; exact hb rfl
end

/-! ### kept unless tracked; of the frames at fs (the callers') the slots may change (an exception that passes writes there); of the records at ex (iterators) nothing is said -/
structure Un (fs ex : List Addr) (H H' : Hp) (h h' : Heap) : Prop where
  keep : ∀ b o, h.get? b = some o → H b = none → b ∉ fs → b ∉ ex → h'.get? b = some o
  slot : ∀ b o, h.get? b = some o → H b = none → b ∈ fs → b ∉ ex → ∃ sl, h'.get? b = some { o with slots := sl }
  free : ∀ b o, h.get? b = some o → H b = none → b ∉ ex → H' b = none
  there : ∀ b o, h.get? b = some o → b ∉ ex → ∃ o', h'.get? b = some o'
  tups : ∀ b xs, H b = some (.tup xs) → H' b = some (.tup xs)
  frzs : ∀ b o u, H b = some (.frz o u) → H' b = some (.frz o u)
  tbls : ∀ b ps, H b = some (.tbl ps) → ∃ more, H' b = some (.tbl (ps ++ more))
section
variable {fs fs' ex ex' : List Addr} {H H1 H2 : Hp} {h h1 h2 h' : Heap} {a x e : Addr} {o : HO}
theorem Un.any (u : Un fs ex H H1 h h1) {b : Addr} {ob : Obj} (q : h.get? b = some ob) (n : H b = none) (hx : b ∉ ex) : ∃ sl, h1.get? b = some { ob with slots := sl } := by
  by_cases hb : b ∈ fs
  · exact u.slot b ob q n hb hx
  · exact ⟨ob.slots, u.keep b ob q n hb hx⟩
theorem Un.trans (a : Un fs ex H H1 h h1) (b : Un fs ex H1 H2 h1 h2) : Un fs ex H H2 h h2 where
  keep := fun c ob q n hc hx => b.keep c ob (a.keep c ob q n hc hx) (a.free c ob q n hx) hc hx
  slot := fun c ob q n hc hx => by
    obtain ⟨sl, e1⟩ := a.slot c ob q n hc hx
    obtain ⟨sl', e2⟩ := b.slot c _ e1 (a.free c ob q n hx) hc hx
    exact ⟨sl', e2⟩
  free := fun c ob q n hx => by
    obtain ⟨o', e1⟩ := a.there c ob q hx
    exact b.free c o' e1 (a.free c ob q n hx) hx
  there := fun c ob q hx => by
    obtain ⟨o', e1⟩ := a.there c ob q hx
    exact b.there c o' e1 hx
  tups := fun c xs q => b.tups c xs (a.tups c xs q)
  frzs := fun c ob xs q => b.frzs c ob xs (a.frzs c ob xs q)
  tbls := fun c ps q => by
    obtain ⟨m1, e1⟩ := a.tbls c ps q
    obtain ⟨m2, e2⟩ := b.tbls c _ e1
    exact ⟨m1 ++ m2, by rw [e2, Array.append_assoc]⟩
theorem Un.kept (k : ∀ b u, h.get? b = some u → h'.get? b = some u) : Un fs ex H H h h' :=
  ⟨fun b ob q _ _ _ => k b ob q, fun b ob q _ _ _ => ⟨ob.slots, k b ob q⟩, fun _ _ _ n _ => n, fun b ob q _ => ⟨ob, k b ob q⟩, fun _ _ q => q, fun _ _ _ q => q, fun _ ps q => ⟨#[], by rw [q]; simp⟩⟩
theorem Un.refl : Un fs ex H H h h := Un.kept fun _ _ q => q
theorem Un.laid (k : ∀ b u, h.get? b = some u → h'.get? b = some u) (hp : h.objs.size ≤ a) (hn : H a = none) : Un fs ex H (upd H a o) h h' where
  keep := fun b u q _ _ _ => k b u q
  slot := fun b u q _ _ _ => ⟨u.slots, k b u q⟩
  free := fun b u q n _ => by rw [upd_ne (Nat.ne_of_lt (Nat.lt_of_lt_of_le (Heap.lt_size q) hp))]; exact n
  there := fun b u q _ => ⟨u, k b u q⟩
  tups := fun b xs q => by rw [upd_ne (ne_of_none q hn)]; exact q
  frzs := fun b u xs q => by rw [upd_ne (ne_of_none q hn)]; exact q
  tbls := fun b ps q => ⟨#[], by rw [upd_ne (ne_of_none q hn), q]; simp⟩
theorem Un.write (mu : Mut (H x)) (he : e = x ∨ H e = some (.own x)) (k : ∀ b u, b ≠ e → h.get? b = some u → h'.get? b = some u) (heo : ∃ u, h'.get? e = some u) : Un fs ex H (upd H x o) h h' := by
  have hx : ∀ b, H b = none → b ≠ x := fun b n z => by subst z; rw [n] at mu; exact mu
  have hb : ∀ b, H b = none → b ≠ e := fun b n z => by
    subst z
    rcases he with r | r
    · exact hx b n r
    · rw [n] at r; cases r
  have hm : ∀ b u, H b = some u → ¬ Mut (some u) → b ≠ x := fun b u q nm z => by subst z; rw [q] at mu; exact nm mu
  refine ⟨fun b u q n _ _ => k b u (hb b n) q, fun b u q n _ _ => ⟨u.slots, k b u (hb b n) q⟩, fun b u q n _ => by rw [upd_ne (hx b n)]; exact n, fun b u q _ => ?_,
    fun b xs q => by rw [upd_ne (hm b _ q fun z => z)]; exact q, fun b u xs q => by rw [upd_ne (hm b _ q fun z => z)]; exact q, fun b ps q => ⟨#[], by rw [upd_ne (hm b _ q fun z => z), q]; simp⟩⟩
  by_cases hbe : b = e
  · subst hbe; exact heo
  · exact ⟨u, k b u hbe q⟩
theorem Un.mono (u : Un fs ex H H1 h h1) (hs : ∀ b ∈ fs, b ∈ fs') (hx : ∀ b ∈ ex, b ∈ ex') : Un fs' ex' H H1 h h1 :=
  ⟨fun b ob q n hb he => u.keep b ob q n (fun z => hb (hs b z)) fun z => he (hx b z), fun _ _ q n _ he => u.any q n fun z => he (hx _ z), fun b ob q n he => u.free b ob q n fun z => he (hx b z), fun b ob q he => u.there b ob q fun z => he (hx b z), u.tups, u.frzs, u.tbls⟩
end

/-! ### the heap without what is tracked -/
def trk (h : Heap) (H : Hp) : List Addr := (List.range h.objs.size).filter fun a => (H a).isSome
def hidT (h : Heap) (H : Hp) : Heap := PySem.W.hideAll h (trk h H)
theorem hidT_size (h : Heap) (H : Hp) : (hidT h H).objs.size = h.objs.size := PySem.W.hideAll_size _ _
theorem hidT_get {h : Heap} {H : Hp} {b : Addr} {o : Obj} (e : h.get? b = some o) (n : H b = none) : (hidT h H).get? b = some o :=
  PySem.W.hideAll_get _ e fun hm => by
    have q : (H b).isSome = true := (List.mem_filter.mp hm).2
    rw [n] at q; simp at q
theorem of_hidT {h : Heap} {H : Hp} {b : Addr} {o : Obj} (e : (hidT h H).get? b = some o) : h.get? b = some o ∧ H b = none := by
  have e' : h.get? b = some o := PySem.W.of_hideAll (trk h H) e
  refine ⟨e', ?_⟩
  cases q : H b with
  | none => rfl
  | some x =>
    have hm : b ∈ trk h H := List.mem_filter.mpr ⟨List.mem_range.mpr (Heap.lt_size e'), by simp [q]⟩
    have z : (hidT h H).get? b = none := PySem.W.hideAll_none (trk h H) hm
    rw [z] at e; cases e

/-! ### OpenK's ledger, filled with every new object but one -/
end L2

namespace L2
open PySem PySem.Spec PyProof.Rows

/-- the module's facts, over the base: the heap at the law's entry without what is tracked there -/
structure Mod (K : PySem.W.Frag) (mg : Str → Option Value) (base : Heap) : Prop where
  kin : K.In base
  glob : base.Ns mainGlobals mg
  blt : ∃ mb, base.Ns builtinsNs mb ∧ ∀ x : Str, x ≠ "__name__" → mb x = bootBuiltins x
  nolimit : base.NoLimit

/-- the context: a def's body (or a comprehension's block) running. base: fixed through the whole law; s₀, H₀: the entry; outer: the frames whose slots others may change (a def's callers); stack: all frames that run;
   ex: iterators that were made ahead of the entry and are walked here (a comprehension's); fn: the names whose cells were made at the entry (a def: all; a comprehension's block: its own); calm: not within an except suite; pn: pins that every state bears; xe: what is wanted of an exception that leaves the code -/
structure Cx where
  prog : Program
  w : World
  K : PySem.W.Frag
  mg : Str → Option Value
  base : Heap
  A : Around
  N : List Str
  s₀ : Shared
  H₀ : Hp
  env : Env
  outer : List Env
  stack : List Env
  ex : List Addr
  fn : Str → Bool
  calm : Bool
  pn : List (Addr × Obj)
  xe : Value → Shared → Prop
/-- the callers' frames -/
def frs (l : List Env) : List Addr := l.filterMap (·.frame)
abbrev Cx.fs (X : Cx) : List Addr := frs X.outer

def Vis (sc : Scope) (x : Str) : Prop := sc.names.lookup x = some .local ∨ sc.names.lookup x = some .cell ∨ sc.names.lookup x = some .free
def Loc (sc : Scope) (x : Str) : Prop := sc.names.lookup x = some .local ∨ sc.names.lookup x = some .cell
def Look (env : Env) (h : Heap) (m : Str → Option Value) (x : Str) (u : Value) : Prop :=
  (env.kindOf x = some .local ∧ m x = some u) ∨ ((env.kindOf x = some .cell ∨ env.kindOf x = some .free) ∧ ∃ c, env.cells.lookup x = some c ∧ h.IsCell c (some u))

structure Cx.Ok (X : Cx) : Prop where
  mod : Mod X.K X.mg X.base
  kind : X.env.scope.kind = .function
  glob : X.env.globals = mainGlobals
  blt : X.env.builtins = builtinsNs
  above : X.s₀.heap.objs.size ≤ X.env.locals
  inj : ∀ x y c, X.env.cells.lookup x = some c → X.env.cells.lookup y = some c → x = y
  has : ∀ x, (X.env.kindOf x = some .cell ∨ X.env.kindOf x = some .free) → ∃ c, X.env.cells.lookup x = some c
  cab : ∀ x c, X.fn x = true → X.env.cells.lookup x = some c → X.s₀.heap.objs.size ≤ c
  hd : X.calm = true → X.A.handled = none
  frames : X.A.frames = some X.stack
  stk : X.stack = X.outer ∨ (X.stack = X.env :: X.outer ∧ X.env.frame = some X.env.locals)
  exf : ∀ b ∈ X.ex, b ≠ X.env.locals ∧ ∀ x c, X.env.cells.lookup x = some c → c ≠ b
  bs : ∀ b o, X.base.get? b = some o → X.s₀.heap.get? b = some o ∧ X.H₀ b = none
  bsz : X.base.objs.size ≤ X.s₀.heap.objs.size
  noex : ∀ b o, X.base.get? b = some o → b ∉ X.ex
  exfs : ∀ b ∈ X.ex, b ∉ X.fs
  funs : X.s₀.heap.FunFrames X.base X.outer
  frf : ∀ b ∈ X.fs, X.H₀ b = none

structure Inv (X : Cx) (pins : List (Addr × Obj)) (σ : List (Option V)) (H : Hp) (s : Shared) : Prop where
  ok : X.Ok
  os : s.os = X.s₀.os
  bare : AllBare s.gens
  base : Un X.fs X.ex X.H₀ H X.s₀.heap s.heap
  loc : ∃ m, s.heap.Ns X.env.locals m ∧ ∀ (i : Nat) (x : Str) (v : V), X.N[i]? = some x → σ[i]? = some (some v) → Vis X.env.scope x → ∃ u, RelV v u ∧ Look X.env s.heap m x u
  cell : ∀ x c, X.env.cells.lookup x = some c → ∃ v, s.heap.IsCell c v
  free : H X.env.locals = none
  freeC : ∀ x c, X.env.cells.lookup x = some c → H c = none
  pin : ∀ p ∈ X.pn ++ pins, s.heap.get? p.1 = some p.2 ∧ H p.1 = none ∧ p.1 ≠ X.env.locals ∧ p.1 ∉ X.fs ∧ ∀ v, p.2.data ≠ .cell v
  hok : HOk X.prog X.w H s.heap
  len : σ.length = X.N.length

section
variable {X : Cx} {pins : List (Addr × Obj)} {σ : List (Option V)} {H H' : Hp} {s : Shared} {h' : Heap}

theorem Cx.Ok.nofr (ok : X.Ok) {b : Addr} {o : Obj} (e : X.base.get? b = some o) : b ∉ X.fs := fun hb => by
  have := (ok.funs.mem hb).1
  rw [e] at this; cases this
theorem Inv.bs (I : Inv X pins σ H s) : ∀ b o, X.base.get? b = some o → s.heap.get? b = some o ∧ H b = none := fun b o e =>
  ⟨I.base.keep b o (I.ok.bs b o e).1 (I.ok.bs b o e).2 (I.ok.nofr e) (I.ok.noex b o e), I.base.free b o (I.ok.bs b o e).1 (I.ok.bs b o e).2 (I.ok.noex b o e)⟩
theorem Inv.bk (I : Inv X pins σ H s) : ∀ b o, X.base.get? b = some o → s.heap.get? b = some o := fun b o e => (I.bs b o e).1
theorem Inv.mod (I : Inv X pins σ H s) : Mod X.K X.mg X.base := I.ok.mod
theorem Inv.kIn (I : Inv X pins σ H s) : X.K.In s.heap := I.ok.mod.kin.keeps I.bk
theorem Inv.lt (I : Inv X pins σ H s) : X.env.locals < s.heap.objs.size := let ⟨_, hn, _⟩ := I.loc; hn.lt
theorem Inv.sz (I : Inv X pins σ H s) : X.s₀.heap.objs.size ≤ s.heap.objs.size := Nat.le_trans I.ok.above (Nat.le_of_lt I.lt)
theorem Inv.nofs (I : Inv X pins σ H s) {a : Addr} (h : s.heap.objs.size ≤ a) : a ∉ X.fs := fun hb => by
  obtain ⟨_, o, ho, _⟩ := I.ok.funs.mem hb
  exact absurd (Nat.lt_of_lt_of_le (Heap.lt_size ho) (Nat.le_trans I.sz h)) (Nat.lt_irrefl _)
theorem Inv.cne (I : Inv X pins σ H s) : ∀ x c, X.env.cells.lookup x = some c → c ≠ X.env.locals := fun x c e z => by
  obtain ⟨v, o, ho, hd⟩ := I.cell x c e
  obtain ⟨m, ⟨o', es, ep, ho', hd', _⟩, _⟩ := I.loc
  rw [z, ho'] at ho; cases ho; rw [hd'] at hd; cases hd
theorem Inv.funs (I : Inv X pins σ H s) : s.heap.FunFrames X.base X.outer := by
  have all : ∀ (l : List Env), (∀ b ∈ frs l, b ∈ X.fs) → X.s₀.heap.FunFrames X.base l → s.heap.FunFrames X.base l := by
    intro l
    induction l with
    | nil => intro _ _; trivial
    | cons env r ih =>
      intro hs hl
      obtain ⟨hk, ⟨L, o, hf, hn, ho, hd⟩, hr⟩ := hl
      have hL : L ∈ X.fs := hs L (by unfold frs; rw [List.filterMap_cons, hf]; exact List.mem_cons_self)
      obtain ⟨sl, e⟩ := I.base.slot L o ho (I.ok.frf L hL) hL fun z => I.ok.exfs L z hL
      exact ⟨hk, ⟨L, _, hf, hn, e, hd⟩, ih (fun b hb => hs b (by unfold frs; rw [List.filterMap_cons, hf]; exact List.mem_cons_of_mem _ hb)) hr⟩
  exact all X.outer (fun _ hb => hb) I.ok.funs

/-- the frames that run, for a call -/
theorem Inv.stack (I : Inv X pins σ H s) : s.heap.FunFrames X.base X.stack := by
  rcases I.ok.stk with e | ⟨e, hf⟩
  · rw [e]; exact I.funs
  · rw [e]
    obtain ⟨m, hn, _⟩ := I.loc
    refine .cons (by rw [I.ok.kind]; decide) hf hn ?_ I.funs
    exact Heap.get?_none_of_le (Nat.le_trans I.ok.bsz I.ok.above)
theorem Inv.stkSub (I : Inv X pins σ H s) : ∀ b ∈ frs X.stack, b ∈ X.env.locals :: X.fs := fun b hb => by
  rcases I.ok.stk with e | ⟨e, hf⟩
  · rw [e] at hb; exact List.mem_cons_of_mem _ hb
  · rw [e] at hb
    unfold frs at hb
    rw [List.filterMap_cons, hf] at hb
    exact hb
theorem Inv.stkFree (I : Inv X pins σ H s) : ∀ b ∈ frs X.stack, H b = none := fun b hb => by
  rcases List.mem_cons.mp (I.stkSub b hb) with e | hb
  · rw [e]; exact I.free
  · obtain ⟨_, o, ho, _⟩ := I.ok.funs.mem hb
    exact I.base.free b o ho (I.ok.frf b hb) fun z => I.ok.exfs b z hb

/-- THE STEP: the untracked objects but the frame and the records at ch are kept (the callers' frames up to slots), the frame's map is kept, the new abstract heap is held -/
theorem Inv.step {g' : Array GenState} {t' : Nat} {d' : Drawn} {ch : List Addr} (I : Inv X pins σ H s)
    (hch : ∀ b ∈ ch, (b ∈ X.ex ∨ X.s₀.heap.objs.size ≤ b) ∧ b ≠ X.env.locals ∧ (∀ x c, X.env.cells.lookup x = some c → c ≠ b) ∧ ∀ p ∈ X.pn ++ pins, p.1 ≠ b)
    (keep : ∀ b o, b ≠ X.env.locals → b ∉ X.fs → b ∉ ch → s.heap.get? b = some o → H b = none → h'.get? b = some o)
    (slot : ∀ b o, b ≠ X.env.locals → b ∈ X.fs → b ∉ ch → s.heap.get? b = some o → H b = none → ∃ sl, h'.get? b = some { o with slots := sl }) (free : ∀ b o, b ∉ ch → s.heap.get? b = some o → H b = none → H' b = none)
    (there : ∀ b o, b ∉ ch → s.heap.get? b = some o → ∃ o', h'.get? b = some o')
    (tups : ∀ b xs, H b = some (.tup xs) → H' b = some (.tup xs)) (frzs : ∀ b o u, H b = some (.frz o u) → H' b = some (.frz o u)) (tbls : ∀ b ps, H b = some (.tbl ps) → ∃ more, H' b = some (.tbl (ps ++ more)))
    (ns : ∀ m, s.heap.Ns X.env.locals m → h'.Ns X.env.locals m) (hok : HOk X.prog X.w H' h') (hg : AllBare g') :
    Inv X pins σ H' { s with heap := h', gens := g', drawn := d', toks := t' } := by
  have neL : ∀ b o, X.s₀.heap.get? b = some o → b ≠ X.env.locals := fun b o e => Nat.ne_of_lt (Nat.lt_of_lt_of_le (Heap.lt_size e) I.ok.above)
  have neC : ∀ b o, X.s₀.heap.get? b = some o → b ∉ X.ex → b ∉ ch := fun b o e hx hb => by
    rcases (hch b hb).1 with z | z
    · exact hx z
    · exact absurd (Nat.lt_of_lt_of_le (Heap.lt_size e) z) (Nat.lt_irrefl _)
  have cellK : ∀ x c, X.env.cells.lookup x = some c → ∀ v, s.heap.IsCell c v → h'.IsCell c v := fun x c e v ⟨o, ho, hd⟩ => by
    have nch : c ∉ ch := fun z => (hch c z).2.2.1 x c e rfl
    by_cases hc : c ∈ X.fs
    · obtain ⟨sl, q⟩ := slot c o (I.cne x c e) hc nch ho (I.freeC x c e)
      exact ⟨_, q, hd⟩
    · exact ⟨o, keep c o (I.cne x c e) hc nch ho (I.freeC x c e), hd⟩
  refine ⟨I.ok, I.os, hg, ⟨fun b o e n hb hx => ?_, fun b o e n hb hx => ?_, fun b o e n hx => ?_, fun b o e hx => ?_, fun b xs e => tups b xs (I.base.tups b xs e), fun b o xs e => frzs b o xs (I.base.frzs b o xs e), fun b ps e => ?_⟩, ?_, fun x c e => ?_, ?_, fun x c e => ?_, fun p hp => ?_, hok, I.len⟩
  · exact keep b o (neL b o e) hb (neC b o e hx) (I.base.keep b o e n hb hx) (I.base.free b o e n hx)
  · obtain ⟨sl, e1⟩ := I.base.slot b o e n hb hx
    obtain ⟨sl', e2⟩ := slot b _ (neL b o e) hb (neC b o e hx) e1 (I.base.free b o e n hx)
    exact ⟨sl', e2⟩
  · obtain ⟨o', e1⟩ := I.base.there b o e hx
    exact free b o' (neC b o e hx) e1 (I.base.free b o e n hx)
  · obtain ⟨o', e1⟩ := I.base.there b o e hx
    exact there b o' (neC b o e hx) e1
  · obtain ⟨m1, e1⟩ := I.base.tbls b ps e
    obtain ⟨m2, e2⟩ := tbls b _ e1
    exact ⟨m1 ++ m2, by rw [e2, Array.append_assoc]⟩
  · obtain ⟨m, hn, hl⟩ := I.loc
    refine ⟨m, ns m hn, fun i x v e1 e2 e3 => ?_⟩
    obtain ⟨u, r, l⟩ := hl i x v e1 e2 e3
    refine ⟨u, r, ?_⟩
    rcases l with l | ⟨k, c, e, z⟩
    · exact .inl l
    · exact .inr ⟨k, c, e, cellK x c e _ z⟩
  · obtain ⟨v, z⟩ := I.cell x c e
    exact ⟨v, cellK x c e v z⟩
  · obtain ⟨m, ⟨o, _, _, ho, _⟩, _⟩ := I.loc
    exact free _ o (fun z => (hch _ z).2.1 rfl) ho I.free
  · obtain ⟨v, o, ho, hd⟩ := I.cell x c e
    exact free c o (fun z => (hch c z).2.2.1 x c e rfl) ho (I.freeC x c e)
  · obtain ⟨e, n, ne, nf, d⟩ := I.pin p hp
    have nch : p.1 ∉ ch := fun z => (hch p.1 z).2.2.2 p hp rfl
    exact ⟨keep p.1 p.2 ne nf nch e n, free p.1 p.2 nch e n, ne, nf, d⟩
/-- .. where the frame's own object is kept too -/
theorem Inv.un {t' : Nat} (I : Inv X pins σ H s) (u : Un X.fs [] H H' s.heap h') (hok : HOk X.prog X.w H' h') : Inv X pins σ H' { s with heap := h', toks := t' } := by
  obtain ⟨m, ⟨o, es, ep, ho, r⟩, _⟩ := id I.loc
  obtain ⟨sl, hL⟩ := u.any ho I.free (by simp)
  exact I.step (g' := s.gens) (d' := s.drawn) (ch := []) (fun _ z => nomatch z) (fun b o _ hb _ e n => u.keep b o e n hb (by simp)) (fun b o _ hb _ e n => u.slot b o e n hb (by simp)) (fun b o _ e n => u.free b o e n (by simp)) (fun b o _ e => u.there b o e (by simp)) u.tups u.frzs u.tbls (fun m' hm => by
    obtain ⟨o', es', ep', ho', r'⟩ := hm
    rw [ho] at ho'; cases ho'
    exact ⟨_, es', ep', hL, r'⟩) hok I.bare
/-- behind a call (or a comprehension's block): the slots of this frame may have changed too, the records at ch may have turned -/
theorem Inv.call {g' : Array GenState} {t' : Nat} {d' : Drawn} {ch : List Addr} (I : Inv X pins σ H s) (u : Un (frs X.stack) ch H H' s.heap h') (hok : HOk X.prog X.w H' h') (hg : AllBare g')
    (hch : ∀ b ∈ ch, (b ∈ X.ex ∨ X.s₀.heap.objs.size ≤ b) ∧ b ≠ X.env.locals ∧ (∀ x c, X.env.cells.lookup x = some c → c ≠ b) ∧ ∀ p ∈ X.pn ++ pins, p.1 ≠ b) :
    Inv X pins σ H' { s with heap := h', gens := g', drawn := d', toks := t' } := by
  obtain ⟨m, ⟨o, es, ep, ho, r⟩, _⟩ := id I.loc
  obtain ⟨sl, hL⟩ := u.any ho I.free fun z => (hch _ z).2.1 rfl
  exact I.step (ch := ch) hch (fun b o hL hb hc e n => u.keep b o e n (fun z => (List.mem_cons.mp (I.stkSub b z)).elim hL hb) hc) (fun b o _ _ hc e n => u.any e n hc) (fun b o hc e n => u.free b o e n hc) (fun b o hc e => u.there b o e hc) u.tups u.frzs u.tbls (fun m' hm => by
    obtain ⟨o', es', ep', ho', r'⟩ := hm
    rw [ho] at ho'; cases ho'
    exact ⟨_, es', ep', hL, r'⟩) hok hg
/-- an untracked record of ours (an iterator) has turned -/
theorem Inv.turned {t' : Nat} {it : Addr} (I : Inv X pins σ H s) (k : ∀ b o, b ≠ it → s.heap.get? b = some o → h'.get? b = some o) (hn : H it = none) (hL : it ≠ X.env.locals)
    (h1 : it ∈ X.ex ∨ X.s₀.heap.objs.size ≤ it) (h2 : ∀ x c, X.env.cells.lookup x = some c → c ≠ it) (h3 : ∀ p ∈ X.pn ++ pins, p.1 ≠ it) : Inv X pins σ H { s with heap := h', toks := t' } := by
  have nit : ∀ b u, H b = some u → b ≠ it := fun b u e z => by rw [z, hn] at e; cases e
  refine I.step (g' := s.gens) (d' := s.drawn) (ch := [it]) (fun b hb => ?_) (fun b o _ _ hc e _ => k b o (fun z => hc (by simp [z])) e) (fun b o _ _ hc e _ => ⟨o.slots, k b o (fun z => hc (by simp [z])) e⟩) (fun _ _ _ _ n => n)
    (fun b o hc e => ⟨o, k b o (fun z => hc (by simp [z])) e⟩) (fun _ _ e => e) (fun _ _ _ e => e) (fun b ps e => ⟨#[], by rw [e]; simp⟩) (fun m hm => ?_) (fun b u e => ?_) I.bare
  · have e : b = it := by simpa using hb
    subst e
    exact ⟨h1, hL, h2, h3⟩
  · obtain ⟨o, es, ep, ho, r⟩ := hm
    exact ⟨o, es, ep, k _ o (Ne.symm hL) ho, r⟩
  · refine (I.hok b u e).stay (fun c v hc q => k c v ?_ q) (fun _ q => q) fun _ _ q => q
    rcases hc with z | z
    · rw [z]; exact nit b u e
    · exact nit c _ z
theorem Inv.tok (I : Inv X pins σ H s) (t : Nat) : Inv X pins σ H { s with toks := t } := I.un (h' := s.heap) (t' := t) Un.refl I.hok
/-- all objects kept -/
theorem Inv.kept {t' : Nat} (I : Inv X pins σ H s) (k : ∀ b u, s.heap.get? b = some u → h'.get? b = some u) : Inv X pins σ H { s with heap := h', toks := t' } := I.un (Un.kept k) (I.hok.kept k)
/-- a new object laid and tracked -/
theorem Inv.laid {a : Addr} {o : HO} {t' : Nat} (I : Inv X pins σ H s) (k : ∀ b u, s.heap.get? b = some u → h'.get? b = some u) (hp : s.heap.objs.size ≤ a) (new : ObjOk X.prog X.w (upd H a o) h' a o) :
    Inv X pins σ (upd H a o) { s with heap := h', toks := t' } := I.un (Un.laid k hp (I.hok.fresh hp)) (I.hok.laid k hp new)
/-- an object written -/
theorem Inv.write {x e : Addr} {o : HO} {t' : Nat} (I : Inv X pins σ H s) (mu : Mut (H x)) (he : e = x ∨ H e = some (.own x)) (k : ∀ b u, b ≠ e → s.heap.get? b = some u → h'.get? b = some u) (heo : ∃ u, h'.get? e = some u)
    (new : ObjOk X.prog X.w (upd H x o) h' x o) : Inv X pins σ (upd H x o) { s with heap := h', toks := t' } := I.un (Un.write mu he k heo) (I.hok.write mu he k heo new)
/-- forgetting slots, pins -/
theorem Inv.weak {σ' : List (Option V)} (I : Inv X pins σ H s) (hl : σ'.length = σ.length) (w : ∀ (i : Nat) v, σ'[i]? = some (some v) → σ[i]? = some (some v)) : Inv X pins σ' H s :=
  ⟨I.ok, I.os, I.bare, I.base, let ⟨m, hn, hl'⟩ := I.loc; ⟨m, hn, fun i x v e1 e2 e3 => hl' i x v e1 (w i v e2) e3⟩, I.cell, I.free, I.freeC, I.pin, I.hok, hl.trans I.len⟩
theorem Inv.pins_of {pins' : List (Addr × Obj)} (I : Inv X pins σ H s) (h : ∀ p ∈ pins', s.heap.get? p.1 = some p.2 ∧ H p.1 = none ∧ p.1 ≠ X.env.locals ∧ p.1 ∉ X.fs ∧ ∀ v, p.2.data ≠ .cell v) : Inv X pins' σ H s :=
  ⟨I.ok, I.os, I.bare, I.base, I.loc, I.cell, I.free, I.freeC, fun p hp => (List.mem_append.mp hp).elim (fun z => I.pin p (List.mem_append_left _ z)) (h p), I.hok, I.len⟩

theorem nodup_ix {N : List Str} (hN : N.Nodup) {i j : Nat} {x : Str} (a : N[i]? = some x) (b : N[j]? = some x) : i = j := by
  obtain ⟨h1, e1⟩ := List.getElem?_eq_some_iff.mp a
  obtain ⟨h2, e2⟩ := List.getElem?_eq_some_iff.mp b
  exact (List.getElem_inj hN).mp (e1.trans e2.symm)

/-- a name is stored; what changed -/
theorem store_ok2 {M : Model} {A : Around} {E : Value → Shared → Prop} {i : Nat} {x : Str} {v : V} {u : Value} {Q : Unit → Shared → Prop} (I : Inv X pins σ H s) (hN : X.N.Nodup) (hi : X.N[i]? = some x) (hx : Loc X.env.scope x) (r : RelV v u)
    (h : ∀ s', Inv X pins (σ.set i (some v)) H s' → (∃ a, Heap.SameBut a s.heap s'.heap ∧ (a = X.env.locals ∨ X.env.cells.lookup x = some a)) → Q () s') (hf : X.fn x = true ∨ X.env.scope.names.lookup x = some .local := by first | exact .inl rfl | exact .inr rfl | assumption) : wpAny M A (storeName X.env x u) Q E s := by
  obtain ⟨m, hn, hl⟩ := id I.loc
  have hcls : (X.env.scope.kind == .class || (X.env.scope.kind == .module && X.env.locals != X.env.globals)) = false := by rw [I.ok.kind]; rfl
  have hiσ : i < σ.length := by rw [I.len]; exact (List.getElem?_eq_some_iff.mp hi).1
  have cne := I.cne
  have tracked : ∀ {a : Addr} {h' : Heap}, (∃ o, s.heap.get? a = some o ∧ H a = none) → Heap.SameBut a s.heap h' → HOk X.prog X.w H h' := fun {a h'} ha hs b ob e => by
    obtain ⟨_, _, hfree⟩ := ha
    refine (I.hok b ob e).stay (fun c w' hc q => (hs.2 c ?_).trans q) (fun _ q => q) fun _ _ q => q
    rintro rfl
    rcases hc with rfl | hc
    · rw [hfree] at e; cases e
    · rw [hfree] at hc; cases hc
  rcases hx with hk | hk
  · refine wpAny_storeName_local hk hn (fun h' hn' hs => ?_) hcls
    obtain ⟨oL, _, _, hoL, _⟩ := id hn
    refine h _ ⟨I.ok, I.os, I.bare, ⟨fun b o e n hb hx => ?_, fun b o e n hb hx => ?_, I.base.free, fun b o e hx => ?_, I.base.tups, I.base.frzs, I.base.tbls⟩, ⟨_, hn', fun j y v' e1 e2 e3 => ?_⟩, fun y c e => ?_, I.free, I.freeC, fun p hp => ?_, tracked ⟨oL, hoL, I.free⟩ hs, by simpa using I.len⟩ ⟨_, hs, .inl rfl⟩
    · exact (hs.2 b (Nat.ne_of_lt (Nat.lt_of_lt_of_le (Heap.lt_size e) I.ok.above))).trans (I.base.keep b o e n hb hx)
    · obtain ⟨sl, e1⟩ := I.base.slot b o e n hb hx
      exact ⟨sl, (hs.2 b (Nat.ne_of_lt (Nat.lt_of_lt_of_le (Heap.lt_size e) I.ok.above))).trans e1⟩
    · obtain ⟨o', e1⟩ := I.base.there b o e hx
      exact ⟨o', (hs.2 b (Nat.ne_of_lt (Nat.lt_of_lt_of_le (Heap.lt_size e) I.ok.above))).trans e1⟩
    · by_cases hj : j = i
      · subst hj
        rw [hi] at e1; cases e1
        rw [List.getElem?_set_self hiσ] at e2
        cases e2
        exact ⟨u, r, .inl ⟨hk, by simp⟩⟩
      · rw [List.getElem?_set_ne (Ne.symm hj)] at e2
        obtain ⟨u', r', q⟩ := hl j y v' e1 e2 e3
        refine ⟨u', r', ?_⟩
        rcases q with ⟨k, e⟩ | ⟨k, c, e, z⟩
        · refine .inl ⟨k, ?_⟩
          have : y ≠ x := fun e => hj (nodup_ix hN e1 (e ▸ hi))
          simp [this, e]
        · exact .inr ⟨k, c, e, z.sameBut hs (cne y c e)⟩
    · obtain ⟨w', z⟩ := I.cell y c e
      exact ⟨w', z.sameBut hs (cne y c e)⟩
    · obtain ⟨e, n, ne, nf, d⟩ := I.pin p hp
      exact ⟨(hs.2 p.1 ne).trans e, n, ne, nf, d⟩
  · have hfn : X.fn x = true := by
      rcases hf with z | z
      · exact z
      · rw [z] at hk; cases hk
    obtain ⟨c, hc⟩ := I.ok.has x (.inl hk)
    obtain ⟨w', z⟩ := I.cell x c hc
    refine wpAny_storeName_cell I.ok.kind hk hc z (fun h' hc' hs => ?_)
    obtain ⟨oc, hoc, hocd⟩ := id z
    refine h { s with heap := h' } ⟨I.ok, I.os, I.bare, ⟨fun b o e n hb hx => ?_, fun b o e n hb hx => ?_, I.base.free, fun b o e hx => ?_, I.base.tups, I.base.frzs, I.base.tbls⟩, ⟨m, hn.sameBut hs (Ne.symm (cne x c hc)), fun j y v' e1 e2 e3 => ?_⟩, fun y c' e => ?_, I.free, I.freeC, fun p hp => ?_, tracked ⟨oc, hoc, I.freeC x c hc⟩ hs, by simpa using I.len⟩ ⟨c, hs, .inr hc⟩
    · exact (hs.2 b (Nat.ne_of_lt (Nat.lt_of_lt_of_le (Heap.lt_size e) (I.ok.cab x c hfn hc)))).trans (I.base.keep b o e n hb hx)
    · obtain ⟨sl, e1⟩ := I.base.slot b o e n hb hx
      exact ⟨sl, (hs.2 b (Nat.ne_of_lt (Nat.lt_of_lt_of_le (Heap.lt_size e) (I.ok.cab x c hfn hc)))).trans e1⟩
    · obtain ⟨o', e1⟩ := I.base.there b o e hx
      exact ⟨o', (hs.2 b (Nat.ne_of_lt (Nat.lt_of_lt_of_le (Heap.lt_size e) (I.ok.cab x c hfn hc)))).trans e1⟩
    · by_cases hj : j = i
      · subst hj
        rw [hi] at e1; cases e1
        rw [List.getElem?_set_self hiσ] at e2
        cases e2
        exact ⟨u, r, .inr ⟨.inl hk, c, hc, hc'⟩⟩
      · rw [List.getElem?_set_ne (Ne.symm hj)] at e2
        obtain ⟨u', r', q⟩ := hl j y v' e1 e2 e3
        refine ⟨u', r', ?_⟩
        rcases q with q | ⟨k, c', e, z'⟩
        · exact .inl q
        · refine .inr ⟨k, c', e, z'.sameBut hs ?_⟩
          rintro rfl
          exact hj (nodup_ix hN e1 (I.ok.inj _ _ _ e hc ▸ hi))
    · by_cases hcc : c' = c
      · subst hcc; exact ⟨_, hc'⟩
      · obtain ⟨w2, z2⟩ := I.cell y c' e
        exact ⟨w2, z2.sameBut hs hcc⟩
    · obtain ⟨e, n, ne, nf, d⟩ := I.pin p hp
      refine ⟨(hs.2 p.1 ?_).trans e, n, ne, nf, d⟩
      intro q
      rw [q, hoc] at e
      have q' : oc = p.2 := Option.some.inj e
      exact d w' (by rw [← q']; exact hocd)
theorem store_ok {M : Model} {A : Around} {E : Value → Shared → Prop} {i : Nat} {x : Str} {v : V} {u : Value} {Q : Unit → Shared → Prop} (I : Inv X pins σ H s) (hN : X.N.Nodup) (hi : X.N[i]? = some x) (hx : Loc X.env.scope x) (r : RelV v u)
    (h : ∀ s', Inv X pins (σ.set i (some v)) H s' → Q () s') (hf : X.fn x = true ∨ X.env.scope.names.lookup x = some .local := by first | exact .inl rfl | exact .inr rfl | assumption) : wpAny M A (storeName X.env x u) Q E s :=
  store_ok2 I hN hi hx r (fun s' I' _ => h s' I') hf
/-- behind a call or a block, the state as it is -/
theorem Inv.call' {s' : Shared} {ch : List Addr} (I : Inv X pins σ H s) (ho : s'.os = s.os) (u : Un (frs X.stack) ch H H' s.heap s'.heap) (hok : HOk X.prog X.w H' s'.heap) (hg : AllBare s'.gens)
    (hch : ∀ b ∈ ch, (b ∈ X.ex ∨ X.s₀.heap.objs.size ≤ b) ∧ b ≠ X.env.locals ∧ (∀ x c, X.env.cells.lookup x = some c → c ≠ b) ∧ ∀ p ∈ X.pn ++ pins, p.1 ≠ b) : Inv X pins σ H' s' := by
  obtain ⟨h', g', d', t', o'⟩ := s'
  have e : o' = s.os := ho
  subst e
  exact I.call (g' := g') (t' := t') (d' := d') u hok hg hch
end

/-! ### the judgements -/
/-- an exception: its class, its own dict's address (where it has one), the abstract heap behind it -/
abbrev XK := Value → Option Addr → Hp → Prop
abbrev St := List (Option V)
abbrev VK := V → Hp → Prop
/-- an expression's reading; a test's; an argument list's -/
abbrev TE := St → Hp → VK → Prop
abbrev TT := St → Hp → (Bool → Hp → Prop) → Prop
abbrev TA := St → Hp → (List V → Hp → Prop) → Prop
/-- what is wanted behind a statement -/
structure Ends where
  nx : St → Hp → Prop
  rt : VK
  bk : St → Hp → Prop := fun _ _ => False
  ct : St → Hp → Prop := fun _ _ => False
abbrev TS := Ends → St → Hp → Prop

def EP (X : Cx) (pins : List (Addr × Obj)) (σ : St) (Q : VK) (u : Value) (s' : Shared) : Prop := ∃ v H', Inv X pins σ H' s' ∧ RelV v u ∧ Q v H'
def TP (X : Cx) (pins : List (Addr × Obj)) (σ : St) (Q : Bool → Hp → Prop) (b : Bool) (s' : Shared) : Prop := ∃ H', Inv X pins σ H' s' ∧ Q b H'
def AP (X : Cx) (pins : List (Addr × Obj)) (σ : St) (Q : List V → Hp → Prop) (us : List Value) (s' : Shared) : Prop := ∃ vs H', Inv X pins σ H' s' ∧ Vals vs us ∧ Q vs H'
def SP (X : Cx) (pins : List (Addr × Obj)) (D : Ends) (f : Flow) (s' : Shared) : Prop :=
  match f with
  | .next => ∃ σ' H', Inv X pins σ' H' s' ∧ D.nx σ' H'
  | .brk => ∃ σ' H', Inv X pins σ' H' s' ∧ D.bk σ' H'
  | .cont => ∃ σ' H', Inv X pins σ' H' s' ∧ D.ct σ' H'
  | .ret u => ∃ v σ' H', Inv X pins σ' H' s' ∧ RelV v u ∧ D.rt v H'

def PE (X : Cx) (e : Expr) (t : TE) : Prop :=
  ∀ (pins : List (Addr × Obj)) (s : Shared) (σ : St) (H : Hp) (Q : VK), Inv X pins σ H s → t σ H Q → wpAny (model X.prog X.w) X.A (eval e X.env) (EP X pins σ Q) X.xe s
def PT (X : Cx) (e : Expr) (t : TT) : Prop :=
  ∀ (pins : List (Addr × Obj)) (s : Shared) (σ : St) (H : Hp) (Q : Bool → Hp → Prop), Inv X pins σ H s → t σ H Q → wpAny (model X.prog X.w) X.A (isTrue e X.env (eval e X.env)) (TP X pins σ Q) X.xe s
/-- a test whatever its 'whole' is (and, or) -/
def PW (X : Cx) (e : Expr) (t : TT) : Prop :=
  ∀ (whole : Sem Value) (pins : List (Addr × Obj)) (s : Shared) (σ : St) (H : Hp) (Q : Bool → Hp → Prop), Inv X pins σ H s → t σ H Q → wpAny (model X.prog X.w) X.A (isTrue e X.env whole) (TP X pins σ Q) X.xe s
theorem PW.pt {X : Cx} {e : Expr} {t : TT} (h : PW X e t) : PT X e t := h _
/-- an argument list (no star), from the left -/
def PA (X : Cx) (es : List Expr) (t : TA) : Prop :=
  ∀ (pos : Pos) (pins : List (Addr × Obj)) (s : Shared) (σ : St) (H : Hp) (Q : List V → Hp → Prop), Inv X pins σ H s → t σ H Q → wpAny (model X.prog X.w) X.A (spliced (backTo pos (starEach es X.env))) (AP X pins σ Q) X.xe s
def PS (X : Cx) (st : Stmt) (t : TS) : Prop :=
  ∀ (pins : List (Addr × Obj)) (s : Shared) (σ : St) (H : Hp) (D : Ends), Inv X pins σ H s → t D σ H → wpAny (model X.prog X.w) X.A (exec st X.env) (SP X pins D) X.xe s
def PSs (X : Cx) (st : List Stmt) (t : TS) : Prop :=
  ∀ (pins : List (Addr × Obj)) (s : Shared) (σ : St) (H : Hp) (D : Ends), Inv X pins σ H s → t D σ H → wpAny (model X.prog X.w) X.A (execs st X.env) (SP X pins D) X.xe s
/-- weaken the end -/
theorem thn {α : Type} {t : Sem α} {Q Q' : α → Shared → Prop} {M : Model} {A : Around} {E : Value → Shared → Prop} {s : Shared} (h : wpAny M A t Q E s) (hQ : ∀ a s, Q a s → Q' a s) : wpAny M A t Q' E s := wpAny_mono h hQ fun _ _ x => x
end L2

namespace L2
open PySem PySem.Spec PyProof.Rows
section
variable {X : Cx}

/-! ### names and constants -/
def tVar (i : Nat) : TE := fun σ H Q => ∃ v, σ[i]? = some (some v) ∧ Q v H
def tC (v : V) : TE := fun _ H Q => Q v H
theorem pe_var {i : Nat} {x : Str} {pos : Pos} (hN : X.N[i]? = some x) (hv : Vis X.env.scope x) (hd : (x == ("__debug__" : Str)) = false := by decide) (hcd : (x == ("__classdict__" : Str)) = false := by decide) : PE X (.Name x pos) (tVar i) := by
  intro pins s σ H Q I h
  obtain ⟨v, e, h⟩ := h
  obtain ⟨m, hn, hl⟩ := I.loc
  obtain ⟨u, r, l⟩ := hl i x v hN e hv
  have fin : EP X pins σ Q u s := ⟨v, H, I, r, h⟩
  rcases l with ⟨hk, hm⟩ | ⟨hk, c, hc, hcell⟩
  · exact wpAny_Name (wpAny_loadName_local I.ok.kind hk hn hm fin) hd
  · rcases hk with hk | hk
    · exact wpAny_Name (wpAny_loadName_cell I.ok.kind hk hc hcell fin) hd
    · exact wpAny_Name (wpAny_loadName_free I.ok.kind hk hc hcell fin hcd) hd
theorem pe_int {i j pos} : PE X (.Constant (.int i) j pos) (tC (.int i)) := fun _ _ _ H _ I h => wpAny_Constant_int ⟨.int i, H, I.tok _, ⟨_, rfl⟩, h⟩
theorem pe_bl {b j pos} : PE X (.Constant (.bool b) j pos) (tC (.bl b)) := fun _ _ _ H _ I h => Constant_bool ⟨.bl b, H, I, rfl, h⟩
theorem pe_non {j pos} : PE X (.Constant .none j pos) (tC .non) := fun _ _ _ H _ I h => Constant_none ⟨.non, H, I, rfl, h⟩
theorem pe_str {x j pos} : PE X (.Constant (.str x) j pos) (tC (.str x)) := fun _ _ _ H _ I h => Calls.Constant_str ⟨.str x, H, I.tok _, ⟨_, rfl⟩, h⟩

/-- a global name of the def -/
def Gl (X : Cx) (x : Str) : Prop := X.env.kindOf x = some .globalImplicit
theorem ld_glob {E : Value → Shared → Prop} {pins : List (Addr × Obj)} {s : Shared} {σ : St} {H : Hp} {x : Str} {u : Value} {pos : Pos} {Q : Value → Shared → Prop} (I : Inv X pins σ H s) (hg : Gl X x) (hm : X.mg x = some u) (h : Q u s)
    (hd : (x == ("__debug__" : Str)) = false := by decide) : wpAny (model X.prog X.w) X.A (eval (.Name x pos) X.env) Q E s :=
  Calls.Name_function_global I.ok.kind hg (Calls.loadGlobal_global (by rw [I.ok.glob]; exact I.mod.glob.keeps I.bk) hm h) hd
theorem ld_blt {E : Value → Shared → Prop} {pins : List (Addr × Obj)} {s : Shared} {σ : St} {H : Hp} {x : Str} {u : Value} {pos : Pos} {Q : Value → Shared → Prop} (I : Inv X pins σ H s) (hg : Gl X x) (hm : X.mg x = none) (hv : bootBuiltins x = some u) (h : Q u s)
    (hn : x ≠ "__name__" := by decide) (hd : (x == ("__debug__" : Str)) = false := by decide) : wpAny (model X.prog X.w) X.A (eval (.Name x pos) X.env) Q E s := by
  obtain ⟨mb, h1, h2⟩ := I.mod.blt
  exact Calls.Name_function_global I.ok.kind hg (Calls.loadGlobal_builtin (by rw [I.ok.glob]; exact I.mod.glob.keeps I.bk) hm (by rw [I.ok.blt]; exact h1.keeps I.bk) ((h2 x hn).trans hv) h) hd
/-- a module's constant, a class, a function, as a value -/
theorem pe_glob {x : Str} {v : V} {u : Value} {pos : Pos} (hg : Gl X x) (hm : X.mg x = some u) (r : RelV v u) (hd : (x == ("__debug__" : Str)) = false := by decide) : PE X (.Name x pos) (tC v) :=
  fun _ _ _ H _ I h => ld_glob I hg hm ⟨v, H, I, r, h⟩ hd
theorem pe_bltn {x : Str} {v : V} {u : Value} {pos : Pos} (hg : Gl X x) (hm : X.mg x = none) (hv : bootBuiltins x = some u) (r : RelV v u) (hn : x ≠ "__name__" := by decide) (hd : (x == ("__debug__" : Str)) = false := by decide) : PE X (.Name x pos) (tC v) :=
  fun _ _ _ H _ I h => ld_blt I hg hm hv ⟨v, H, I, r, h⟩ hn hd

/-! ### arithmetic -/
variable {a b : Expr} {ta tb : TE} {pos : Pos}
/-! ### comparisons -/
def PC (X : Cx) (op : CmpOp) (a b : Expr) (t : TE) : Prop :=
  ∀ (pins : List (Addr × Obj)) (s : Shared) (σ : St) (H : Hp) (Q : VK), Inv X pins σ H s → t σ H Q →
    wpAny (model X.prog X.w) X.A (eval a X.env) (fun v s₁ => wpAny (model X.prog X.w) X.A (eval b X.env) (fun u s₂ => wpAny (model X.prog X.w) X.A (compareOp op v u) (EP X pins σ Q) X.xe s₂) X.xe s₁) X.xe s
/-- a comparison as a value, as a test -/
def tB (t : TE) : TT := fun σ H Q => t σ H fun x H1 => ∃ c, x = .bl c ∧ Q c H1
theorem pt_cmp {op : CmpOp} {t : TE} (h : PC X op a b t) (h1 : behindInMarks op b = false := by first | exact nobehind _ (by decide) (by decide) | rfl) : PT X (.Compare a [op] [b] pos) (tB t) := by
  intro pins s σ H Q I hw
  refine wpAny_isTrue_Compare1 (thn (h pins s σ H _ I hw) fun v s1 h1 => thn h1 fun u s2 h2 => thn h2 fun c s3 ⟨x, H1, I1, r1, q1⟩ => ?_) h1
  obtain ⟨d, rfl, q⟩ := q1
  cases r1
  exact wpAny_truthy_bool ⟨H1, I1, q⟩
/-- an expression whose value is a bool, as a test -/
theorem pt_val {e : Expr} {t : TE} (h : PE X e t) (he : ∀ whole, isTrue e X.env whole = (do let v ← whole; standAt e.pos; holding [v] (truthy v)) := by intro _; rfl) : PT X e (tB t) := by
  intro pins s σ H Q I hw
  refine isTrue_plain (thn (h pins s σ H _ I hw) fun v s1 ⟨x, H1, I1, r1, q1⟩ => ?_) (he _)
  obtain ⟨d, rfl, q⟩ := q1
  cases r1
  exact wpAny_truthy_bool ⟨H1, I1, q⟩

/-! ### and, or, not -/
variable {tA tB' : TT} {rest : List Expr}
def tAnd (t u : TT) : TT := fun σ H Q => t σ H fun c H1 => if c = true then u σ H1 Q else Q false H1
def tOr (t u : TT) : TT := fun σ H Q => t σ H fun c H1 => if c = true then Q true H1 else u σ H1 Q
def tNot (t : TT) : TT := fun σ H Q => t σ H fun c H1 => Q (!c) H1
theorem pw_and1 (ha : PT X a tA) : PW X (.BoolOp .And [a] pos) tA := by
  intro wh pins s σ H Q I h
  refine isTrue_and (thn (ha pins s σ H Q I h) fun c s1 e => ?_)
  cases c with
  | true => exact isTrue_and_nil e
  | false => exact e
theorem pw_or1 (ha : PT X a tA) : PW X (.BoolOp .Or [a] pos) tA := by
  intro wh pins s σ H Q I h
  refine isTrue_or (thn (ha pins s σ H Q I h) fun c s1 e => ?_)
  cases c with
  | false => exact isTrue_or_nil e
  | true => exact e
theorem pw_and (ha : PT X a tA) (hb : PW X (.BoolOp .And (b :: rest) pos) tB') : PW X (.BoolOp .And (a :: b :: rest) pos) (tAnd tA tB') := by
  intro wh pins s σ H Q I h
  refine isTrue_and (thn (ha pins s σ H _ I h) fun c s1 ⟨H1, I1, q1⟩ => ?_)
  cases c with
  | true => exact hb wh pins s1 σ H1 Q I1 q1
  | false => exact ⟨H1, I1, q1⟩
theorem pw_or (ha : PT X a tA) (hb : PW X (.BoolOp .Or (b :: rest) pos) tB') : PW X (.BoolOp .Or (a :: b :: rest) pos) (tOr tA tB') := by
  intro wh pins s σ H Q I h
  refine isTrue_or (thn (ha pins s σ H _ I h) fun c s1 ⟨H1, I1, q1⟩ => ?_)
  cases c with
  | true => exact ⟨H1, I1, q1⟩
  | false => exact hb wh pins s1 σ H1 Q I1 q1
theorem pt_not (ha : PT X a tA) : PT X (.UnaryOp .Not a pos) (tNot tA) := by
  intro pins s σ H Q I h
  exact isTrue_not (ha pins s σ H (fun c H1 => Q (!c) H1) I h)
/-- .. as values (bools) -/
def tAndV (ta tb : TE) : TE := fun σ H Q => ta σ H fun x H1 => ∃ c, x = .bl c ∧ if c = true then tb σ H1 Q else Q (.bl false) H1
theorem pe_one {op} {t : TE} (h : PE X a t) : PE X (.BoolOp op [a] pos) t := fun pins s σ H Q I hw => BoolOp_one (h pins s σ H Q I hw)
theorem pe_and (ha : PE X a ta) (hb : PE X (.BoolOp .And (b :: rest) pos) tb) : PE X (.BoolOp .And (a :: b :: rest) pos) (tAndV ta tb) := by
  intro pins s σ H Q I h
  refine BoolOp_and (thn (ha pins s σ H _ I h) fun v s1 ⟨x, H1, I1, r1, q1⟩ => ?_)
  obtain ⟨c, rfl, q1⟩ := q1
  cases r1
  refine wpAny_truthy_bool ?_
  cases c with
  | true => exact hb pins s1 σ H1 Q I1 q1
  | false => exact ⟨.bl false, H1, I1, rfl, q1⟩
end
end L2

namespace L2
open PySem PySem.Spec PyProof.Rows

/-! ### a list, a tuple that is read: tracked, frozen, or an object of the module -/
def SqL (K : PySem.W.Frag) (H : Hp) (a : Addr) (xs : List V) : Prop :=
  Rd H a (.lst xs) ∨
    ∃ (o : Obj) (its : Array Value) (n : Nat), K.lookup a = some o ∧ o.cls = .type "list" ∧ o.dict = none ∧ o.data = .seq its n ∧ its.size ≤ sizeLine ∧ Vals xs its.toList
def SqT (K : PySem.W.Frag) (H : Hp) (a : Addr) (xs : List V) : Prop :=
  Rd H a (.tup xs) ∨
    ∃ (o : Obj) (its : Array Value) (n : Nat), K.lookup a = some o ∧ o.cls = .type "tuple" ∧ o.data = .seq its n ∧ its.size ≤ sizeLine ∧ Vals xs its.toList
def absV : Value → Option V
  | .none => some .non
  | .bool b => some (.bl b)
  | .int i _ => some (.int i)
  | .str x _ => some (.str x)
  | .bytes b _ => some (.byt b)
  | .float b _ => some (.flt b)
  | .ref a => some (.ref a)
  | .type n => some (.ty n)
  | _ => none
theorem RelV.abs {x : V} {u : Value} (r : RelV x u) : absV u = some x := by
  cases x with
  | non => cases r; rfl
  | bl _ => cases r; rfl
  | int _ => obtain ⟨t, rfl⟩ := r; rfl
  | str _ => obtain ⟨t, rfl⟩ := r; rfl
  | byt _ => obtain ⟨t, rfl⟩ := r; rfl
  | flt _ => obtain ⟨t, rfl⟩ := r; rfl
  | ref _ => cases r; rfl
  | ty _ => cases r; rfl
theorem RelV.inj {x y : V} {u : Value} (r : RelV x u) (q : RelV y u) : x = y := Option.some.inj (r.abs.symm.trans q.abs)
theorem Vals.inj : ∀ {xs ys : List V} {us : List Value}, Vals xs us → Vals ys us → xs = ys
  | _, _, _, .nil, .nil => rfl
  | _, _, _, .cons r t, .cons r' t' => by rw [r.inj r', Vals.inj t t']
section
variable {X : Cx} {pins : List (Addr × Obj)} {σ : St} {H : Hp} {s : Shared} {a : Addr} {xs ys : List V}
theorem SqL.of {K : PySem.W.Frag} (h : H a = some (.lst xs)) : SqL K H a xs := .inl (.inl h)
theorem SqT.of {K : PySem.W.Frag} (h : H a = some (.tup xs)) : SqT K H a xs := .inl (.inl h)
theorem Inv.list (I : Inv X pins σ H s) (h : SqL X.K H a xs) : ∃ its : List Value, Vals xs its ∧ PlainL s.heap a its.toArray ∧ xs.length ≤ sizeLine := by
  rcases h with h | ⟨o, its, n, hk, hc, hd, hs, hz, r⟩
  · obtain ⟨z, its, n, r, e⟩ := h.ok I.hok
    exact ⟨its, r, ⟨_, n, e, rfl, rfl, rfl⟩, z⟩
  · refine ⟨its.toList, r, ⟨o, n, I.kIn a o hk, hc, hd, by simpa using hs⟩, ?_⟩
    have e := r.length
    simp only [Array.length_toList] at e
    omega
theorem Inv.tuple (I : Inv X pins σ H s) (h : SqT X.K H a xs) : ∃ its : List Value, Vals xs its ∧ IsTup s.heap a its.toArray ∧ xs.length ≤ sizeLine := by
  rcases h with h | ⟨o, its, n, hk, hc, hs, hz, r⟩
  · obtain ⟨z, its, r, p⟩ := h.ok I.hok
    exact ⟨its, r, p, z⟩
  · refine ⟨its.toList, r, ⟨o, I.kIn a o hk, hc, n, by simpa using hs⟩, ?_⟩
    have e := r.length
    simp only [Array.length_toList] at e
    omega
theorem Inv.list_inj (I : Inv X pins σ H s) (h : SqL X.K H a xs) (h' : SqL X.K H a ys) : xs = ys := by
  obtain ⟨its, r, ⟨o, n, e, _, _, d⟩, _⟩ := I.list h
  obtain ⟨its', r', ⟨o', n', e', _, _, d'⟩, _⟩ := I.list h'
  rw [e] at e'; cases e'
  rw [d] at d'
  injection d' with d1 _
  have : its = its' := by simpa using congrArg Array.toList d1
  subst this
  exact r.inj r'
end

/-! ### another wish about exceptions -/
abbrev Cx.wish (X : Cx) (E : Value → Shared → Prop) : Cx := { X with xe := E }
/-- no exception leaves -/
abbrev Cx.nox (X : Cx) : Cx := X.wish fun _ _ => False
theorem Cx.Ok.wish {X : Cx} (ok : X.Ok) (E : Value → Shared → Prop) : (X.wish E).Ok :=
  ⟨ok.mod, ok.kind, ok.glob, ok.blt, ok.above, ok.inj, ok.has, ok.cab, ok.hd, ok.frames, ok.stk, ok.exf, ok.bs, ok.bsz, ok.noex, ok.exfs, ok.funs, ok.frf⟩
theorem Cx.Ok.unwish {X : Cx} {E : Value → Shared → Prop} (ok : (X.wish E).Ok) : X.Ok :=
  ⟨ok.mod, ok.kind, ok.glob, ok.blt, ok.above, ok.inj, ok.has, ok.cab, ok.hd, ok.frames, ok.stk, ok.exf, ok.bs, ok.bsz, ok.noex, ok.exfs, ok.funs, ok.frf⟩
section
variable {X : Cx} {pins : List (Addr × Obj)} {σ : St} {H : Hp} {s : Shared} {E : Value → Shared → Prop}
theorem Inv.wish (I : Inv X pins σ H s) (E : Value → Shared → Prop) : Inv (X.wish E) pins σ H s := ⟨I.ok.wish E, I.os, I.bare, I.base, I.loc, I.cell, I.free, I.freeC, I.pin, I.hok, I.len⟩
theorem Inv.unwish (I : Inv (X.wish E) pins σ H s) : Inv X pins σ H s := ⟨I.ok.unwish, I.os, I.bare, I.base, I.loc, I.cell, I.free, I.freeC, I.pin, I.hok, I.len⟩
theorem SP.unwish {D : Ends} {f : Flow} {s' : Shared} (h : SP (X.wish E) pins D f s') : SP X pins D f s' := by
  cases f with
  | next => obtain ⟨σ', H', I, q⟩ := h; exact ⟨σ', H', I.unwish, q⟩
  | brk => obtain ⟨σ', H', I, q⟩ := h; exact ⟨σ', H', I.unwish, q⟩
  | cont => obtain ⟨σ', H', I, q⟩ := h; exact ⟨σ', H', I.unwish, q⟩
  | ret u => obtain ⟨v, σ', H', I, r, q⟩ := h; exact ⟨v, σ', H', I.unwish, r, q⟩
theorem PSs.nox {st : List Stmt} {t : TS} (h : PSs X.nox st t) : PSs X st t := fun pins s σ H D I hw =>
  wpAny_mono (h pins s σ H D (I.wish _) hw) (fun _ _ q => q.unwish) fun _ _ z => False.elim z
end

/-! ### blocks and small statements -/
section
variable {X : Cx} {st : Stmt} {rest : List Stmt} {t u : TS} {e : Expr} {te : TE} {pos : Pos}
def tNext : TS := fun D σ H => D.nx σ H
def tSeq (t u : TS) : TS := fun D σ H => t { D with nx := u D } σ H
theorem pss_nil : PSs X [] tNext := fun _ _ σ H _ I h => wpAny_execs_nil ⟨σ, H, I, h⟩
theorem pss_cons (h1 : PS X st t) (h2 : PSs X rest u) : PSs X (st :: rest) (tSeq t u) := by
  intro pins s σ H D I h
  refine wpAny_execs_cons (thn (h1 pins s σ H { D with nx := u D } I h) fun f s1 q => ?_)
  cases f with
  | next =>
    obtain ⟨σ', H', I', q⟩ := q
    exact h2 pins s1 σ' H' D I' q
  | ret v => exact q
  | brk => exact q
  | cont => exact q
theorem pss_one (h1 : PS X st t) : PSs X [st] t := by
  intro pins s σ H D I h
  refine wpAny_execs_cons (thn (h1 pins s σ H D I h) fun f s1 q => ?_)
  cases f with
  | next => exact wpAny_execs_nil q
  | ret v => exact q
  | brk => exact q
  | cont => exact q
/-- in a def's body nothing is shown -/
theorem Inv.quiet {pins : List (Addr × Obj)} {σ : St} {H : Hp} {s : Shared} (I : Inv X pins σ H s) : interactive X.env = false := by simp [interactive, I.ok.kind]
/-- an expression whose value is dropped -/
def tDrop (te : TE) : TS := fun D σ H => te σ H fun _ H1 => D.nx σ H1
theorem ps_expr (he : PE X e te) (hs : swapsWith e none pos.line X.env = pure false := by rfl) : PS X (.Expr e pos) (tDrop te) := by
  intro pins s σ H D I h
  exact wpAny_Expr_any (thn (he pins s σ H _ I h) fun v s1 ⟨x, H1, I1, r1, q1⟩ => ⟨σ, H1, I1, q1⟩) I.quiet hs
def tRet (te : TE) : TS := fun D σ H => te σ H D.rt
theorem ps_ret (he : PE X e te) : PS X (.Return (some e) pos) (tRet te) := by
  intro pins s σ H D I h
  exact wpAny_Return_some (thn (he pins s σ H _ I h) fun v s1 ⟨x, H1, I1, r1, q1⟩ => ⟨x, σ, H1, I1, r1, q1⟩)
def tIfS (c : TT) (t u : TS) : TS := fun D σ H => c σ H fun b H1 => if b = true then t D σ H1 else u D σ H1
theorem ps_if {c : Expr} {a b : List Stmt} {tc : TT} (hc : PT X c tc) (ha : PSs X a t) (hb : PSs X b u) : PS X (.If c a b pos) (tIfS tc t u) := by
  intro pins s σ H D I h
  refine wpAny_If (thn (hc pins s σ H _ I h) fun d s1 ⟨H1, I1, q1⟩ => ?_)
  cases d with
  | true => exact ha pins s1 σ H1 D I1 q1
  | false => exact hb pins s1 σ H1 D I1 q1
/-- code that the proof never comes to -/
def tNever : TS := fun _ _ _ => False
theorem ps_never : PS X st tNever := fun _ _ _ _ _ _ h => h.elim
theorem pss_never {sts : List Stmt} : PSs X sts tNever := fun _ _ _ _ _ _ h => h.elim
end

/-! ### targets -/
abbrev TG := V → St → Hp → (St → Hp → Prop) → Prop
def PG (X : Cx) (target : Expr) (t : TG) : Prop :=
  ∀ (pins : List (Addr × Obj)) (s : Shared) (σ : St) (H : Hp) (v : V) (u : Value) (Q : St → Hp → Prop), Inv X pins σ H s → RelV v u → t v σ H Q →
    wpAny (model X.prog X.w) X.A (assign target X.env u) (fun _ s' => ∃ σ' H', Inv X pins σ' H' s' ∧ Q σ' H') X.xe s
section
variable {X : Cx} {pos : Pos}
def gName (i : Nat) : TG := fun v σ H Q => Q (σ.set i (some v)) H
theorem pg_name {i : Nat} {x : Str} (hN : X.N.Nodup) (hi : X.N[i]? = some x) (hx : Loc X.env.scope x) (hf : X.fn x = true ∨ X.env.scope.names.lookup x = some .local := by first | exact .inl rfl | exact .inr rfl | assumption) : PG X (.Name x pos) (gName i) := by
  intro pins s σ H v u Q I r h
  exact wpAny_assign_Name (store_ok I hN hi hx r (fun s' I' => ⟨_, H, I', h⟩) hf)
/-- target = value -/
def tAsg (te : TE) (g : TG) : TS := fun D σ H => te σ H fun x H1 => g x σ H1 D.nx
/-- name = value -/
theorem ps_set {i : Nat} {x : Str} {e : Expr} {te : TE} {pos' : Pos} (hN : X.N.Nodup) (hi : X.N[i]? = some x) (hx : Loc X.env.scope x) (he : PE X e te) (hs : swapsWith e (some (.Name x pos')) pos.line X.env = pure false := by rfl) (hf : X.fn x = true ∨ X.env.scope.names.lookup x = some .local := by first | exact .inl rfl | exact .inr rfl | assumption) :
    PS X (.Assign [.Name x pos'] e pos) (tAsg te (gName i)) := by
  intro pins s σ H D I h
  refine wpAny_Assign_Name (thn (he pins s σ H _ I h) fun v s1 ⟨y, H1, I1, r1, q1⟩ => ?_) hs
  exact store_ok I1 hN hi hx r1 (fun s2 I2 => ⟨_, H1, I2, q1⟩) hf
end

/-! ### while -/
section
variable {X : Cx} {pos : Pos}
end

/-! ### what a loop or a comprehension walks -/
/-- at turn i: it yields x (the heap may grow), or it stops -/
structure It where
  go : Nat → Hp → Prop
  yld : Nat → Hp → V → Hp → Prop
  stop : Nat → Hp → Prop
/-- the iterator's own objects may turn: they are not the frame's, not pinned, younger than the entry (or a comprehension's own) -/
def FpOk (X : Cx) (pins : List (Addr × Obj)) (H : Hp) (b : Addr) : Prop :=
  H b = none ∧ b ≠ X.env.locals ∧ b ∉ X.fs ∧ (b ∈ X.ex ∨ X.s₀.heap.objs.size ≤ b) ∧ (∀ x c, X.env.cells.lookup x = some c → c ≠ b) ∧ ∀ p ∈ X.pn ++ pins, p.1 ≠ b
theorem Inv.fpOk {X : Cx} {pins : List (Addr × Obj)} {σ : St} {H H' : Hp} {s : Shared} {b : Addr} (I : Inv X pins σ H s) (hb : s.heap.objs.size ≤ b) (hn : H' b = none) : FpOk X pins H' b := by
  refine ⟨hn, Nat.ne_of_gt (Nat.lt_of_lt_of_le I.lt hb), I.nofs hb, .inr (Nat.le_trans I.sz hb), fun x c e z => ?_, fun p hp z => ?_⟩
  · obtain ⟨v, q⟩ := I.cell x c e
    exact absurd (Nat.lt_of_lt_of_le q.lt (by rw [z]; exact hb)) (Nat.lt_irrefl _)
  · exact absurd (Nat.lt_of_lt_of_le (Heap.lt_size (I.pin p hp).1) (by rw [z]; exact hb)) (Nat.lt_irrefl _)
structure Turn (P : Program) (w : World) (K : PySem.W.Frag) (tg : Expr) (J : It) (fp : List Addr) (it : Addr) (tn : Nat → Heap → Prop) : Prop where
  mem : it ∈ fp
  obj : ∀ i h, tn i h → ∀ b ∈ fp, ∃ o, h.get? b = some o ∧ ∀ v, o.data ≠ .cell v
  keep : ∀ i h h', tn i h → (∀ b ∈ fp, ∀ o, h.get? b = some o → h'.get? b = some o) → tn i h'
  item : ∀ (X : Cx), X.prog = P → X.w = w → X.K = K → X.calm = true → ∀ (i : Nat) (pins : List (Addr × Obj)) (s : Shared) (σ : St) (H : Hp) (E : Value → Shared → Prop), Inv X pins σ H s → (∀ b ∈ fp, FpOk X pins H b) → tn i s.heap → J.go i H →
    wpAny (model P w) X.A (pyNext (.ref it)) (fun r s1 => ∃ u, r = some u ∧
      wpAny (model P w) X.A (letOwnedTupleGo tg (.ref it) u) (fun _ s2 => ∃ x H', Inv X pins σ H' s2 ∧ RelV x u ∧ J.yld i H x H' ∧ tn (i + 1) s2.heap ∧ ∀ b ∈ fp, H' b = none) E s1) E s
  done : ∀ (X : Cx), X.prog = P → X.w = w → X.K = K → X.calm = true → ∀ (i : Nat) (pins : List (Addr × Obj)) (s : Shared) (σ : St) (H : Hp) (E : Value → Shared → Prop), Inv X pins σ H s → (∀ b ∈ fp, FpOk X pins H b) → tn i s.heap → J.stop i H →
    wpAny (model P w) X.A (pyNext (.ref it)) (fun r s1 => r = none ∧ Inv X pins σ H s1) E s
  self : ∀ (A : Around) (i : Nat) (s : Shared) (Q : Value → Shared → Prop) (E : Value → Shared → Prop), tn i s.heap → Q (.ref it) s → wpAny (model P w) A (pyIter (.ref it)) Q E s
abbrev TI := St → Hp → (It → Hp → Prop) → Prop
/-- an iterator has come -/
def PIE (X : Cx) (pins : List (Addr × Obj)) (σ : St) (tg : Expr) (R : It → Hp → Prop) (itv : Value) (s2 : Shared) : Prop :=
  ∃ (it : Addr) (fp : List Addr) (tn : Nat → Heap → Prop) (J : It) (H' : Hp), itv = .ref it ∧ Inv X pins σ H' s2 ∧ Turn X.prog X.w X.K tg J fp it tn ∧ tn 0 s2.heap ∧ (∀ b ∈ fp, FpOk X pins H' b) ∧ R J H'
def PI (X : Cx) (tg iter : Expr) (wi : TI) : Prop :=
  ∀ (pins : List (Addr × Obj)) (s : Shared) (σ : St) (H : Hp) (R : It → Hp → Prop), Inv X pins σ H s → wi σ H R →
    wpAny (model X.prog X.w) X.A (eval iter X.env) (fun v s1 => wpAny (model X.prog X.w) X.A (pyIter v) (PIE X pins σ tg R) X.xe s1) X.xe s

/-- the step ahead of the store is nothing for an iterator that keeps no tuple -/
theorem go_of {M : Model} {A : Around} {E : Value → Shared → Prop} {s : Shared} {tg : Expr} {it : Addr} {u : Value} {o : Obj} {n : String} {vs : Array Value} {Q : Unit → Shared → Prop} (ho : s.heap.get? it = some o) (hc : o.cls = .type n) (hd : o.data = .fields vs)
    (hn : ["enumerate", "zip", "dict_itemiterator", "dict_reverseitemiterator", "odict_iterator", "itertools.zip_longest", "itertools.pairwise"].contains n = false) (hQ : Q () s) : wpAny M A (letOwnedTupleGo tg (.ref it) u) Q E s := by
  unfold letOwnedTupleGo
  cases tg <;> first
    | exact wpAny_pure hQ
    | (cases u <;> first
        | exact wpAny_pure hQ
        | (refine wpAny_bind (wpAny_load ho ?_)
           rw [hc, hd]
           show wpAny M A (if (["enumerate", "zip", "dict_itemiterator", "dict_reverseitemiterator", "odict_iterator", "itertools.zip_longest", "itertools.pairwise"].contains n && vs[0]? == some (rawInt _)) = true then _ else _) Q E s
           rw [if_neg (by intro h; rw [hn, Bool.false_and] at h; cases h)]
           exact wpAny_pure hQ))

/-- the list at a, as it stands at each turn (a loop may append to it) -/
def Itl (K : PySem.W.Frag) (a : Addr) : It :=
  ⟨fun i H => ∃ xs x, SqL K H a xs ∧ xs[i]? = some x, fun i H x H' => H' = H ∧ ∀ xs, SqL K H a xs → xs[i]? = some x, fun i H => ∃ xs, SqL K H a xs ∧ xs.length ≤ i⟩
/-- lo, lo + 1, .. (n of them) -/
def Itr (lo : Int) (n : Nat) : It := ⟨fun i _ => i < n, fun i H x H' => H' = H ∧ x = .int (lo + i), fun i _ => n ≤ i⟩
theorem turn_list {P : Program} {w : World} {K : PySem.W.Frag} {tg : Expr} (a it : Addr) : Turn P w K tg (Itl K a) [it] it (fun i h => h.IsListIter it a i) where
  mem := by simp
  obj := fun i h st b hb => by
    have e : b = it := by simpa using hb
    subst e
    obtain ⟨o, e, c, d⟩ := st
    exact ⟨o, e, fun v z => by rw [d] at z; cases z⟩
  keep := fun i h h' st k => st.at fun o e => k it (by simp) o e
  item := by
    intro X hP hw hK hc i pins s σ H E I hf st hg
    subst hP hw hK
    obtain ⟨xs, x, hq, hx⟩ := hg
    obtain ⟨its, rv, p, hz⟩ := I.list hq
    obtain ⟨u, hu, ru⟩ := rv.get hx
    obtain ⟨f0, f1, f2, f3, f4, f5⟩ := hf it (by simp)
    refine wpAny_pyNext_list_item st p.isList (x := u) (by simpa using hu) fun h' st' sb => ?_
    have I1 : Inv X pins σ H { s with heap := h' } := I.turned (t' := s.toks) (fun b o hb e => (sb.2 b hb).trans e) f0 f1 f3 f4 f5
    obtain ⟨o, e, c, d⟩ := id st'
    exact ⟨u, rfl, go_of (s := { s with heap := h' }) e c d (by decide) ⟨x, H, I1, ru, ⟨rfl, fun ys hy => by rw [I.list_inj hy hq]; exact hx⟩, st', fun b hb => (hf b hb).1⟩⟩
  done := by
    intro X hP hw hK hc i pins s σ H E I hf st hg
    subst hP hw hK
    obtain ⟨xs, hq, hx⟩ := hg
    obtain ⟨its, rv, p, hz⟩ := I.list hq
    obtain ⟨f0, f1, f2, f3, f4, f5⟩ := hf it (by simp)
    have hl := rv.length
    exact wpAny_pyNext_list_end (I.ok.hd hc) st p.isList (by simp; omega) fun h' eb => ⟨rfl, I.turned (t' := s.toks) (fun b o hb e => eb b o hb e) f0 f1 f3 f4 f5⟩
  self := fun _ _ _ _ _ st h => wpAny_pyIter_listiter st h
theorem turn_range {P : Program} {w : World} {K : PySem.W.Frag} {tg : Expr} (it : Addr) (lo : Int) (n : Nat) : Turn P w K tg (Itr lo n) [it] it (fun i h => IsRangeIter h it (lo + (i : Nat) * 1) ((n : Int) - (i : Nat)) 1) where
  mem := by simp
  obj := fun i h st b hb => by
    have e : b = it := by simpa using hb
    subst e
    exact ⟨_, st, fun v z => by
      have z' : Data.fields _ = Data.cell v := z
      cases z'⟩
  keep := fun i h h' st k => k it (by simp) _ st
  item := by
    intro X hP hw hK hc i pins s σ H E I hf st hg
    subst hP hw hK
    obtain ⟨f0, f1, f2, f3, f4, f5⟩ := hf it (by simp)
    have W := Walks.range (prog := X.prog) (w := X.w) (I.ok.hd hc) it lo 1 n
    refine W.item i s _ _ hg st fun v h' tk hv st' kk => ?_
    obtain ⟨t, rfl⟩ := hv
    have I1 : Inv X pins σ H { s with heap := h', toks := tk } := I.turned (fun b o hb e => kk b o (by simpa using hb) e) f0 f1 f3 f4 f5
    refine ⟨_, rfl, go_of (s := { s with heap := h', toks := tk }) (n := "range_iterator") st' rfl rfl (by decide) ⟨.int (lo + i), H, I1, ⟨t, ?_⟩, ⟨rfl, rfl⟩, st', fun b hb => (hf b hb).1⟩⟩
    rw [Int.mul_one]
  done := by
    intro X hP hw hK hc i pins s σ H E I hf st hg
    subst hP hw hK
    obtain ⟨f0, f1, f2, f3, f4, f5⟩ := hf it (by simp)
    exact wpAny_pyNext_range_end (I.ok.hd hc) st (by have : n ≤ i := hg; omega) fun h' eb => ⟨rfl, I.turned (t' := s.toks) (fun b o hb e => eb b o hb e) f0 f1 f3 f4 f5⟩
  self := fun _ _ _ _ _ st h => wpAny_pyIter_rangeiter st h
end L2

namespace L2
open PySem PySem.Spec PyProof.Rows
section
variable {X : Cx} {tg : Expr}
def iList (K : PySem.W.Frag) (tl : TE) : TI := fun σ H R => tl σ H fun x H1 => ∃ a, x = .ref a ∧ (∃ xs, SqL K H1 a xs) ∧ R (Itl K a) H1
theorem pi_list {l : Expr} {tl : TE} (hl : PE X l tl) : PI X tg l (iList X.K tl) := by
  intro pins s σ H R I h
  refine thn (hl pins s σ H _ I h) fun v s1 ⟨x, H1, I1, r1, q1⟩ => ?_
  obtain ⟨a, e, ⟨xs, hq⟩, q⟩ := q1
  subst e
  cases r1
  obtain ⟨its, rv, p, hz⟩ := I1.list hq
  refine wpAny_pyIter_list p.isList ?_
  refine ⟨s1.heap.objs.size, [s1.heap.objs.size], _, _, H1, rfl, I1.kept (t' := s1.toks) fun b o e => Heap.get?_push_of_some _ e, turn_list a _, ⟨_, Heap.get?_push_size _ rfl, rfl, rfl⟩, fun b hb => ?_, q⟩
  have e : b = s1.heap.objs.size := by simpa using hb
  subst e
  exact I1.fpOk (Nat.le_refl _) (I1.hok.fresh (Nat.le_refl _))
/-- a range object just made, walked -/
theorem range_it {pins : List (Addr × Obj)} {σ : St} {H : Hp} {s : Shared} {R : It → Hp → Prop} {E : Value → Shared → Prop} {lo hi : Int} {t u v : Tok} {tk : Nat} (I : Inv X pins σ H s) (h1 : -(2 ^ 62) ≤ lo) (h2 : lo < 2 ^ 62) (h3 : -(2 ^ 62) ≤ hi) (h4 : hi < 2 ^ 62)
    (q : R (Itr lo (hi - lo).toNat) H) : wpAny (model X.prog X.w) X.A (pyIter (.ref s.heap.objs.size)) (PIE X pins σ tg R) E { s with heap := s.heap.push { cls := .type "range", data := .fields #[.int lo t, .int hi u, .int 1 v] }, toks := tk } := by
  refine wpAny_pyIter_range (IsRange.new ..) (small_one h1 h2 h3 h4) ?_
  have I1 : Inv X pins σ H { s with heap := s.heap.push { cls := .type "range", data := .fields #[.int lo t, .int hi u, .int 1 v] }, toks := tk } := I.kept fun b o e => Heap.get?_push_of_some _ e
  refine ⟨(s.heap.push { cls := .type "range", data := .fields #[.int lo t, .int hi u, .int 1 v] }).objs.size, [(s.heap.push { cls := .type "range", data := .fields #[.int lo t, .int hi u, .int 1 v] }).objs.size], _, _, H, rfl,
    I1.kept (t' := tk) fun b o e => Heap.get?_push_of_some _ e, turn_range _ lo (hi - lo).toNat, ?_, fun b hb => ?_, q⟩
  · have e1 : lo + ((0 : Nat) : Int) * 1 = lo := by simp
    have e2 : (((hi - lo).toNat : Nat) : Int) - ((0 : Nat) : Int) = Builtin.Range.rangeSize lo hi 1 := by rw [rangeSize_one]; split <;> omega
    show IsRangeIter _ _ (lo + ((0 : Nat) : Int) * 1) ((((hi - lo).toNat : Nat) : Int) - ((0 : Nat) : Int)) 1
    rw [e1, e2]
    exact Heap.get?_push_size _ rfl
  · have e : b = (s.heap.push { cls := .type "range", data := .fields #[.int lo t, .int hi u, .int 1 v] }).objs.size := by simpa using hb
    subst e
    exact I1.fpOk (Nat.le_refl _) (I1.hok.fresh (Nat.le_refl _))
def iRng1 (ta : TA) : TI := fun σ H R => ta σ H fun vs H1 => ∃ j : Int, vs = [.int j] ∧ -(2 ^ 62) ≤ j ∧ j < 2 ^ 62 ∧ R (Itr 0 j.toNat) H1
theorem pi_range1 {a : Expr} {ta : TA} {p pos : Pos} (hg : Gl X "range") (hm : X.mg "range" = none) (ha : PA X [a] ta) (hs : starEach [a] X.env = [(false, eval a X.env)] := by rfl) : PI X tg (.Call (.Name "range" p) [a] [] pos) (iRng1 ta) := by
  intro pins s σ H R I h
  refine Call_ (ld_blt I hg hm boot_range (PyProof.Rows.callWith_type1 (thn (ha pos pins s σ H _ I h) fun us s1 ⟨vs, H1, I1, r1, q1⟩ => ?_) hs rfl))
  obtain ⟨j, e, q1, q2, q⟩ := q1
  subst e
  cases r1 with
  | cons r rr =>
    cases rr
    obtain ⟨t, rfl⟩ := r
    exact call_range_1 (range_it I1 (by omega) (by omega) q1 q2 (by simpa using q))
/-! ### for -/
/-- W: the invariant by the turn and a measure; N: what the body is to reach -/
def tFor (wi : TI) (g : TG) (tb : TS) : TS := fun D σ H => wi σ H fun J H1 => ∃ W : Nat → Nat → St → Hp → Prop, (∃ m, W 0 m σ H1) ∧ ∀ i m σ H, W i m σ H →
  (J.stop i H ∧ D.nx σ H) ∨ (J.go i H ∧ ∃ N : St → Hp → Prop, (∀ σ' H', N σ' H' → ∃ m', m' < m ∧ W (i + 1) m' σ' H') ∧ ∀ x H', J.yld i H x H' → g x σ H' fun σ2 H2 => tb { D with nx := N, ct := N, bk := D.nx } σ2 H2)
/-- the records at fp as they stand -/
def pinsAt (fp : List Addr) (h : Heap) : List (Addr × Obj) := fp.filterMap fun b => (h.get? b).map fun o => (b, o)
theorem mem_pinsAt {fp : List Addr} {h : Heap} {b : Addr} {o : Obj} (hb : b ∈ fp) (e : h.get? b = some o) : (b, o) ∈ pinsAt fp h := List.mem_filterMap.mpr ⟨b, hb, by rw [e]; rfl⟩
theorem of_pinsAt {fp : List Addr} {h : Heap} {p : Addr × Obj} (hp : p ∈ pinsAt fp h) : p.1 ∈ fp ∧ h.get? p.1 = some p.2 := by
  obtain ⟨b, hb, e⟩ := List.mem_filterMap.mp hp
  cases q : h.get? b with
  | none => rw [q] at e; cases e
  | some o =>
    rw [q] at e
    have e' : (b, o) = p := Option.some.inj e
    subst e'
    exact ⟨hb, q⟩
theorem Inv.pinned {pins : List (Addr × Obj)} {σ : St} {H : Hp} {s : Shared} {fp : List Addr} (I : Inv X pins σ H s) (hf : ∀ b ∈ fp, FpOk X pins H b) (ho : ∀ b ∈ fp, ∃ o, s.heap.get? b = some o ∧ ∀ v, o.data ≠ .cell v) : Inv X (pins ++ pinsAt fp s.heap) σ H s :=
  I.pins_of fun p hp => (List.mem_append.mp hp).elim (fun z => I.pin p (List.mem_append_right _ z)) fun z => by
    obtain ⟨hb, e⟩ := of_pinsAt z
    obtain ⟨f0, f1, f2, _⟩ := hf p.1 hb
    obtain ⟨o, e', d⟩ := ho p.1 hb
    rw [e] at e'; cases e'
    exact ⟨e, f0, f1, f2, d⟩
theorem Inv.unpinned {pins pl : List (Addr × Obj)} {σ : St} {H : Hp} {s : Shared} (I : Inv X (pins ++ pl) σ H s) : Inv X pins σ H s := I.pins_of fun p hp => I.pin p (List.mem_append_right _ (List.mem_append_left _ hp))
theorem ps_for {iter : Expr} {body : List Stmt} {wi : TI} {g : TG} {tb : TS} {pos : Pos} (hp : PassesOwn (model X.prog X.w) X.A X.env X.xe) (hc : X.calm = true) (hi : PI X tg iter wi) (hg : PG X tg g) (hb : PSs X body tb)
    (hs : ∀ x, foldedSetIterable iter X.env x = pure x := by intro _; rfl) : PS X (.For tg iter body [] pos) (tFor wi g tb) := by
  intro pins s σ H D I h
  refine wpAny_For (thn (hi pins s σ H _ I h) fun v s1 h1 => thn h1 fun itv s2 h2 => ?_) hs
  obtain ⟨it, fp, tn, J, H2, e, I2, T, st2, f2, W, ⟨m0, w0⟩, turn⟩ := h2
  subst e
  -- what stays true of the iterator's objects through the loop
  have stat : ∀ {H' : Hp}, (∀ b ∈ fp, H' b = none) → ∀ b ∈ fp, FpOk X pins H' b := fun hn b hb => ⟨hn b hb, (f2 b hb).2⟩
  refine codeAny_forLoop_any (fun n s' => ∃ i σ' H', Inv X pins σ' H' s' ∧ tn i s'.heap ∧ (∀ b ∈ fp, H' b = none) ∧ W i n σ' H') ?_ m0 ⟨0, σ, H2, I2, st2, fun b hb => (f2 b hb).1, w0⟩
  rintro n s3 ⟨i, σ3, H3, I3, st3, fr3, w3⟩
  rcases turn i n σ3 H3 w3 with ⟨stop, qn⟩ | ⟨go, N, hN, step⟩
  · refine wpAny_passesOwn hp (thn (T.done X rfl rfl rfl hc i pins s3 σ3 H3 X.xe I3 (stat fr3) st3 stop) fun r s4 ⟨hr, I4⟩ => ?_)
    subst hr
    exact wpAny_execs_nil ⟨σ3, H3, I4, qn⟩
  · refine wpAny_passesOwn hp (thn (T.item X rfl rfl rfl hc i pins s3 σ3 H3 X.xe I3 (stat fr3) st3 go) fun r s4 ⟨u, hr, h4⟩ => ?_)
    subst hr
    refine wpAny_passesOwn hp (thn h4 fun _ s5 ⟨x, H5, I5, r5, y5, st5, fr5⟩ => ?_)
    have I5' := I5.pinned (stat fr5) (T.obj _ _ st5)
    refine wpAny_passesOwn hp (thn (hg _ s5 σ3 H5 x u _ I5' r5 (step x H5 y5)) fun _ s6 ⟨σ6, H6, I6, q6⟩ => ?_)
    refine wpAny_passesOwn hp (thn (hb _ s6 σ6 H6 _ I6 q6) fun f s7 q7 => ?_)
    have again : ∀ {σ7 : St} {H7 : Hp}, Inv X (pins ++ pinsAt fp s5.heap) σ7 H7 s7 → N σ7 H7 → ∃ m, m < n ∧ ∃ i σ' H', Inv X pins σ' H' s7 ∧ tn i s7.heap ∧ (∀ b ∈ fp, H' b = none) ∧ W i m σ' H' := fun {σ7 H7} I7 n7 => by
      obtain ⟨m', hm, w7⟩ := hN σ7 H7 n7
      refine ⟨m', hm, i + 1, σ7, H7, I7.unpinned, T.keep _ _ _ st5 fun b hb o e => (I7.pin (b, o) (List.mem_append_right _ (List.mem_append_right _ (mem_pinsAt hb e)))).1, fun b hb => ?_, w7⟩
      obtain ⟨o, e, d⟩ := T.obj _ _ st5 b hb
      exact (I7.pin (b, o) (List.mem_append_right _ (List.mem_append_right _ (mem_pinsAt hb e)))).2.1
    cases f with
    | next => obtain ⟨σ7, H7, I7, n7⟩ := q7; exact again I7 n7
    | cont => obtain ⟨σ7, H7, I7, n7⟩ := q7; exact again I7 n7
    | brk => obtain ⟨σ7, H7, I7, q7⟩ := q7; exact ⟨σ7, H7, I7.unpinned, q7⟩
    | ret v => obtain ⟨x7, σ7, H7, I7, r7, q7⟩ := q7; exact ⟨x7, σ7, H7, I7.unpinned, r7, q7⟩
end

/-! ### the forms one uses -/
/-- over a list that the body leaves as it is -/
theorem for_list {K : PySem.W.Frag} {a : Addr} {xs : List V} {g : TG} {tb : TS} {D : Ends} {σ : St} {H : Hp} (Pv : Nat → St → Hp → Prop) (h0 : Pv 0 σ H) (hl : ∀ i σ H, i ≤ xs.length → Pv i σ H → SqL K H a xs)
    (hs : ∀ i x σ H, xs[i]? = some x → Pv i σ H → g x σ H fun σ2 H2 => tb { D with nx := Pv (i + 1), ct := Pv (i + 1), bk := D.nx } σ2 H2) (hd : ∀ σ H, Pv xs.length σ H → D.nx σ H) :
    ∃ W : Nat → Nat → St → Hp → Prop, (∃ m, W 0 m σ H) ∧ ∀ i m σ H, W i m σ H →
      ((Itl K a).stop i H ∧ D.nx σ H) ∨ ((Itl K a).go i H ∧ ∃ N : St → Hp → Prop, (∀ σ' H', N σ' H' → ∃ m', m' < m ∧ W (i + 1) m' σ' H') ∧ ∀ x H', (Itl K a).yld i H x H' → g x σ H' fun σ2 H2 => tb { D with nx := N, ct := N, bk := D.nx } σ2 H2) := by
  refine ⟨fun i m σ H => m = xs.length - i ∧ i ≤ xs.length ∧ Pv i σ H, ⟨xs.length, by simp, Nat.zero_le _, h0⟩, ?_⟩
  rintro i m σ H ⟨rfl, hi, p⟩
  have q := hl i σ H hi p
  by_cases hlt : i < xs.length
  · refine .inr ⟨⟨xs, xs[i], q, by simp [hlt]⟩, Pv (i + 1), fun σ' H' p' => ⟨xs.length - (i + 1), by omega, rfl, hlt, p'⟩, fun x H' y => ?_⟩
    obtain ⟨e, y⟩ := y
    subst e
    exact hs i x σ _ (y xs q) p
  · have e : i = xs.length := by omega
    subst e
    exact .inl ⟨⟨xs, q, Nat.le_refl _⟩, hd σ H p⟩
theorem for_range {lo : Int} {n : Nat} {g : TG} {tb : TS} {D : Ends} {σ : St} {H : Hp} (Pv : Nat → St → Hp → Prop) (h0 : Pv 0 σ H)
    (hs : ∀ i σ H, i < n → Pv i σ H → g (.int (lo + i)) σ H fun σ2 H2 => tb { D with nx := Pv (i + 1), ct := Pv (i + 1), bk := D.nx } σ2 H2) (hd : ∀ σ H, Pv n σ H → D.nx σ H) :
    ∃ W : Nat → Nat → St → Hp → Prop, (∃ m, W 0 m σ H) ∧ ∀ i m σ H, W i m σ H →
      ((Itr lo n).stop i H ∧ D.nx σ H) ∨ ((Itr lo n).go i H ∧ ∃ N : St → Hp → Prop, (∀ σ' H', N σ' H' → ∃ m', m' < m ∧ W (i + 1) m' σ' H') ∧ ∀ x H', (Itr lo n).yld i H x H' → g x σ H' fun σ2 H2 => tb { D with nx := N, ct := N, bk := D.nx } σ2 H2) := by
  refine ⟨fun i m σ H => m = n - i ∧ i ≤ n ∧ Pv i σ H, ⟨n, by simp, Nat.zero_le _, h0⟩, ?_⟩
  rintro i m σ H ⟨rfl, hi, p⟩
  by_cases hlt : i < n
  · refine .inr ⟨hlt, Pv (i + 1), fun σ' H' p' => ⟨n - (i + 1), by omega, rfl, hlt, p'⟩, fun x H' y => ?_⟩
    obtain ⟨e, y⟩ := y
    subst e y
    exact hs i σ _ hlt p
  · have e : i = n := by omega
    subst e
    exact .inl ⟨Nat.le_refl _, hd σ H p⟩
end L2

namespace L2
open PySem PySem.Spec PyProof.Rows

abbrev R2 := V → V → Hp → VK → Prop
/-- a two-place operation on values: f is binaryOp op, inplaceOp op or compareOp op -/
def OpR (X : Cx) (f : Value → Value → Sem Value) (r : R2) : Prop :=
  ∀ (pins : List (Addr × Obj)) (s : Shared) (σ : St) (H : Hp) (x y : V) (v u : Value) (Q : VK), Inv X pins σ H s → RelV x v → RelV y u → r x y H Q →
    wpAny (model X.prog X.w) X.A (f v u) (EP X pins σ Q) X.xe s
/-- a call of a value that is known (a builtin, a type) with values -/
def CallR (X : Cx) (f : Value) (r : List V → Hp → VK → Prop) : Prop :=
  ∀ (pins : List (Addr × Obj)) (s : Shared) (σ : St) (H : Hp) (xs : List V) (us : List Value) (Q : VK), Inv X pins σ H s → Vals xs us → r xs H Q →
    wpAny (model X.prog X.w) X.A (call f us) (EP X pins σ Q) X.xe s
def tOp (r : R2) (ta tb : TE) : TE := fun σ H Q => ta σ H fun x H1 => tb σ H1 fun y H2 => r x y H2 Q
/-- ints in, under C, and a value out -/
def rI (C : Int → Int → Prop) (g : Int → Int → V) : R2 := fun x y H Q => ∃ i j, x = .int i ∧ y = .int j ∧ C i j ∧ Q (g i j) H
def rI0 (g : Int → Int → V) : R2 := fun x y H Q => ∃ i j, x = .int i ∧ y = .int j ∧ Q (g i j) H
section
variable {X : Cx} {a b c : Expr} {ta tb tc : TE} {pos : Pos}

theorem binT (ha : PE X a ta) (hb : PE X b tb) {pins : List (Addr × Obj)} {s : Shared} {σ : St} {H : Hp} {R : V → V → Hp → Prop} (I : Inv X pins σ H s)
    (h : ta σ H fun x H1 => tb σ H1 fun y H2 => R x y H2) {Q : Value → Shared → Prop} {f : Value → Value → Sem Value}
    (hf : ∀ v u s2 x y H2, Inv X pins σ H2 s2 → RelV x v → RelV y u → R x y H2 → wpAny (model X.prog X.w) X.A (f v u) Q X.xe s2) :
    wpAny (model X.prog X.w) X.A (eval a X.env) (fun v s₁ => wpAny (model X.prog X.w) X.A (eval b X.env) (fun u s₂ => wpAny (model X.prog X.w) X.A (f v u) Q X.xe s₂) X.xe s₁) X.xe s := by
  refine thn (ha pins s σ H _ I h) fun v s1 ⟨x, H1, I1, r1, q1⟩ => ?_
  refine thn (hb pins s1 σ H1 _ I1 q1) fun u s2 ⟨y, H2, I2, r2, q2⟩ => ?_
  exact hf v u s2 x y H2 I2 r1 r2 q2

theorem pe_op {op : Operator} {r : R2} (ho : OpR X (binaryOp op) r) (ha : PE X a ta) (hb : PE X b tb) : PE X (.BinOp a op b pos) (tOp r ta tb) := by
  intro pins s σ H Q I h
  exact wpAny_BinOp (binT ha hb I h fun v u s2 x y H2 I2 rx ry q => ho pins s2 σ H2 x y v u Q I2 rx ry q)
/-! ### ints -/
theorem opI {f : Value → Value → Sem Value} {C : Int → Int → Prop} {g : Int → Int → Int}
    (rule : ∀ (i j : Int) (t u : Tok) (s : Shared) (Q : Value → Shared → Prop) (E : Value → Shared → Prop), C i j → Q (.int (g i j) s.toks) { s with toks := s.toks + 1 } → wpAny (model X.prog X.w) X.A (f (.int i t) (.int j u)) Q E s) :
    OpR X f (rI C fun i j => .int (g i j)) := by
  intro pins s σ H x y v u Q I rx ry h
  obtain ⟨i, j, rfl, rfl, hc, q⟩ := h
  obtain ⟨t, rfl⟩ := rx
  obtain ⟨t', rfl⟩ := ry
  exact rule i j t t' s _ _ hc ⟨.int (g i j), H, I.tok _, ⟨_, rfl⟩, q⟩
theorem opI0 {f : Value → Value → Sem Value} {g : Int → Int → Int}
    (rule : ∀ (i j : Int) (t u : Tok) (s : Shared) (Q : Value → Shared → Prop) (E : Value → Shared → Prop), Q (.int (g i j) s.toks) { s with toks := s.toks + 1 } → wpAny (model X.prog X.w) X.A (f (.int i t) (.int j u)) Q E s) :
    OpR X f (rI0 fun i j => .int (g i j)) := by
  intro pins s σ H x y v u Q I rx ry h
  obtain ⟨i, j, rfl, rfl, q⟩ := h
  obtain ⟨t, rfl⟩ := rx
  obtain ⟨t', rfl⟩ := ry
  exact rule i j t t' s _ _ ⟨.int (g i j), H, I.tok _, ⟨_, rfl⟩, q⟩
theorem opB0 {f : Value → Value → Sem Value} {g : Int → Int → Bool}
    (rule : ∀ (i j : Int) (t u : Tok) (s : Shared) (Q : Value → Shared → Prop) (E : Value → Shared → Prop), Q (.bool (g i j)) s → wpAny (model X.prog X.w) X.A (f (.int i t) (.int j u)) Q E s) :
    OpR X f (rI0 fun i j => .bl (g i j)) := by
  intro pins s σ H x y v u Q I rx ry h
  obtain ⟨i, j, rfl, rfl, q⟩ := h
  obtain ⟨t, rfl⟩ := rx
  obtain ⟨t', rfl⟩ := ry
  exact rule i j t t' s _ _ ⟨.bl (g i j), H, I, rfl, q⟩

def CDiv (i j : Int) : Prop := 0 < j ∧ j < 1073741824
def CMul (i j : Int) : Prop := (-(2 ^ 64) < i ∧ i < 2 ^ 64) ∨ (-(2 ^ 64) < j ∧ j < 2 ^ 64)
theorem CMul.ok {i j : Int} (h : CMul i j) : IntMulOk i j := by
  rcases h with ⟨h1, h2⟩ | ⟨h1, h2⟩
  · exact .of_left (intBits_le_64 h1 h2)
  · exact .of_right (intBits_le_64 h1 h2)
theorem op_add : OpR X (binaryOp .Add) (rI0 fun i j => .int (i + j)) := opI0 fun _ _ _ _ _ _ _ q => add_int q
theorem op_sub : OpR X (binaryOp .Sub) (rI0 fun i j => .int (i - j)) := opI0 fun _ _ _ _ _ _ _ q => sub_int q
theorem op_mul : OpR X (binaryOp .Mult) (rI CMul fun i j => .int (i * j)) := opI fun _ _ _ _ _ _ _ hc q => mul_int q hc.ok
/-- // by a positive divisor -/
theorem op_fdiv : OpR X (binaryOp .FloorDiv) (rI CDiv fun i j => .int (i / j)) := opI fun i j _ _ _ _ _ hc q => by
  have h1 : (0 : Int) < j := hc.1
  have h2 : j < 1073741824 := hc.2
  exact floordiv_int (by omega) (by rw [Int.fdiv_eq_ediv_of_nonneg i (by omega)]; exact q) (.inl (PyProof.noPylong_small (by omega)))
/-- % by a positive divisor of any size -/
theorem op_mod : OpR X (binaryOp .Mod) (rI (fun _ j => 0 < j) fun i j => .int (i % j)) := opI fun i j _ _ _ _ _ hc q => by
  have h1 : (0 : Int) < j := hc
  exact mod_int' (by omega) (by rw [Int.fmod_eq_emod_of_nonneg i (by omega)]; exact q)
/-! ### bools among ints: n += (a < b) -/
end

/-! ### comparisons -/
/-- the scalars that == tells apart as data does -/
def scal : V → V → Bool
  | .non, .non => true | .non, .int _ => true | .int _, .non => true | .non, .bl _ => true | .bl _, .non => true | .non, .str _ => true | .str _, .non => true
  | .int _, .int _ => true | .bl _, .bl _ => true | .str _, .str _ => true | .byt _, .byt _ => true
  | .int _, .str _ => true | .str _, .int _ => true | .bl _, .str _ => true | .str _, .bl _ => true
  | _, _ => false
def rEq : R2 := fun x y H Q => scal x y = true ∧ Q (.bl (decide (x = y))) H
def rNe : R2 := fun x y H Q => scal x y = true ∧ Q (.bl (!decide (x = y))) H

theorem dec_int {i j : Int} : decide (V.int i = V.int j) = (i == j) := by
  rw [Bool.eq_iff_iff]
  simp
theorem dec_bl {i j : Bool} : decide (V.bl i = V.bl j) = (i == j) := by
  rw [Bool.eq_iff_iff]
  simp
theorem dec_str {i j : Str} : decide (V.str i = V.str j) = (i == j) := by
  rw [Bool.eq_iff_iff]
  simp
theorem dec_byt {i j : Array UInt8} : decide (V.byt i = V.byt j) = (i.toList == j.toList) := by
  rw [Bool.eq_iff_iff]
  cases i
  cases j
  simp

section
variable {X : Cx} {a b c : Expr} {ta tb tc : TE} {pos : Pos}
theorem fin_bl {pins : List (Addr × Obj)} {σ : St} {H : Hp} {s : Shared} {Q : VK} {k k' : Bool} (I : Inv X pins σ H s) (q : Q (.bl k) H) (e : k = k') : EP X pins σ Q (.bool k') s := by
  subst e
  exact ⟨.bl k, H, I, rfl, q⟩
theorem op_eq : OpR X (compareOp .Eq) rEq := by
  intro pins s σ H x y v u Q I rx ry h
  obtain ⟨hs, q⟩ := h
  cases x with
  | non =>
    cases rx
    cases y with
    | non => cases ry; exact PySem.EqNone.eq_none_none (fin_bl I q (by simp))
    | bl j => cases ry; exact PySem.EqNone.eq_none_bool (fin_bl I q (by simp))
    | int j => obtain ⟨t', rfl⟩ := ry; exact PySem.EqNone.eq_none_int (fin_bl I q (by simp))
    | str j => obtain ⟨t', rfl⟩ := ry; exact PySem.EqNone.eq_none_str (fin_bl I q (by simp))
    | _ => exact absurd (show false = true from hs) Bool.false_ne_true
  | bl i =>
    cases rx
    cases y with
    | non => cases ry; exact PySem.EqNone.eq_bool_none (fin_bl I q (by simp))
    | bl j => cases ry; exact eq_bool (fin_bl I q dec_bl)
    | str j => obtain ⟨t', rfl⟩ := ry; exact PySem.EqMixed.eq_bool_str (fin_bl I q (by simp))
    | _ => exact absurd (show false = true from hs) Bool.false_ne_true
  | int i =>
    obtain ⟨t, rfl⟩ := rx
    cases y with
    | non => cases ry; exact PySem.EqNone.eq_int_none (fin_bl I q (by simp))
    | int j => obtain ⟨t', rfl⟩ := ry; exact eq_int (fin_bl I q dec_int)
    | str j => obtain ⟨t', rfl⟩ := ry; exact PySem.EqMixed.eq_int_str (fin_bl I q (by simp))
    | _ => exact absurd (show false = true from hs) Bool.false_ne_true
  | str i =>
    obtain ⟨t, rfl⟩ := rx
    cases y with
    | non => cases ry; exact PySem.EqNone.eq_str_none (fin_bl I q (by simp))
    | bl j => cases ry; exact PySem.EqMixed.eq_str_bool (fin_bl I q (by simp))
    | int j => obtain ⟨t', rfl⟩ := ry; exact PySem.EqMixed.eq_str_int (fin_bl I q (by simp))
    | str j => obtain ⟨t', rfl⟩ := ry; exact eq_str (fin_bl I q dec_str)
    | _ => exact absurd (show false = true from hs) Bool.false_ne_true
  | byt i =>
    obtain ⟨t, rfl⟩ := rx
    cases y with
    | byt j => obtain ⟨t', rfl⟩ := ry; exact PySem.W.eq_bytes (fin_bl I q dec_byt)
    | _ => exact absurd (show false = true from hs) Bool.false_ne_true
  | _ => cases y <;> exact absurd (show false = true from hs) Bool.false_ne_true
theorem op_ne : OpR X (compareOp .NotEq) rNe := by
  intro pins s σ H x y v u Q I rx ry h
  obtain ⟨hs, q⟩ := h
  cases x with
  | non =>
    cases rx
    cases y with
    | non => cases ry; exact PySem.EqNone.ne_none_none (fin_bl I q (by simp))
    | bl j => cases ry; exact PySem.EqNone.ne_none_bool (fin_bl I q (by simp))
    | int j => obtain ⟨t', rfl⟩ := ry; exact PySem.EqNone.ne_none_int (fin_bl I q (by simp))
    | str j => obtain ⟨t', rfl⟩ := ry; exact PySem.EqNone.ne_none_str (fin_bl I q (by simp))
    | _ => exact absurd (show false = true from hs) Bool.false_ne_true
  | bl i =>
    cases rx
    cases y with
    | non => cases ry; exact PySem.EqNone.ne_bool_none (fin_bl I q (by simp))
    | bl j => cases ry; exact ne_bool (fin_bl I q (congrArg not dec_bl))
    | str j => obtain ⟨t', rfl⟩ := ry; exact PySem.EqMixed.ne_bool_str (fin_bl I q (by simp))
    | _ => exact absurd (show false = true from hs) Bool.false_ne_true
  | int i =>
    obtain ⟨t, rfl⟩ := rx
    cases y with
    | non => cases ry; exact PySem.EqNone.ne_int_none (fin_bl I q (by simp))
    | int j => obtain ⟨t', rfl⟩ := ry; exact ne_int (fin_bl I q (congrArg not dec_int))
    | str j => obtain ⟨t', rfl⟩ := ry; exact PySem.EqMixed.ne_int_str (fin_bl I q (by simp))
    | _ => exact absurd (show false = true from hs) Bool.false_ne_true
  | str i =>
    obtain ⟨t, rfl⟩ := rx
    cases y with
    | non => cases ry; exact PySem.EqNone.ne_str_none (fin_bl I q (by simp))
    | bl j => cases ry; exact PySem.EqMixed.ne_str_bool (fin_bl I q (by simp))
    | int j => obtain ⟨t', rfl⟩ := ry; exact PySem.EqMixed.ne_str_int (fin_bl I q (by simp))
    | str j => obtain ⟨t', rfl⟩ := ry; exact ne_str (fin_bl I q (congrArg not dec_str))
    | _ => exact absurd (show false = true from hs) Bool.false_ne_true
  | byt i =>
    obtain ⟨t, rfl⟩ := rx
    cases y with
    | byt j => obtain ⟨t', rfl⟩ := ry; exact PySem.W.ne_bytes (fin_bl I q (congrArg not dec_byt))
    | _ => exact absurd (show false = true from hs) Bool.false_ne_true
  | _ => cases y <;> exact absurd (show false = true from hs) Bool.false_ne_true

theorem op_lt : OpR X (compareOp .Lt) (rI0 fun i j => .bl (decide (i < j))) := opB0 fun _ _ _ _ _ _ _ q => lt_int q
theorem op_le : OpR X (compareOp .LtE) (rI0 fun i j => .bl (decide (i ≤ j))) := opB0 fun _ _ _ _ _ _ _ q => le_int q
theorem op_gt : OpR X (compareOp .Gt) (rI0 fun i j => .bl (decide (j < i))) := opB0 fun _ _ _ _ _ _ _ q => gt_int q
/-- the one string within the other -/
theorem op_in_str : OpR X (compareOp .In) (fun x y H Q => ∃ i j, x = .str i ∧ y = .str j ∧ Q (.bl (!(Builtin.Str.occurrences j i 0 j.length 1).isEmpty)) H) := by
  intro pins s σ H x y v u Q I rx ry h
  obtain ⟨i, j, rfl, rfl, q⟩ := h
  obtain ⟨t, rfl⟩ := rx
  obtain ⟨t', rfl⟩ := ry
  exact in_str (fin_bl I q rfl)

/-- is None, is not None: the right side a value none -/
theorem op_isN : OpR X (compareOp .Is) (fun x y H Q => y = .non ∧ Q (.bl (decide (x = .non))) H) := by
  intro pins s σ H x y v u Q I rx ry h
  obtain ⟨rfl, q⟩ := h
  cases ry
  refine is_none_gen (fin_bl I q ?_)
  cases x <;> first
    | (cases rx; rfl)
    | (obtain ⟨t, rfl⟩ := rx; rfl)
theorem op_notN : OpR X (compareOp .IsNot) (fun x y H Q => y = .non ∧ Q (.bl (!decide (x = .non))) H) := by
  intro pins s σ H x y v u Q I rx ry h
  obtain ⟨rfl, q⟩ := h
  cases ry
  refine isnot_none_gen (fin_bl I q ?_)
  cases x <;> first
    | (cases rx; rfl)
    | (obtain ⟨t, rfl⟩ := rx; rfl)

theorem nomark (b : Expr) {op : CmpOp} (h : op ≠ .In := by decide) (h2 : op ≠ .NotIn := by decide) : behindInMarks op b = false := by
  have e1 : (op == CmpOp.In) = false := by cases op <;> first | rfl | exact absurd rfl h
  have e2 : (op == CmpOp.NotIn) = false := by cases op <;> first | rfl | exact absurd rfl h2
  cases b <;> simp [behindInMarks, e1, e2]
/-- a comparison as a value; hm: nomark b, or (for in, not in) by with_unfolding_all rfl -/
theorem pe_cmpR {op : CmpOp} {r : R2} (ho : OpR X (compareOp op) r) (ha : PE X a ta) (hb : PE X b tb) (hm : behindInMarks op b = false) : PE X (.Compare a [op] [b] pos) (tOp r ta tb) := by
  intro pins s σ H Q I h
  exact wpAny_Compare1 (binT ha hb I h fun v u s2 x y H2 I2 rx ry q => ho pins s2 σ H2 x y v u Q I2 rx ry q) hm
/-- a reading of a value as a test -/
def tTest (t : TE) : TT := fun σ H Q => t σ H fun x H' => ∃ k, x = .bl k ∧ Q k H'
theorem pt_cmpR {op : CmpOp} {r : R2} (ho : OpR X (compareOp op) r) (ha : PE X a ta) (hb : PE X b tb) (hm : behindInMarks op b = false) : PT X (.Compare a [op] [b] pos) (tTest (tOp r ta tb)) := by
  intro pins s σ H Q I h
  refine wpAny_isTrue_Compare1 (thn (ha pins s σ H _ I h) fun v s1 ⟨x, H1, I1, r1, q1⟩ => thn (hb pins s1 σ H1 _ I1 q1) fun u s2 ⟨y, H2, I2, r2, q2⟩ =>
    thn (ho pins s2 σ H2 x y v u _ I2 r1 r2 q2) fun c s3 ⟨z, H3, I3, r3, k, e, q3⟩ => ?_) hm
  subst e
  cases r3
  exact wpAny_truthy_bool ⟨H3, I3, q3⟩
/-- a op1 b op2 c -/
def tChain (r r' : R2) (ta tb tc : TE) : TE := fun σ H Q => ta σ H fun x H1 => tb σ H1 fun y H2 => r x y H2 fun z H3 => ∃ k, z = .bl k ∧
  (if k = true then tc σ H3 fun w' H4 => r' y w' H4 Q else Q (.bl false) H3)
theorem pe_chain {op op' : CmpOp} {r r' : R2} (ho : OpR X (compareOp op) r) (ho' : OpR X (compareOp op') r') (ha : PE X a ta) (hb : PE X b tb) (hc : PE X c tc)
    (hm : lastMarks [op, op'] [b, c] = false := by with_unfolding_all rfl) : PE X (.Compare a [op, op'] [b, c] pos) (tChain r r' ta tb tc) := by
  intro pins s σ H Q I h
  refine Compare_chain (thn (ha pins s σ H _ I h) fun v s1 ⟨x, H1, I1, r1, q1⟩ => chain_link (thn (hb pins s1 σ H1 _ I1 q1) fun u s2 ⟨y, H2, I2, r2, q2⟩ =>
    thn (ho pins s2 σ H2 x y v u _ I2 r1 r2 q2) fun d s3 ⟨z, H3, I3, r3, k, e, q3⟩ => ?_)) hm
  subst e
  cases r3
  refine wpAny_truthy_bool ?_
  cases k with
  | false => exact ite_ff ⟨.bl false, H3, I3, rfl, q3⟩
  | true => exact ite_tt (chain_last (thn (hc pins s3 σ H3 _ I3 q3) fun w' s4 ⟨z', H4, I4, r4, q4⟩ => ho' pins s4 σ H4 y z' u w' Q I4 r2 r4 q4))
theorem pt_chain {op op' : CmpOp} {r r' : R2} (ho : OpR X (compareOp op) r) (ho' : OpR X (compareOp op') r') (ha : PE X a ta) (hb : PE X b tb) (hc : PE X c tc)
    (hm : lastMarks [op, op'] [b, c] = false := by with_unfolding_all rfl) : PT X (.Compare a [op, op'] [b, c] pos) (tTest (tChain r r' ta tb tc)) := by
  intro pins s σ H Q I h
  refine isTrue_chain (thn (ha pins s σ H _ I h) fun v s1 ⟨x, H1, I1, r1, q1⟩ => test_link (thn (hb pins s1 σ H1 _ I1 q1) fun u s2 ⟨y, H2, I2, r2, q2⟩ =>
    thn (ho pins s2 σ H2 x y v u _ I2 r1 r2 q2) fun d s3 ⟨z, H3, I3, r3, k, e, q3⟩ => ?_)) hm
  subst e
  cases r3
  refine wpAny_truthy_bool ?_
  cases k with
  | false =>
    obtain ⟨k', e', q'⟩ := q3
    cases e'
    exact ite_ff ⟨H3, I3, q'⟩
  | true =>
    refine ite_tt (test_last (thn (hc pins s3 σ H3 _ I3 q3) fun w' s4 ⟨z', H4, I4, r4, q4⟩ => thn (ho' pins s4 σ H4 y z' u w' _ I4 r2 r4 q4) fun d' s5 ⟨z2, H5, I5, r5, k2, e2, q5⟩ => ?_))
    subst e2
    cases r5
    exact wpAny_truthy_bool ⟨H5, I5, q5⟩

/-! ### truth -/
theorem line63 : (sizeLine : Nat) < 2 ^ 63 := by rw [sizeLine_eq]; decide
/-! ### strs and bytes -/
theorem op_add_str : OpR X (binaryOp .Add) (fun x y H Q => ∃ i j, x = .str i ∧ y = .str j ∧ i.length + j.length ≤ sizeLine ∧ Q (.str (i ++ j)) H) := by
  intro pins s σ H x y v u Q I rx ry h
  obtain ⟨i, j, rfl, rfl, hz, q⟩ := h
  obtain ⟨t, rfl⟩ := rx
  obtain ⟨t', rfl⟩ := ry
  exact add_str (fun t' tk => ⟨.str (i ++ j), H, I.tok _, ⟨_, rfl⟩, q⟩) hz
/-! ### scalar builtins, by CallR -/
theorem vals1 {x : V} {us : List Value} (r : Vals [x] us) : ∃ u, us = [u] ∧ RelV x u := by
  cases r with
  | cons r1 r2 => cases r2; exact ⟨_, rfl, r1⟩
theorem vals2 {x y : V} {us : List Value} (r : Vals [x, y] us) : ∃ u w', us = [u, w'] ∧ RelV x u ∧ RelV y w' := by
  cases r with
  | cons r1 r2 =>
    cases r2 with
    | cons r3 r4 => cases r4; exact ⟨_, _, rfl, r1, r3⟩
/-- len of a str, a bytes, a list, a tuple -/
def LenV (K : PySem.W.Frag) (x : V) (H : Hp) (n : Nat) : Prop :=
  match x with
  | .str y => y.length ≤ sizeLine ∧ n = y.length
  | .byt y => y.size ≤ sizeLine ∧ n = y.size
  | .ref p => (∃ xs, SqL K H p xs ∧ n = xs.length) ∨ ∃ xs, SqT K H p xs ∧ n = xs.length
  | _ => False
theorem call_len : CallR X (.builtin "len") (fun xs H Q => ∃ x n, xs = [x] ∧ LenV X.K x H n ∧ Q (.int n) H) := by
  intro pins s σ H xs us Q I r h
  obtain ⟨x, n, rfl, e, q⟩ := h
  obtain ⟨u, rfl, rx⟩ := vals1 r
  have hl := line63
  have hs : sizeLine = 16777216 := sizeLine_eq
  cases x with
  | str y =>
    obtain ⟨t, rfl⟩ := rx
    obtain ⟨hy, e'⟩ : y.length ≤ sizeLine ∧ n = y.length := e
    subst e'
    exact len_str (by omega) ⟨.int _, H, I.tok _, ⟨_, rfl⟩, q⟩
  | byt y =>
    obtain ⟨t, rfl⟩ := rx
    obtain ⟨hy, e'⟩ : y.size ≤ sizeLine ∧ n = y.size := e
    subst e'
    exact PySem.W.len_bytes (by omega) ⟨.int _, H, I.tok _, ⟨_, rfl⟩, q⟩
  | ref p =>
    cases rx
    have e' : (∃ xs, SqL X.K H p xs ∧ n = xs.length) ∨ ∃ xs, SqT X.K H p xs ∧ n = xs.length := e
    rcases e' with ⟨xs, hx, e'⟩ | ⟨xs, hx, e'⟩
    · subst e'
      obtain ⟨its, r', pl, hz⟩ := I.list hx
      have hlen := r'.length
      exact Calls.call_len_list pl.isList (by simp only [List.size_toArray]; omega) ⟨.int xs.length, H, I.tok _, ⟨_, by simp only [List.size_toArray]; rw [hlen]⟩, q⟩
    · subst e'
      obtain ⟨its, r', pl, hz⟩ := I.tuple hx
      have hlen := r'.length
      exact len_tuple pl (by simp only [List.size_toArray]; omega) ⟨.int xs.length, H, I.tok _, ⟨_, by simp only [List.size_toArray]; rw [hlen]⟩, q⟩
  | _ => exact (show False from e).elim
end
end L2

namespace L2
open PySem PySem.Spec PyProof.Rows

/-! ### an instance, its attributes a map -/
structure ObjM (h : Heap) (x dx C : Addr) (mA : Str → Option Value) : Prop where
  obj : h.get? x = some (PySem.W.instObj C dx)
  ns : h.Ns1 dx mA
  ne : dx ≠ x

theorem lookIn_ns {h : Heap} {dx : Addr} {mA : Str → Option Value} (n : h.Ns1 dx mA) : ∃ od, h.get? dx = some od ∧ ∀ name, PySem.W.lookIn name od = some (mA name) := by
  obtain ⟨o, es, ep, ho, hd, hk, _, hm⟩ := n
  refine ⟨o, ho, fun name => ?_⟩
  have e := hm name
  unfold nsFind findBy at e
  rw [← Array.find?_toList] at e
  unfold PySem.W.lookIn
  rw [hd]
  dsimp only
  split
  · rename_i y q
    rw [q] at e
    exact congrArg some e
  · rename_i q
    rw [q] at e
    have a : es.toList.any (·.refKey) = false := by
      rw [List.any_eq_false]
      intro y hy
      obtain ⟨z, t, hkey⟩ := hk y (Array.mem_toList_iff.mp hy)
      simp [DictEntry.refKey, hkey]
    have a' : ¬ es.toList.any (·.refKey) = true := by rw [a]; exact Bool.false_ne_true
    rw [if_neg a']
    exact congrArg some e

theorem ObjM.look {h : Heap} {x dx C : Addr} {mA : Str → Option Value} (I : ObjM h x dx C mA) : ∃ od, PySem.W.InstAt h x (PySem.W.instObj C dx) C (some od) ∧ ∀ name, PySem.W.lookIn name od = some (mA name) :=
  let ⟨od, ho, hl⟩ := lookIn_ns I.ns
  ⟨od, ⟨I.obj, rfl, rfl, ho⟩, hl⟩

section
variable {prog : Program} {w : World} {A : Around} {E : Value → Shared → Prop} {s : Shared} {K : PySem.W.Frag} {x dx C f : Addr} {mA : Str → Option Value} {name : Str} {v : Value}

theorem get_map {expr : Bool} {Q : Value → Shared → Prop} (X : K.In s.heap) (I : ObjM s.heap x dx C mA) (hg : PySem.W.plainGet K C name = true) (hh : PySem.W.hasDictIn K C = true)
    (ha : PySem.W.findIn K (.ref C) name = some none) (hv : mA name = some v) (hv' : PySem.W.handedIn v = true) (h : Q v { s with toks := s.toks + 1 }) :
    wpAny (model prog w) A (getAttr (.ref x) name expr) Q E s := by
  obtain ⟨od, J, hl⟩ := I.look
  exact PySem.W.get_value X J (PySem.W.plainGet_of hg).1 (PySem.W.findObj_own hh ha rfl (by rw [hl, hv])) hv' h

theorem set_map {ns : List Str} {Q : Unit → Shared → Prop} (X : K.In s.heap) (I : ObjM s.heap x dx C mA)
    (hs : PySem.W.findIn K (.ref C) "__setattr__" = some (some (.builtin "object.__setattr__"))) (hp : PySem.W.plainOver K C = true) (ht : PySem.W.takerIn K C name = some none) (hh : PySem.W.hasDictIn K C = true)
    (hw : PySem.Within mA ns) (hsz : ns.length ≤ sizeLine)
    (h : ∀ h', ObjM h' x dx C (fun y => if y = name then some v else mA y) → Heap.SameBut dx s.heap h' → Q () { s with heap := h', toks := s.toks + 2 }) :
    wpAny (model prog w) A (setAttr (.ref x) name v) Q E s := by
  obtain ⟨od, J, hl⟩ := I.look
  refine PySem.W.set_plain X J hs (PySem.W.osa_open (s := { s with toks := s.toks + 1 }) (r := none) X J hp ht fun b => ?_)
  obtain ⟨cd, hc, hd'⟩ := PySem.W.any_some hh
  have hx : s.heap.get? x = some ⟨.ref C, some dx, .plain, #[]⟩ := I.obj
  refine wpAny_bind (wpAny_pure (wpAny_bind (wpAny_bind (wpAny_loadPart hx (wpAny_bind (PySem.W.Looks.here (s := { s with toks := s.toks + 1 }) (PySem.W.looks_clsIn X hc) ?_))))))
  rw [hd']
  refine wpAny_pure (a := some dx) (wpAny_bind (wpAny_pure (wpAny_bind ?_)))
  refine wpAny_nsSet1 (s := { s with toks := s.toks + 1 }) I.ns fun h' hn2 hs2 => ?_
  obtain ⟨oD, esD, epD, hoD, hdD, hcD⟩ := hn2.count (PySem.Within.cons name v hw)
  refine wpAny_bind (wpAny_lookBehind hoD (by rw [hdD]; exact pastItsLine_dict (Nat.le_trans hcD (by rw [List.length_cons]; omega))) ?_)
  exact wpAny_pure (h _ ⟨(hs2.2 _ (Ne.symm I.ne)).trans I.obj, hn2, I.ne⟩ hs2)

/-- C(..): the dict at the heap's end, the instance behind it; then its __init__ -/
theorem make_map {R : Result → Shared → Prop} {vs : List Value} {kw : List (Str × Value)} (X : K.In s.heap) (hm : PySem.W.makesIn K C = true)
    (hi : PySem.W.findIn K (.ref C) "__init__" = some (some (.ref f))) (hf : PySem.W.typeIn K (.ref f) = some (.type "function"))
    (h : codeAny (model prog w) (A.under (.builtin "type.__call__" ⟨.ref C :: vs, kw⟩)) (.call (.ref f) ⟨.ref (s.heap.objs.size + 1) :: vs, kw⟩) (PySem.W.InitBack (s.heap.objs.size + 1) R)
      { s with heap := (s.heap.push PySem.W.emptyDict).push (PySem.W.instObj C s.heap.objs.size) }) :
    codeAny (model prog w) A (.call (.ref C) ⟨vs, kw⟩) R s := by
  obtain ⟨hh, g, d, t, os⟩ := s
  exact PySem.W.make_core (PySem.W.makes_of X hm) (PySem.W.looks_findIn X hi) (fun self => PySem.W.bind_fn X self hf) (.inl rfl) h
end

/-! ### the attributes as a list of pairs -/
def putF (f : Str) (v : V) : List (Str × V) → List (Str × V)
  | [] => [(f, v)]
  | (g, x) :: r => if g = f then (g, v) :: r else (g, x) :: putF f v r
theorem lookup_putF (f g : Str) (v : V) : ∀ fs : List (Str × V), (putF f v fs).lookup g = if g = f then some v else fs.lookup g
  | [] => by
    show List.lookup g [(f, v)] = _
    by_cases h : g = f
    · have hb : (g == f) = true := beq_iff_eq.mpr h
      simp only [List.lookup, hb, if_pos h]
    · have hb : (g == f) = false := beq_eq_false_iff_ne.mpr h
      simp only [List.lookup, hb, if_neg h]
  | (k, x) :: r => by
    have ih := lookup_putF f g v r
    rw [show putF f v ((k, x) :: r) = (if k = f then (k, v) :: r else (k, x) :: putF f v r) from rfl]
    by_cases hk : k = f
    · rw [if_pos hk]
      by_cases h : g = k
      · have hb : (g == k) = true := beq_iff_eq.mpr h
        simp only [List.lookup, hb, if_pos (h.trans hk)]
      · have hb : (g == k) = false := beq_eq_false_iff_ne.mpr h
        simp only [List.lookup, hb, if_neg (fun e : g = f => h (e.trans hk.symm))]
    · rw [if_neg hk]
      by_cases h : g = k
      · have hb : (g == k) = true := beq_iff_eq.mpr h
        simp only [List.lookup, hb, if_neg (fun e : g = f => hk (h.symm.trans e))]
      · have hb : (g == k) = false := beq_eq_false_iff_ne.mpr h
        simp only [List.lookup, hb]
        exact ih
theorem keys_putF (f : Str) (v : V) : ∀ fs : List (Str × V), f ∈ (putF f v fs).map (·.1) ∧ ∀ g, g ∈ fs.map (·.1) → g ∈ (putF f v fs).map (·.1)
  | [] => ⟨by simp [putF], fun g h => by simp at h⟩
  | (k, x) :: r => by
    obtain ⟨i1, i2⟩ := keys_putF f v r
    rw [show putF f v ((k, x) :: r) = (if k = f then (k, v) :: r else (k, x) :: putF f v r) from rfl]
    by_cases hk : k = f
    · rw [if_pos hk]
      subst hk
      exact ⟨by simp, fun g h => by simpa using h⟩
    · rw [if_neg hk]
      refine ⟨?_, fun g h => ?_⟩
      · rw [List.map_cons]
        exact List.mem_cons_of_mem _ i1
      · rw [List.map_cons] at h ⊢
        rcases List.mem_cons.mp h with e | e
        · exact List.mem_cons.mpr (.inl e)
        · exact List.mem_cons_of_mem _ (i2 g e)
theorem length_putF (f : Str) (v : V) : ∀ fs : List (Str × V), (putF f v fs).length ≤ fs.length + 1
  | [] => by simp [putF]
  | (k, x) :: r => by
    have ih := length_putF f v r
    rw [show putF f v ((k, x) :: r) = (if k = f then (k, v) :: r else (k, x) :: putF f v r) from rfl]
    by_cases hk : k = f
    · rw [if_pos hk, List.length_cons, List.length_cons]; omega
    · rw [if_neg hk, List.length_cons, List.length_cons]; omega

theorem RelO.some_of {v : V} {o : Option Value} (r : RelO (some v) o) : ∃ u, o = some u ∧ RelV v u := by
  cases o with
  | none => exact (show False from r).elim
  | some u => exact ⟨u, rfl, r⟩
theorem RelO.none_of {o : Option Value} (r : RelO none o) : o = none := by
  cases o with
  | none => rfl
  | some u => exact (show False from r).elim
theorem handed_of {v : V} {u : Value} (r : RelV v u) : PySem.W.handedIn u = true := by
  cases v with
  | non => cases (show u = Value.none from r); rfl
  | bl b => cases (show u = Value.bool b from r); rfl
  | int i => obtain ⟨t, e⟩ := (show ∃ t, u = Value.int i t from r); cases e; rfl
  | str x => obtain ⟨t, e⟩ := (show ∃ t, u = Value.str x t from r); cases e; rfl
  | byt b => obtain ⟨t, e⟩ := (show ∃ t, u = Value.bytes b t from r); cases e; rfl
  | flt b => obtain ⟨t, e⟩ := (show ∃ t, u = Value.float b t from r); cases e; rfl
  | ref a => cases (show u = Value.ref a from r); rfl
  | ty n => cases (show u = Value.type n from r); rfl

section
variable {P : Program} {w : World} {H H' : Hp} {h h' : Heap} {a C dx : Addr} {fs fs' : List (Str × V)}
theorem ins_get (hok : HOk P w H h) (e : H a = some (.ins C dx fs)) : ∃ mA, ObjM h a dx C mA ∧ (∀ f, RelO (fs.lookup f) (mA f)) ∧ PySem.Within mA (fs.map (·.1)) ∧ fs.length ≤ 1000 ∧ H dx = some (.own a) := by
  obtain ⟨d, z, ne, ob, mA, n, r, q⟩ := (show ObjOk P w H h a (.ins C dx fs) from hok a _ e)
  exact ⟨mA, ⟨ob, n, ne⟩, r, q, z, d⟩
end

/-! ### what of the text a class must have -/
structure Cls (K : PySem.W.Frag) (C : Addr) : Prop where
  pg : PySem.W.plainGet K C Str.empty = true
  hd : PySem.W.hasDictIn K C = true
  po : PySem.W.plainOver K C = true
  sa : PySem.W.findIn K (.ref C) "__setattr__" = some (some (.builtin "object.__setattr__"))
theorem Cls.get {K : PySem.W.Frag} {C : Addr} (c : Cls K C) (f : Str) : PySem.W.plainGet K C f = true := c.pg
/-- no class of it has the name -/
def NoAttr (K : PySem.W.Frag) (C : Addr) (f : Str) : Prop := PySem.W.findIn K (.ref C) f = some none
theorem NoAttr.taker {K : PySem.W.Frag} {C : Addr} {f : Str} (n : NoAttr K C f) : PySem.W.takerIn K C f = some none := by
  unfold PySem.W.takerIn
  rw [show PySem.W.findIn K (.ref C) f = some none from n]
  rfl
section
variable {X : Cx} {pins : List (Addr × Obj)} {σ : St} {H : Hp} {s : Shared} {a C dx : Addr} {fs : List (Str × V)} {f : Str} {v : V} {A : Around} {E : Value → Shared → Prop}

theorem getattr_ok {b : Bool} {Q : Value → Shared → Prop} (I : Inv X pins σ H s) (e : H a = some (.ins C dx fs)) (c : Cls X.K C) (n : NoAttr X.K C f) (l : fs.lookup f = some v)
    (h : ∀ u s', Inv X pins σ H s' → RelV v u → Q u s') : wpAny (model X.prog X.w) A (getAttr (.ref a) f b) Q E s := by
  obtain ⟨mA, O, r, _, _, _⟩ := ins_get I.hok e
  obtain ⟨u, hu, ru⟩ := RelO.some_of (v := v) (o := mA f) (by rw [← l]; exact r f)
  exact get_map I.kIn O (c.get f) c.hd n hu (handed_of ru) (h u _ (I.tok _) ru)

theorem setattr_ok {y : V} {u : Value} {Q : Unit → Shared → Prop} (I : Inv X pins σ H s) (e : H a = some (.ins C dx fs)) (c : Cls X.K C) (n : NoAttr X.K C f) (hl : fs.length < 1000) (ry : RelV y u)
    (h : ∀ s', Inv X pins σ (upd H a (.ins C dx (putF f y fs))) s' → Q () s') : wpAny (model X.prog X.w) A (setAttr (.ref a) f u) Q E s := by
  obtain ⟨mA, O, r, wi, _, ho⟩ := ins_get I.hok e
  have hz : (fs.map (·.1)).length ≤ sizeLine := by rw [List.length_map, sizeLine_eq]; omega
  refine set_map I.kIn O c.sa c.po n.taker c.hd wi hz fun h' O' sb => h _ ?_
  have hd : ∃ o, h'.get? dx = some o := let ⟨o, _, _, e', _⟩ := O'.ns; ⟨o, e'⟩
  refine I.write (x := a) (e := dx) (by rw [e]; exact True.intro) (.inr ho) (fun b q hb z => (sb.2 b hb).trans z) hd ?_
  refine ⟨by rw [upd_ne O.ne]; exact ho, ?_, O.ne, O'.obj, _, O'.ns, fun g => ?_, fun g hg => ?_⟩
  · have := length_putF f y fs; omega
  · show RelO ((putF f y fs).lookup g) (if g = f then some u else mA g)
    rw [lookup_putF]
    by_cases q : g = f
    · rw [if_pos q, if_pos q]; exact ry
    · rw [if_neg q, if_neg q]; exact r g
  · by_cases q : g = f
    · rw [q]; exact (keys_putF f y fs).1
    · refine (keys_putF f y fs).2 g (wi g fun z => hg ?_)
      show (if g = f then some u else mA g) = none
      rw [if_neg q]; exact z

/-- a new instance, tracked, without attributes -/
theorem Inv.made (I : Inv X pins σ H s) : Inv X pins σ (upd (upd H s.heap.objs.size (.own (s.heap.objs.size + 1))) (s.heap.objs.size + 1) (.ins C s.heap.objs.size []))
    { s with heap := (s.heap.push PySem.W.emptyDict).push (PySem.W.instObj C s.heap.objs.size) } := by
  have e1 : (s.heap.push PySem.W.emptyDict).get? s.heap.objs.size = some PySem.W.emptyDict := Heap.get?_push_size s.heap rfl
  have e2 : ((s.heap.push PySem.W.emptyDict).push (PySem.W.instObj C s.heap.objs.size)).get? (s.heap.objs.size + 1) = some (PySem.W.instObj C s.heap.objs.size) := by
    have := Heap.get?_push_size (s.heap.push PySem.W.emptyDict) (o := PySem.W.instObj C s.heap.objs.size) rfl
    rwa [Heap.size_push] at this
  have e3 : (s.heap.push PySem.W.emptyDict).Ns s.heap.objs.size (fun _ => none) := ⟨PySem.W.emptyDict, #[], _, e1, rfl, (fun e he => absurd he (by simp)), fun _ => rfl⟩
  have I1 := I.laid (a := s.heap.objs.size) (o := .own (s.heap.objs.size + 1)) (h' := s.heap.push PySem.W.emptyDict) (t' := s.toks) (fun b u q => Heap.get?_push_of_some _ q) (Nat.le_refl _) ⟨_, e1⟩
  refine I1.laid (a := s.heap.objs.size + 1) (o := .ins C s.heap.objs.size []) (t' := s.toks) (fun b u q => Heap.get?_push_of_some _ q) (Nat.le_of_eq (Heap.size_push _ _)) ?_
  have ne : s.heap.objs.size ≠ s.heap.objs.size + 1 := Nat.ne_of_lt (Nat.lt_succ_self _)
  refine ⟨by rw [upd_ne ne, upd_same], Nat.zero_le _, ne, e2, fun _ => none, (Heap.Ns1.of_empty e3).at fun o q => Heap.get?_push_of_some _ q, fun _ => True.intro, fun y hy => absurd rfl hy⟩

/-- e.f where nothing but the object is asked: through attributeBase (super) and the last hold -/
theorem attr_of {prog : Program} {w : World} {env : Env} {e : Expr} {f : Str} {pos : Pos} {s : Shared} {Q : Value → Shared → Prop} (hb : attributeBase e f env (eval e env) = eval e env)
    (h : wpAny (model prog w) A (eval e env) (fun o s₁ => wpAny (model prog w) A (getAttr o f true) Q E s₁) E s) : wpAny (model prog w) A (eval (.Attribute e f pos) env) Q E s :=
  Attribute_any_ h (by rw [arm_eval_Attribute, hb])
end

/-! ### readings and rules -/
/-- e.f, an attribute of the instance -/
def tFld (K : PySem.W.Frag) (ta : TE) (f : Str) : TE := fun σ H Q => ta σ H fun x H1 => ∃ a C dx fs v, x = .ref a ∧ H1 a = some (.ins C dx fs) ∧ Cls K C ∧ NoAttr K C f ∧ fs.lookup f = some v ∧ Q v H1
/-- e.f = value -/
def sFld (K : PySem.W.Frag) (ta tv : TE) (f : Str) : TS := fun D σ H => tv σ H fun y H1 => ta σ H1 fun x H2 => ∃ a C dx fs, x = .ref a ∧ H2 a = some (.ins C dx fs) ∧ Cls K C ∧ NoAttr K C f ∧ fs.length < 1000 ∧
  D.nx σ (upd H2 a (.ins C dx (putF f y fs)))
section
variable {X : Cx} {o e value : Expr} {f : Str} {pos pos' tpos : Pos} {ta tv : TE}
theorem pe_fld (he : PE X e ta) (hb : attributeBase e f X.env (eval e X.env) = eval e X.env) : PE X (.Attribute e f pos) (tFld X.K ta f) := by
  intro pins s σ H Q I h
  refine attr_of hb (thn (he pins s σ H _ I h) fun u s1 ⟨x, H1, I1, rx, a, C, dx, fs, v, ex, ea, c, n, l, q⟩ => ?_)
  subst ex
  obtain rfl : u = Value.ref a := rx
  exact getattr_ok I1 ea c n l fun u' s2 I2 ru => ⟨v, H1, I2, ru, q⟩
theorem ps_fld (ha : PE X o ta) (hv : PE X value tv) (hs : swapsWith value (some (.Attribute o f pos')) pos.line X.env = pure false) : PS X (.Assign [.Attribute o f pos'] value pos) (sFld X.K ta tv f) := by
  intro pins s σ H D I h
  refine plainObj_wpAny_Assign_Attribute (thn (hv pins s σ H _ I h) fun u s1 ⟨y, H1, I1, ry, q⟩ => thn (ha pins s1 σ H1 _ I1 q) fun ov s2 ⟨x, H2, I2, rx, a, C, dx, fs, ex, ea, c, n, l, q2⟩ => ?_) hs
  subst ex
  obtain rfl : ov = Value.ref a := rx
  exact setattr_ok I2 ea c n l ry fun s3 I3 => ⟨σ, _, I3, q2⟩
end

/-! ### isinstance -/
section
variable {X : Cx} {pins : List (Addr × Obj)} {σ : St} {H : Hp} {s : Shared} {A : Around} {E : Value → Shared → Prop} {Q : Value → Shared → Prop} {c : Value} {b : Bool}
/-- the type of a value, as the fragment's deciders take it; for an instance its class -/
inductive TyOf (K : PySem.W.Frag) (H : Hp) : V → Value → Prop where
  | non : TyOf K H .non (.type "NoneType")
  | bl (x : Bool) : TyOf K H (.bl x) (.type "bool")
  | int (i : Int) : TyOf K H (.int i) (.type "int")
  | str (x : Str) : TyOf K H (.str x) (.type "str")
  | flt (x : UInt64) : TyOf K H (.flt x) (.type "float")
  | lst {a : Addr} {xs : List V} (e : H a = some (.lst xs)) : TyOf K H (.ref a) (.type "list")
  | frz {a : Addr} {o : Obj} {xs : List V} (e : H a = some (.frz o (.lst xs))) : TyOf K H (.ref a) (.type "list")
  | tup {a : Addr} {xs : List V} (e : H a = some (.tup xs)) : TyOf K H (.ref a) (.type "tuple")
  | dK {a : Addr} {kvs : List (Key × V)} (e : H a = some (.dK kvs)) : TyOf K H (.ref a) (.type "dict")
  | dT {a : Addr} {kvs : List (List Key × V)} (e : H a = some (.dT kvs)) : TyOf K H (.ref a) (.type "dict")
  | ins {a C dx : Addr} {fs : List (Str × V)} (e : H a = some (.ins C dx fs)) (cl : Cls K C) (ha : PySem.W.findIn K (.ref C) "__class__" = some (some (.builtin "object.__class__")))
      (hn : PySem.W.specialIn K (.builtin "object.__class__") "__get__" = some (some (.builtin "getset_descriptor.__get__"))) (htk : PySem.W.takesIn K (.builtin "object.__class__") = some true)
      (hm : PySem.W.mroIn K C (.type "object") = some true) : TyOf K H (.ref a) (.ref C)
/-- isinstance(x, c) for one class c, a built-in or an own one: kitOne's answer -/
theorem isinst_ok {x : V} {u t : Value} (I : Inv X pins σ H s) (rx : RelV x u) (ty : TyOf X.K H x t) (e : PySem.W.kitOne X.K t c = some b) (h : ∀ tk, Q (.bool b) { s with toks := tk }) :
    wpAny (model X.prog X.w) A (call (.builtin "isinstance") [u, c]) Q E s := by
  cases ty with
  | non => cases (show u = Value.none from rx); exact PySem.W.kia_one PySem.W.kitx_none I.kIn True.intro e (fun z => nomatch z) h
  | bl y => cases (show u = Value.bool y from rx); exact PySem.W.kia_one PySem.W.kitx_bool I.kIn True.intro e (fun z => nomatch z) h
  | int i => obtain ⟨t, q⟩ := (show ∃ t, u = Value.int i t from rx); cases q; exact PySem.W.kia_one PySem.W.kitx_int I.kIn True.intro e (fun z => nomatch z) h
  | str y => obtain ⟨t, q⟩ := (show ∃ t, u = Value.str y t from rx); cases q; exact PySem.W.kia_one PySem.W.kitx_str I.kIn True.intro e (fun z => nomatch z) h
  | flt y => obtain ⟨t, q⟩ := (show ∃ t, u = Value.float y t from rx); cases q; exact PySem.W.kia_one PySem.W.kitx_float I.kIn True.intro e (fun z => nomatch z) h
  | @lst a xs ea =>
    cases (show u = Value.ref a from rx)
    obtain ⟨_, _, n, _, h1⟩ := (show ObjOk X.prog X.w H s.heap a (.lst xs) from I.hok a _ ea)
    exact PySem.W.kia_one PySem.W.kitx_list I.kIn ⟨_, h1, rfl⟩ e (fun z => nomatch z) h
  | @frz a ob xs ea =>
    cases (show u = Value.ref a from rx)
    obtain ⟨_, _, _, n, _, h1⟩ := (show ObjOk X.prog X.w H s.heap a (.frz ob (.lst xs)) from I.hok a _ ea)
    exact PySem.W.kia_one PySem.W.kitx_list I.kIn ⟨_, h1, rfl⟩ e (fun z => nomatch z) h
  | @tup a xs ea =>
    cases (show u = Value.ref a from rx)
    obtain ⟨_, _, _, p⟩ := (show ObjOk X.prog X.w H s.heap a (.tup xs) from I.hok a _ ea)
    obtain ⟨o, h1, h2, _⟩ := p
    exact PySem.W.kia_one PySem.W.kitx_tuple I.kIn ⟨o, h1, h2⟩ e (fun z => nomatch z) h
  | @dK a kvs ea =>
    cases (show u = Value.ref a from rx)
    obtain ⟨_, _, vs, _, p⟩ := (show ObjOk X.prog X.w H s.heap a (.dK kvs) from I.hok a _ ea)
    obtain ⟨o, es, ep, h1, h2, _⟩ := p
    exact PySem.W.kia_one PySem.W.kitx_dict I.kIn ⟨o, h1, h2.1⟩ e (fun z => nomatch z) h
  | @dT a kvs ea =>
    cases (show u = Value.ref a from rx)
    obtain ⟨_, _, xs, _, o, es, ep, h1, h2, _⟩ := (show ObjOk X.prog X.w H s.heap a (.dT kvs) from I.hok a _ ea)
    exact PySem.W.kia_one PySem.W.kitx_dict I.kIn ⟨o, h1, h2.1⟩ e (fun z => nomatch z) h
  | @ins a C dx fs ea cl ha hn htk hm =>
    cases (show u = Value.ref a from rx)
    obtain ⟨mA, O, _⟩ := ins_get I.hok ea
    obtain ⟨od, J, _⟩ := O.look
    exact PySem.W.kia_one (PySem.W.kitx_own (cl.get _) cl.hd ha hn htk hm) I.kIn J e (fun z => nomatch z) h
end
end L2

namespace L2
open PySem PySem.Spec PyProof.Rows

/-! ### room -/
structure Room (k : Nat) (A : Around) : Prop where
  hd : A.handled = none
  dp : A.depth + 3 * k + 5 < recursionLimit
  un : A.units + 16 * k + 200 < cLine
theorem Room.mono {j k : Nat} {A : Around} (r : Room k A) (h : j ≤ k) : Room j A := ⟨r.hd, by have := r.dp; omega, by have := r.un; omega⟩
theorem Room.deeper {k : Nat} {A : Around} (r : Room (k + 1) A) (env : Env) : Room k (A.deeper env) :=
  ⟨r.hd, by have := r.dp; show A.depth + 1 + 3 * k + 5 < _; omega, by have := r.un; show A.units + 3 + 16 * k + 200 < _; omega⟩
theorem make_depth {A : Around} {C : Addr} {us : List Value} {kw : List (Str × Value)} : (A.under (.builtin "type.__call__" ⟨.ref C :: us, kw⟩)).depth = A.depth + 1 := by
  first | rfl | simp [Around.under, Code.weight, Code.isCreation, Code.isGuard, Code.isCaller, Code.frames, Code.isFrame, guardIds]
theorem make_units {A : Around} {C : Addr} {us : List Value} {kw : List (Str × Value)} : (A.under (.builtin "type.__call__" ⟨.ref C :: us, kw⟩)).units = A.units + 1 := by
  first | rfl | simp [Around.under, Code.cUnits, Code.frames, Code.isFrame]
theorem Room.make {k : Nat} {A : Around} (r : Room (k + 1) A) (C : Addr) (us : List Value) (kw : List (Str × Value)) : Room k (A.under (.builtin "type.__call__" ⟨.ref C :: us, kw⟩)) :=
  ⟨r.hd, by have := r.dp; rw [make_depth]; omega, by have := r.un; rw [make_units]; omega⟩
theorem Room.depth {k : Nat} {A : Around} (r : Room k A) : A.depth < recursionLimit := by have := r.dp; omega
theorem Room.units {k : Nat} {A : Around} (r : Room k A) : A.units + 64 < cLine := by have := r.un; omega
/-! ### argument lists and displays -/
def tNil : TA := fun _ H Q => Q [] H
def tCons (ta : TE) (tr : TA) : TA := fun σ H Q => ta σ H fun x H1 => tr σ H1 fun xs H2 => Q (x :: xs) H2
section
variable {X : Cx} {e : Expr} {es : List Expr} {te : TE} {t : TA} {pos : Pos}
theorem pa_nil : PA X [] tNil := fun _ _ _ _ H Q I h => Calls.spliced_nil ⟨[], H, I, .nil, h⟩
theorem pa_cons (ha : PE X e te) (hr : PA X es t) (hs : starEach (e :: es) X.env = (false, eval e X.env) :: starEach es X.env := by rfl) : PA X (e :: es) (tCons te t) := by
  intro pos pins s σ H Q I h
  rw [hs]
  show wpAny _ _ (spliced ((false, eval e X.env) :: backTo pos (starEach es X.env))) _ _ s
  refine Calls.spliced_cons (thn (ha pins s σ H _ I h) fun u s1 ⟨x, H1, I1, r1, q1⟩ => ?_)
  exact thn (hr pos pins s1 σ H1 _ I1 q1) fun us s2 ⟨xs, H2, I2, r2, q2⟩ => ⟨x :: xs, H2, I2, .cons r1 r2, q2⟩

/-- a tuple, a list of written items -/
def tTup (t : TA) : TE := fun σ H Q => t σ H fun xs H1 => xs.length ≤ sizeLine ∧ ∀ p, H1 p = none → Q (.ref p) (upd H1 p (.tup xs))
def tLst (t : TA) : TE := fun σ H Q => t σ H fun xs H1 => xs.length ≤ sizeLine ∧ ∀ p, H1 p = none → Q (.ref p) (upd H1 p (.lst xs))
theorem pe_tup {x1} (h : PA X es t) : PE X (.Tuple es x1 pos) (tTup t) := by
  intro pins s σ H Q I hq
  refine wpAny_Tuple_spliced (thn (h pos pins s σ H _ I hq) fun us s1 ⟨xs, H1, I1, r, z, q⟩ => ⟨by rw [← r.length]; exact z, ?_⟩)
  have hf : H1 s1.heap.objs.size = none := I1.hok.fresh (Nat.le_refl _)
  refine ⟨.ref s1.heap.objs.size, upd H1 s1.heap.objs.size (.tup xs), I1.laid (t' := s1.toks) (fun b u e => Heap.get?_push_of_some _ e) (Nat.le_refl _) ?_, rfl, q _ hf⟩
  exact ⟨z, us, r, ⟨_, Heap.get?_push_size _ rfl, rfl, _, rfl⟩⟩
theorem pe_lst (h : PA X es t) : PE X (.List es pos) (tLst t) := by
  intro pins s σ H Q I hq
  refine wpAny_List_spliced (thn (h pos pins s σ H _ I hq) fun us s1 ⟨xs, H1, I1, r, z, q⟩ => ⟨by rw [← r.length]; exact z, ?_⟩)
  have hf : H1 s1.heap.objs.size = none := I1.hok.fresh (Nat.le_refl _)
  refine ⟨.ref s1.heap.objs.size, upd H1 s1.heap.objs.size (.lst xs), I1.laid (t' := s1.toks) (fun b u e => Heap.get?_push_of_some _ e) (Nat.le_refl _) ?_, rfl, q _ hf⟩
  exact ⟨z, us, 0, r, Heap.get?_push_size _ rfl⟩
end

/-! ### what a def promises -/
/-- a def's promise: the bound arguments in the parameters' order, the heap, the wanted end, the wanted exception -/
abbrev Sp := List V → Hp → VK → XK → Prop
/-- how an exception lies behind a call (file 08 gives it): the callers' frames, abstract heap and state ahead of the call, the wish, the exception, the state -/
abbrev CXT := List Env → Hp → Shared → XK → Value → Shared → Prop

/-- the state at a call -/
structure Env0 (P : Program) (w : World) (K : PySem.W.Frag) (mg : Str → Option Value) (base : Heap) (A : Around) (outer : List Env) (s : Shared) (H : Hp) : Prop where
  frames : A.frames = some outer
  mod : Mod K mg base
  bs : ∀ b o, base.get? b = some o → s.heap.get? b = some o ∧ H b = none
  bsz : base.objs.size ≤ s.heap.objs.size
  funs : s.heap.FunFrames base outer
  frf : ∀ b ∈ frs outer, H b = none
  hok : HOk P w H s.heap
  bare : AllBare s.gens
/-- a call's end -/
def CE (outer : List Env) (P : Program) (w : World) (H : Hp) (s : Shared) (Q : VK) (u : Value) (s' : Shared) : Prop :=
  ∃ v H', s'.os = s.os ∧ AllBare s'.gens ∧ Un (frs outer) [] H H' s.heap s'.heap ∧ HOk P w H' s'.heap ∧ RelV v u ∧ Q v H'
def CR (CX : CXT) (outer : List Env) (P : Program) (w : World) (H : Hp) (s : Shared) (Q : VK) (E : XK) (r : Result) (s' : Shared) : Prop :=
  match r with
  | .ok (.ret u) => CE outer P w H s Q u s'
  | .ok _ => False
  | .error e => CX outer H s E e s'
structure FnOk (P : Program) (w : World) (K : PySem.W.Frag) (mg : Str → Option Value) (base : Heap) (CX : CXT) (k : Nat) (f : Addr) (fd : FuncData) (ps : List Str) (sp : Sp) : Prop where
  len : ∀ vs H Q E, sp vs H Q E → vs.length = ps.length
  run : ∀ (A : Around) (outer : List Env) (s : Shared) (H : Hp) (args : Args) (us : List Value) (vs : List V) (Q : VK) (E : XK), Room k A → Env0 P w K mg base A outer s H → BindsTo s fd args (ps.zip us) → Vals vs us → sp vs H Q E →
    codeAny (model P w) A (.call (.ref f) args) (CR CX outer P w H s Q E) s
theorem Env0.make {P : Program} {w : World} {K : PySem.W.Frag} {mg : Str → Option Value} {base : Heap} {A : Around} {outer : List Env} {s : Shared} {H : Hp} (e : Env0 P w K mg base A outer s H) (C : Addr) (us : List Value) (kw : List (Str × Value)) :
    Env0 P w K mg base (A.under (.builtin "type.__call__" ⟨.ref C :: us, kw⟩)) outer s H := ⟨by first | exact e.frames | (simpa [Around.under, Code.envs, Code.isFrame, pushEnvs] using e.frames), e.mod, e.bs, e.bsz, e.funs, e.frf, e.hok, e.bare⟩
section
variable {X : Cx} {pins : List (Addr × Obj)} {σ : St} {H : Hp} {s s' : Shared}
/-- from a body: what a callee wants -/
theorem Inv.env0 (I : Inv X pins σ H s) : Env0 X.prog X.w X.K X.mg X.base X.A X.stack s H :=
  ⟨I.ok.frames, I.ok.mod, I.bs, Nat.le_trans I.ok.bsz I.sz, I.stack, I.stkFree, I.hok, I.bare⟩
/-- behind a call -/
theorem Inv.after {Q : VK} {u : Value} (I : Inv X pins σ H s) (h : CE X.stack X.prog X.w H s Q u s') : EP X pins σ Q u s' := by
  obtain ⟨v, H', os, bare, un, hok, r, q⟩ := h
  obtain ⟨hh, g, d, t, os'⟩ := s'
  obtain rfl : os' = s.os := os
  exact ⟨v, H', I.call (h' := hh) (g' := g) (d' := d) (t' := t) (ch := []) un hok bare (fun b z => absurd z (by simp)), r, q⟩
end

/-! ### calls -/
/-- f(..): the written arguments, then the defaults dvs; E: what is wanted of an exception -/
def tCall (sp : Sp) (dvs : List V) (E : XK) (t : TA) : TE := fun σ H Q => t σ H fun vs H1 => sp (vs ++ dvs) H1 Q E
/-- C(..): a new instance and its dict, then __init__ -/
def tMake (C : Addr) (sp : Sp) (dvs : List V) (E : XK) (t : TA) : TE := fun σ H Q => t σ H fun vs H1 => ∀ x dx, H1 x = none → H1 dx = none → dx ≠ x →
  sp (.ref x :: (vs ++ dvs)) (upd (upd H1 dx (.own x)) x (.ins C dx [])) (fun v H2 => v = .non ∧ Q (.ref x) H2) E

/-- how the parameters are bound: us the positional arguments, kw the keywords' values by name, ds the defaults that fill up -/
def Binds (K : PySem.W.Frag) (fd : FuncData) (ps : List Str) (ds : List Value) : Prop :=
  ∀ (s : Shared) (us : List Value), K.In s.heap → (us ++ ds).length = ps.length → BindsTo s fd ⟨us, []⟩ (ps.zip (us ++ ds))
/-- every parameter is given -/
theorem Binds.all {K : PySem.W.Frag} {fd : FuncData} {ps : List Str} (h : ∀ us : List Value, us.length = ps.length → bindArgs fd ⟨us, []⟩ = pure (ps.zip us)) : Binds K fd ps [] := fun s us _ hl => by
  rw [List.append_nil] at hl ⊢
  exact .of_eq (h us hl)

/-- an exception of a callee reaches what this body wants of exceptions -/
def Passes (CX : CXT) (X : Cx) (E : XK) : Prop := ∀ (pins : List (Addr × Obj)) (σ : St) (H : Hp) (s : Shared) (e : Value) (s' : Shared), Inv X pins σ H s → CX X.stack H s E e s' → X.xe e s'

section
variable {X : Cx} {CX : CXT} {k : Nat} {f C : Addr} {fd : FuncData} {ps : List Str} {sp : Sp} {dvs : List V} {ds : List Value} {E : XK} {x m : Str} {p pos apos : Pos} {e o : Expr} {es : List Expr} {ta : TE} {t : TA}

/-- the callee runs -/
theorem run_fn {pins : List (Addr × Obj)} {σ : St} {H : Hp} {s : Shared} {Q : VK} {us : List Value} {vs : List V} (F : FnOk X.prog X.w X.K X.mg X.base CX k f fd ps sp) (hr : Room k X.A) (hb : Binds X.K fd ps ds) (hd : Vals dvs ds) (hx : Passes CX X E)
    (I : Inv X pins σ H s) (r : Vals vs us) (h : sp (vs ++ dvs) H Q E) : wpAny (model X.prog X.w) X.A (call (.ref f) us) (EP X pins σ Q) X.xe s := by
  have r2 : Vals (vs ++ dvs) (us ++ ds) := r.append hd
  have hl : (us ++ ds).length = ps.length := by rw [← r2.length]; exact F.len _ _ _ _ h
  refine wpAny_call (codeAny_mono (F.run X.A X.stack s H ⟨us, []⟩ (us ++ ds) (vs ++ dvs) Q E hr I.env0 (hb s us I.kIn hl) r2 h) fun r s' hq => ?_)
  cases r with
  | error e => exact hx pins σ H s e s' I hq
  | ok fl =>
    cases fl with
    | ret u => exact I.after hq
    | next => exact False.elim hq
    | brk => exact False.elim hq
    | cont => exact False.elim hq

theorem pe_call (F : FnOk X.prog X.w X.K X.mg X.base CX k f fd ps sp) (hr : Room k X.A) (hg : Gl X x) (hm : X.mg x = some (.ref f)) (hk : PySem.W.keepIn X.K (.ref f) = true) (hb : Binds X.K fd ps ds) (hd : Vals dvs ds) (hx : Passes CX X E)
    (ha : PA X (e :: es) t) (hdb : (x == ("__debug__" : Str)) = false := by decide) (he : starEach (e :: es) X.env = (false, eval e X.env) :: starEach es X.env := by rfl) (hpl : (backTo pos (starEach es X.env)).any (·.1) = false := by rfl) :
    PE X (.Call (.Name x p) (e :: es) [] pos) (tCall sp dvs E t) := by
  intro pins s σ H Q I h
  refine wpAny_Call_Name_kw (ld_glob I hg hm ?_ hdb)
  refine PySem.W.callWith_K (h₀ := X.base) I.ok.mod.kin hk (thn (ha pos pins s σ H _ I h) fun us s1 ⟨vs, H1, I1, r, q⟩ => ⟨I1.kIn, ?_⟩) he hpl
  exact run_fn F hr hb hd hx I1 r q
/-- what a class must have to be made -/
structure Mk (K : PySem.W.Frag) (C f : Addr) : Prop where
  makes : PySem.W.makesIn K C = true
  init : PySem.W.findIn K (.ref C) "__init__" = some (some (.ref f))
  fn : PySem.W.isFn K (.ref f) = true
  kp : PySem.W.keepIn K (.ref C) = true

theorem run_make {pins : List (Addr × Obj)} {σ : St} {H : Hp} {s : Shared} {Q : VK} {us : List Value} {vs : List V} (M : Mk X.K C f) (F : FnOk X.prog X.w X.K X.mg X.base CX k f fd ps sp) (hr : Room (k + 1) X.A) (hb : Binds X.K fd ps ds) (hd : Vals dvs ds)
    (hx : Passes CX X E) (I : Inv X pins σ H s) (r : Vals vs us)
    (h : ∀ x dx, H x = none → H dx = none → dx ≠ x → sp (.ref x :: (vs ++ dvs)) (upd (upd H dx (.own x)) x (.ins C dx [])) (fun v H2 => v = .non ∧ Q (.ref x) H2) E) :
    wpAny (model X.prog X.w) X.A (call (.ref C) us) (EP X pins σ Q) X.xe s := by
  have hq := h (s.heap.objs.size + 1) s.heap.objs.size (I.hok.fresh (Nat.le_succ _)) (I.hok.fresh (Nat.le_refl _)) (Nat.ne_of_lt (Nat.lt_succ_self _))
  have I2 := Inv.made (C := C) I
  have r2 : Vals (V.ref (s.heap.objs.size + 1) :: (vs ++ dvs)) (Value.ref (s.heap.objs.size + 1) :: (us ++ ds)) := .cons rfl (r.append hd)
  have hl : (Value.ref (s.heap.objs.size + 1) :: us ++ ds).length = ps.length := by
    have e := r2.length
    rw [F.len _ _ _ _ hq] at e
    exact e.symm
  refine wpAny_call (make_map (f := f) I.kIn M.makes M.init (beq_iff_eq.mp M.fn) (codeAny_mono (F.run _ X.stack _ _ ⟨Value.ref (s.heap.objs.size + 1) :: us, []⟩ (Value.ref (s.heap.objs.size + 1) :: (us ++ ds)) _ _ E (hr.make C us [])
    (I2.env0.make C us []) (hb _ (Value.ref (s.heap.objs.size + 1) :: us) I2.kIn hl) r2 hq) fun r s' hq' => ?_))
  cases r with
  | error e => exact hx pins σ _ _ e s' I2 hq'
  | ok fl =>
    cases fl with
    | ret u =>
      obtain ⟨v, H', I3, rv, ev, q3⟩ := I2.after hq'
      subst ev
      exact ⟨rv, ⟨V.ref (s.heap.objs.size + 1), H', I3, rfl, q3⟩⟩
    | next => exact False.elim hq'
    | brk => exact False.elim hq'
    | cont => exact False.elim hq'
theorem pe_make (M : Mk X.K C f) (F : FnOk X.prog X.w X.K X.mg X.base CX k f fd ps sp) (hr : Room (k + 1) X.A) (hg : Gl X x) (hm : X.mg x = some (.ref C)) (hb : Binds X.K fd ps ds) (hd : Vals dvs ds) (hx : Passes CX X E)
    (ha : PA X (e :: es) t) (hdb : (x == ("__debug__" : Str)) = false := by decide) (he : starEach (e :: es) X.env = (false, eval e X.env) :: starEach es X.env := by rfl) (hpl : (backTo pos (starEach es X.env)).any (·.1) = false := by rfl) :
    PE X (.Call (.Name x p) (e :: es) [] pos) (tMake C sp dvs E t) := by
  intro pins s σ H Q I h
  refine wpAny_Call_Name_kw (ld_glob I hg hm ?_ hdb)
  refine PySem.W.callWith_K (h₀ := X.base) I.ok.mod.kin M.kp (thn (ha pos pins s σ H _ I h) fun us s1 ⟨vs, H1, I1, r, q⟩ => ⟨I1.kIn, ?_⟩) he hpl
  exact run_make M F hr hb hd hx I1 r q
end

/-! ### keywords -/
section
variable {X : Cx} {CX : CXT} {k : Nat} {f C : Addr} {fd : FuncData} {ps ks : List Str} {sp : Sp} {E : XK} {x m : Str} {p pos apos kpos : Pos} {e o : Expr} {es : List Expr} {kws : List Keyword} {te ta : TE} {t tk : TA} {nm : Option Str}
variable {g : List Value → List Value → List Value} {gV : List V → List V → List V}
end

/-! ### a def's body keeps its promise -/
/-- names: the parameters first -/
structure FnScope (N P : List Str) (sc : Scope) : Prop where
  kind : sc.kind = .function
  co : sc.isCoroutine = false
  gen : sc.isGenerator = false
  nd : N.Nodup
  pre : N.take P.length = P
  par : ∀ x ∈ P, sc.names.lookup x = some .local ∨ sc.names.lookup x = some .cell
  nofree : ∀ y ∈ sc.names, y.2 ≠ .free

theorem bindL_out {kindOf : Str → Option NameKind} {x : Str} : ∀ {binds : List (Str × Value)} {m : Str → Option Value}, (∀ v, (x, v) ∉ binds) → bindL kindOf binds m x = m x
  | [], _, _ => rfl
  | (n, v) :: r, m, h => by
    unfold bindL
    rw [bindL_out fun w hw => h w (List.mem_cons_of_mem _ hw)]
    split
    · have : x ≠ n := by rintro rfl; exact h v List.mem_cons_self
      simp [this]
    · rfl
theorem bindC_out {kindOf : Str → Option NameKind} {x : Str} : ∀ {binds : List (Str × Value)} {m : Str → Option Value}, (∀ v, (x, v) ∉ binds) → bindC kindOf binds m x = m x
  | [], _, _ => rfl
  | (n, v) :: r, m, h => by
    unfold bindC
    rw [bindC_out fun w hw => h w (List.mem_cons_of_mem _ hw)]
    split
    · rfl
    · have : x ≠ n := by rintro rfl; exact h v List.mem_cons_self
      simp [this]
theorem bindL_get {kindOf : Str → Option NameKind} {x : Str} {v : Value} : ∀ {P : List Str} {vs : List Value} {i : Nat} {m : Str → Option Value}, P.Nodup → P[i]? = some x → vs[i]? = some v → kindOf x = some .local →
    bindL kindOf (P.zip vs) m x = some v
  | [], _, _, _, _, h, _, _ => by simp at h
  | _ :: _, [], _, _, _, _, h, _ => by simp at h
  | p :: P, w :: vs, 0, m, nd, h1, h2, hk => by
    simp at h1 h2; subst h1; subst h2
    show bindL kindOf ((p, w) :: P.zip vs) m p = _
    unfold bindL
    rw [bindL_out fun v hv => (List.nodup_cons.mp nd).1 (List.of_mem_zip hv).1, if_pos hk]
    simp
  | p :: P, w :: vs, i + 1, m, nd, h1, h2, hk => by
    show bindL kindOf ((p, w) :: P.zip vs) m x = _
    unfold bindL
    exact bindL_get (i := i) (List.nodup_cons.mp nd).2 (by simpa using h1) (by simpa using h2) hk
theorem bindC_get {kindOf : Str → Option NameKind} {x : Str} {v : Value} : ∀ {P : List Str} {vs : List Value} {i : Nat} {m : Str → Option Value}, P.Nodup → P[i]? = some x → vs[i]? = some v → kindOf x ≠ some .local →
    bindC kindOf (P.zip vs) m x = some v
  | [], _, _, _, _, h, _, _ => by simp at h
  | _ :: _, [], _, _, _, _, h, _ => by simp at h
  | p :: P, w :: vs, 0, m, nd, h1, h2, hk => by
    simp at h1 h2; subst h1; subst h2
    show bindC kindOf ((p, w) :: P.zip vs) m p = _
    unfold bindC
    rw [bindC_out fun v hv => (List.nodup_cons.mp nd).1 (List.of_mem_zip hv).1, if_neg hk]
    simp
  | p :: P, w :: vs, i + 1, m, nd, h1, h2, hk => by
    show bindC kindOf ((p, w) :: P.zip vs) m x = _
    unfold bindC
    exact bindC_get (i := i) (List.nodup_cons.mp nd).2 (by simpa using h1) (by simpa using h2) hk

/-- the names' values at the entry -/
def start (N : List Str) (vs : List V) : St := vs.map some ++ List.replicate (N.length - vs.length) none

/-- the context of a def's body, at its entry; an exception leaves the frame, then lies as CX says -/
def cxOf (CX : CXT) (P : Program) (w : World) (K : PySem.W.Frag) (mg : Str → Option Value) (base : Heap) (N : List Str) (qual : Str) (scope : Scope) (f : Addr) (cd : Value) (A : Around) (outer : List Env) (s : Shared) (H : Hp) (E : XK) : Cx where
  prog := P
  w := w
  K := K
  mg := mg
  base := base
  A := A.deeper (envOfC qual scope s.heap.objs.size f cd)
  N := N
  s₀ := s
  H₀ := H
  env := envOfC qual scope s.heap.objs.size f cd
  outer := outer
  stack := envOfC qual scope s.heap.objs.size f cd :: outer
  ex := []
  calm := true
  fn := fun _ => true
  pn := []
  xe := fun e s' => wpAny (model P w) (A.deeper (envOfC qual scope s.heap.objs.size f cd)) (leaving (envOfC qual scope s.heap.objs.size f cd) e) (fun _ s'' => CX outer H s E e s'') (fun e' s'' => CX outer H s E e' s'') s'

theorem cell_has {sc : Scope} {n : Nat} {x : Str} (h : sc.names.lookup x = some .cell) : ∃ c, (cellsFrom n sc.names []).lookup x = some c := by
  have q := PySem.W.cellsFrom_some sc.names n [] (.inl h)
  exact Option.isSome_iff_exists.mp q

theorem inv_start {CX : CXT} {P : Program} {w : World} {K : PySem.W.Frag} {mg : Str → Option Value} {base : Heap} {N ps : List Str} {qual : Str} {scope : Scope} {f : Addr} {cd : Value} {A : Around} {outer : List Env} {s s1 : Shared} {H : Hp} {E : XK} {us : List Value} {vs : List V}
    (S : FnScope N ps scope) (hd : A.handled = none) (e0 : Env0 P w K mg base A outer s H) (hl : vs.length = ps.length) (r : Vals vs us)
    (x : InCallC s s.heap.objs.size (bindL (envOfC qual scope s.heap.objs.size f cd).kindOf (ps.zip us) fun _ => none) (cellsFrom (s.heap.objs.size + 1) scope.names []) (bindC (envOfC qual scope s.heap.objs.size f cd).kindOf (ps.zip us) fun _ => none) s1) :
    Inv (cxOf CX P w K mg base N qual scope f cd A outer s H E) [] (start N vs) H s1 := by
  have hpl : ps.length ≤ N.length := by have := congrArg List.length S.pre; rw [List.length_take] at this; omega
  obtain ⟨h1, tk, rfl, hk⟩ := x.done
  have noA : ∀ b : Addr, b ∉ (cxOf CX P w K mg base N qual scope f cd A outer s H E).ex := fun b z => absurd (show b ∈ ([] : List Addr) from z) (by simp)
  refine ⟨⟨e0.mod, S.kind, rfl, rfl, Nat.le_refl _, fun y z c h1 h2 => ?_, fun y hy => ?_, fun y c _ h => ?_, fun _ => hd, Around.frames_deeper e0.frames, .inr ⟨rfl, rfl⟩, fun b z => absurd z (noA b), e0.bs, e0.bsz, fun b _ _ => noA b, fun b z => absurd z (noA b), e0.funs, e0.frf⟩,
    rfl, e0.bare, Un.kept hk, ⟨_, x.toInCall.ns, fun i y v h1 h2 h3 => ?_⟩, fun y c h => ⟨_, x.cell y c h⟩, e0.hok.fresh (Nat.le_refl _), fun y c h => ?_, fun p hp => absurd (show p ∈ ([] : List (Addr × Obj)) from hp) (by simp), e0.hok.kept hk, ?_⟩
  · exact name_of_addr x.apart (PySem.mem_of_lookup h1) (PySem.mem_of_lookup h2)
  · have hy : scope.names.lookup y = some .cell ∨ scope.names.lookup y = some .free := hy
    rcases hy with hy | hy
    · exact cell_has hy
    · exact absurd rfl (S.nofree _ (PySem.mem_of_lookup hy))
  · exact Nat.le_of_lt (x.above y c (PySem.mem_of_lookup h))
  · have hi : i < vs.length := by
      unfold start at h2
      by_cases hi : i < vs.length
      · exact hi
      · rw [List.getElem?_append_right (by simpa using hi)] at h2
        rw [List.getElem?_replicate] at h2
        split at h2 <;> cases h2
    have ha : vs[i]? = some v := by
      unfold start at h2
      rw [List.getElem?_append_left (by simpa using hi), List.getElem?_map] at h2
      cases e : vs[i]? with
      | none => rw [e] at h2; cases h2
      | some a => rw [e] at h2; cases h2; rfl
    obtain ⟨u, hu, rv⟩ := r.get ha
    have hp : ps[i]? = some y := by
      rw [← S.pre, List.getElem?_take_of_lt (by omega)]; exact h1
    have ndP : ps.Nodup := by rw [← S.pre]; exact S.nd.sublist (List.take_sublist _ _)
    refine ⟨u, rv, ?_⟩
    rcases S.par y (List.mem_of_getElem? hp) with k | k
    · exact .inl ⟨k, bindL_get ndP hp hu k⟩
    · obtain ⟨c, e⟩ := cell_has (n := s.heap.objs.size + 1) k
      refine .inr ⟨.inl k, c, e, ?_⟩
      have q := x.cell y c e
      rw [bindC_get ndP hp hu (by show scope.names.lookup y ≠ _; rw [k]; decide)] at q
      exact q
  · exact e0.hok.fresh (Nat.le_of_lt (x.above y c (PySem.mem_of_lookup h)))
  · unfold start
    show _ = N.length
    rw [List.length_append, List.length_map, List.length_replicate]
    omega

/-- THE RULE: a def (or a method) of the text, by its body. The body's reading t is chosen for each entry; it is run at the parameters' values -/
theorem fn_of {CX : CXT} {P : Program} {w : World} {K : PySem.W.Frag} {mg : Str → Option Value} {base : Heap} {k : Nat} {f : Addr} {name qual : Str} {params : Arguments} {body : List Stmt} {scope : Scope} {dV kV doc pm cdv ct oc : Value} {an od : Option Addr}
    {osl : Array (Option Value)} {N ps : List Str} {sp : Sp} (lk : K.lookup f = some ⟨oc, od, .func (PySem.W.fnOf name qual params body scope dV kV doc pm an cdv ct), osl⟩) (hcd : PySem.W.codeIn K cdv qual = true) (S : FnScope N ps scope)
    (len : ∀ vs H Q E, sp vs H Q E → vs.length = ps.length)
    (hbody : ∀ (A : Around) (outer : List Env) (s : Shared) (H : Hp) (vs : List V) (Q : VK) (E : XK), Room k (A.deeper (envOfC qual scope s.heap.objs.size f cdv)) → sp vs H Q E →
      ∃ t, PSs (cxOf CX P w K mg base N qual scope f cdv A outer s H E) body t ∧ t { nx := fun _ H' => Q .non H', rt := Q } (start N vs) H) :
    FnOk P w K mg base CX (k + 1) f (PySem.W.fnOf name qual params body scope dV kV doc pm an cdv ct) ps sp := by
  refine ⟨len, fun A outer s H args us vs Q E hr e0 hb r hsp => ?_⟩
  have hl := len _ _ _ _ hsp
  have KX : K.In s.heap := e0.mod.kin.keeps fun b o e => (e0.bs b o e).1
  have lim : s.heap.NoLimit := e0.mod.nolimit.keeps fun b o e => (e0.bs b o e).1
  have hkind : ∀ y ∈ ps.zip us, scope.names.lookup y.1 = some .local ∨ (scope.names.lookup y.1 = some .cell ∧ ((cellsFrom (s.heap.objs.size + 1) scope.names []).lookup y.1).isSome = true) := fun ⟨n, v⟩ hy => by
    rcases S.par n (List.of_mem_zip hy).1 with q | q
    · exact .inl q
    · exact .inr ⟨q, PySem.W.cellsFrom_some _ _ _ (.inl q)⟩
  refine codeAny_call_function hr.depth (KX _ _ lk) rfl S.co S.gen rfl (PySem.W.codeRec_of KX hcd) (hb _ _ _ _ ?_)
  refine wpAny_newFunctionEnv_cells S.kind hkind fun env he s1 x => ?_
  subst he
  refine ⟨lim.keeps x.toInCall.keep, codeAny_func ?_⟩
  obtain ⟨t, ht, hq⟩ := hbody A outer s H vs Q E (hr.deeper _) hsp
  have I : Inv (cxOf CX P w K mg base N qual scope f cdv A outer s H E) [] (start N vs) H s1 := inv_start S hr.hd e0 hl r x
  refine wpAny_mono (ht [] s1 (start N vs) H _ I hq) (fun fl s' hs => ?_) fun e s' hs => hs
  have fin : ∀ {σ' : St} {H' : Hp} {v : V} {u : Value}, Inv (cxOf CX P w K mg base N qual scope f cdv A outer s H E) [] σ' H' s' → RelV v u → Q v H' → CE outer P w H s Q u s' :=
    fun {σ' H' v u} J rv q => ⟨v, H', J.os, J.bare, J.base, J.hok, rv, q⟩
  cases fl with
  | ret u =>
    obtain ⟨v, σ', H', J, rv, q⟩ := hs
    exact fin J rv q
  | next =>
    obtain ⟨σ', H', J, q⟩ := hs
    exact fin (v := V.non) (u := Value.none) J rfl q
  | brk =>
    obtain ⟨_, _, _, q⟩ := hs
    exact False.elim q
  | cont =>
    obtain ⟨_, _, _, q⟩ := hs
    exact False.elim q
end L2

namespace L2
open PySem PySem.Spec PyProof.Rows
section
variable {X : Cx} {x : Str} {p pos : Pos} {e : Expr} {es : List Expr} {t : TA} {id T : String} {r : List V → Hp → VK → Prop}

def tCB (r : List V → Hp → VK → Prop) (t : TA) : TE := fun σ H Q => t σ H fun vs H1 => r vs H1 Q
/-- f(e, ..), f a built-in function -/
theorem pe_callB (hc : CallR X (.builtin id) r) (hg : Gl X x) (hm : X.mg x = none) (hv : bootBuiltins x = some (.builtin id)) (ha : PA X (e :: es) t) (hn : x ≠ "__name__" := by decide) (hdb : (x == ("__debug__" : Str)) = false := by decide)
    (he : starEach (e :: es) X.env = (false, eval e X.env) :: starEach es X.env := by rfl) (hpl : (backTo pos (starEach es X.env)).any (·.1) = false := by rfl) : PE X (.Call (.Name x p) (e :: es) [] pos) (tCB r t) := by
  intro pins s σ H Q I h
  refine wpAny_Call_Name_kw (ld_blt I hg hm hv ?_ hn hdb)
  exact PyProof.Rows.callWith_builtin1 (thn (ha pos pins s σ H _ I h) fun us s1 ⟨vs, H1, I1, r1, q1⟩ => hc pins s1 σ H1 vs us Q I1 r1 q1) he hpl
/-- T(e, ..), T a built-in type -/
theorem pe_callTy (hc : CallR X (.type T) r) (hg : Gl X x) (hm : X.mg x = none) (hv : bootBuiltins x = some (.type T)) (ha : PA X (e :: es) t) (hn : x ≠ "__name__" := by decide) (hdb : (x == ("__debug__" : Str)) = false := by decide)
    (he : starEach (e :: es) X.env = (false, eval e X.env) :: starEach es X.env := by rfl) (hpl : (backTo pos (starEach es X.env)).any (·.1) = false := by rfl) : PE X (.Call (.Name x p) (e :: es) [] pos) (tCB r t) := by
  intro pins s σ H Q I h
  refine wpAny_Call_Name_kw (ld_blt I hg hm hv ?_ hn hdb)
  exact PyProof.Rows.callWith_type1 (thn (ha pos pins s σ H _ I h) fun us s1 ⟨vs, H1, I1, r1, q1⟩ => hc pins s1 σ H1 vs us Q I1 r1 q1) he hpl
end
end L2

namespace HT
open PySem PyProof.Rows

section
open PySem.SeqAt
open PySem.AutoSeq1 (wpAny_loadPart')
open PySem.MeetsSeq PySem.MeetsSeq2 PySem.MeetsSeq3

end

section
variable {prog : Program} {w : World} {A : Around} {E : Value → Shared → Prop} {s : Shared}

/-- t + u, t not empty -/
theorem cat_tup {t b : Addr} {vs ws : List Value} {Q : Value → Shared → Prop} (ht : IsTup s.heap t vs.toArray) (hb : IsTup s.heap b ws.toArray) (hv : vs ≠ [])
    (h1 : ws = [] → Q (.ref t) s) (h2 : ws ≠ [] → Q (.ref s.heap.objs.size) { s with heap := s.heap.push { cls := .type "tuple", data := .seq (vs ++ ws).toArray } })
    (hsz : vs.length + ws.length ≤ sizeLine) : wpAny (model prog w) A (binaryOp .Add (.ref t) (.ref b)) Q E s := by
  obtain ⟨⟨cls, dd, data, sl⟩, ho, hc, n, hd⟩ := id ht
  obtain ⟨⟨cls2, dd2, data2, sl2⟩, ho2, hc2, n2, hd2⟩ := id hb
  simp only at hc hd hc2 hd2
  subst hc hd hc2 hd2
  have e : vs.toArray ++ ws.toArray = (vs ++ ws).toArray := by simp
  by_cases hw : ws = []
  · exact concat_meets ⟨_, ho, rfl⟩ ⟨_, ho2, rfl⟩ noFill_tuple_add seq_tuple_add PySem.F.slot_tuple_add PySem.F.entry_tuple_add (PySem.F.args_tuple_add_2 _ _)
      (tuple_addW1 t b vs.toArray ws.toArray n n2 dd dd2 sl sl2 (by simpa using hv) (by simp [hw])) ⟨ho, ho2, h1 hw⟩
  · refine concat_meets ⟨_, ho, rfl⟩ ⟨_, ho2, rfl⟩ noFill_tuple_add seq_tuple_add PySem.F.slot_tuple_add PySem.F.entry_tuple_add (PySem.F.args_tuple_add_2 _ _)
      (tuple_addW2 t b vs.toArray ws.toArray n n2 dd dd2 sl sl2 (by simpa using hv) (by simpa using hw) (by rw [List.size_toArray, List.size_toArray]; exact hsz)) ⟨ho, ho2, ?_⟩
    rw [e]
    exact h2 hw

/-! ### t[a:b], not the whole -/
/-- a slice's bound as a place among n (d where it is left out) -/
def sIx (n d : Nat) : Option Int → Nat
  | none => d
  | some v => if v < 0 then (v + (n : Int)).toNat else min v.toNat n
theorem sIx_nat (n d k : Nat) : sIx n d (some (k : Int)) = min k n := by
  show (if (k : Int) < 0 then ((k : Int) + (n : Int)).toNat else min (k : Int).toNat n) = min k n
  rw [if_neg (by omega), Int.toNat_natCast]
theorem sIx_le (n d : Nat) (hd : d ≤ n) (o : Option Int) : sIx n d o ≤ n := by
  cases o with
  | none => exact hd
  | some v =>
    show (if v < 0 then (v + (n : Int)).toNat else min v.toNat n) ≤ n
    by_cases hv : v < 0
    · rw [if_pos hv]; omega
    · rw [if_neg hv]; exact Nat.min_le_right _ _
theorem clip_eq (v : Int) (n d : Nat) : (if v < 0 then max (v + (n : Int)) 0 else min v (n : Int)) = ((sIx n d (some v) : Nat) : Int) := by
  show (if v < 0 then max (v + (n : Int)) 0 else min v (n : Int)) = (((if v < 0 then (v + (n : Int)).toNat else min v.toNat n) : Nat) : Int)
  by_cases hv : v < 0
  · simp only [if_pos hv]; omega
  · simp only [if_neg hv]; omega
theorem adjust_gen (lo hi : Option Int) (n : Nat) : Builtin.Slice.sliceAdjust lo hi 1 (n : Int) = (((sIx n 0 lo : Nat) : Int), ((sIx n n hi : Nat) : Int)) := by
  have h1 : ¬ ((1 : Int) < 0) := by omega
  unfold Builtin.Slice.sliceAdjust
  simp only [h1, if_false]
  refine Prod.ext ?_ ?_
  · cases lo with
    | none => rfl
    | some v => exact clip_eq v n 0
  · cases hi with
    | none => rfl
    | some v => exact clip_eq v n n
theorem places_gen (i j : Nat) : Builtin.Slice.slicePlaces (i : Int) (j : Int) 1 = j - i := by
  unfold Builtin.Slice.slicePlaces
  have h1 : (1 : Int) > 0 := by omega
  simp only [h1, if_true, Int.ediv_one]
  split <;> omega
theorem slicePart_ {v : Value} {o : Option Int} {Q : Option Int → Shared → Prop} (p : IsPart v o) (h : Q o s) : wpAny (model prog w) A (Builtin.Slice.slicePartIndex v) Q E s := by
  cases p with
  | none => exact slicePart_none h
  | int i t => exact slicePart_int h
theorem sliceApplied_gen {sl : Addr} {vl vu : Value} {lo hi : Option Int} {n : Nat} {Q : Int × Int × Nat → Shared → Prop} (hs : s.heap.IsSliceOf sl vl vu .none) (pl : IsPart vl lo) (pu : IsPart vu hi)
    (h : Q (((sIx n 0 lo : Nat) : Int), 1, sIx n n hi - sIx n 0 lo) s) : wpAny (model prog w) A (Builtin.Slice.sliceApplied (.ref sl) (pure (n : Int))) Q E s := by
  obtain ⟨os, hos, hcs, hds⟩ := id hs
  unfold Builtin.Slice.sliceApplied Builtin.Slice.sliceFields
  refine wpAny_bind (wpAny_bind (wpAny_field hos hds (x := vl) rfl (wpAny_bind (wpAny_field hos hds (x := vu) rfl (wpAny_bind (wpAny_field hos hds (x := .none) rfl (wpAny_pure ?_)))))))
  refine wpAny_bind (slicePart_none ?_)
  show wpAny _ _ (if ((1 : Int) == 0) = true then _ else _) _ _ s
  rw [if_neg (by decide)]
  refine wpAny_bind (slicePart_ pl (wpAny_bind (slicePart_ pu (wpAny_bind (wpAny_pure ?_)))))
  show wpAny _ _ (match Builtin.Slice.sliceAdjust lo hi 1 (n : Int) with | (lo, hi) => pure (lo, (1 : Int), Builtin.Slice.slicePlaces lo hi 1)) _ _ s
  rw [adjust_gen lo hi n]
  show wpAny _ _ (pure (((sIx n 0 lo : Nat) : Int), (1 : Int), Builtin.Slice.slicePlaces ((sIx n 0 lo : Nat) : Int) ((sIx n n hi : Nat) : Int) 1)) _ _ s
  rw [places_gen]
  exact wpAny_pure h
theorem pick_gen (xs : Array Value) (i k : Nat) : ((List.range k).filterMap fun (m : Nat) => xs[((i : Int) + (m : Int) * 1).toNat]?).toArray = ((xs.toList.drop i).take k).toArray := by
  have e : (fun (m : Nat) => xs[((i : Int) + (m : Int) * 1).toNat]?) = fun m => xs[i + m]? := by
    funext m
    have : ((i : Int) + (m : Int) * 1).toNat = i + m := by omega
    rw [this]
  rw [e]
  have := pick_run xs i k
  rw [List.filterMap_map] at this
  have e2 : ((fun x => xs[x]?) ∘ fun x => i + x) = fun m => xs[i + m]? := rfl
  rw [e2] at this
  rw [this]

theorem getItem_tuple_cut {t sl : Addr} {items : Array Value} {vl vu : Value} {lo hi : Option Int} {Q : Value → Shared → Prop} (ht : IsTup s.heap t items) (hs : s.heap.IsSliceOf sl vl vu .none) (pl : IsPart vl lo) (pu : IsPart vu hi)
    (hw : ¬ (sIx items.size 0 lo = 0 ∧ sIx items.size items.size hi = items.size))
    (h : Q (.ref s.heap.objs.size) { s with heap := s.heap.push { cls := .type "tuple", data := .seq ((items.toList.drop (sIx items.size 0 lo)).take (sIx items.size items.size hi - sIx items.size 0 lo)).toArray } })
    (hsz : items.size ≤ sizeLine) : wpAny (model prog w) A (getItem (.ref t) (.ref sl)) Q E s := by
  have htake : sizeOk (.seq ((items.toList.drop (sIx items.size 0 lo)).take (sIx items.size items.size hi - sIx items.size 0 lo)).toArray) := by
    show ((items.toList.drop (sIx items.size 0 lo)).take (sIx items.size items.size hi - sIx items.size 0 lo)).toArray.size ≤ sizeLine
    rw [List.size_toArray, List.length_take, List.length_drop, Array.length_toList]
    omega
  have hj : sIx items.size items.size hi ≤ items.size := sIx_le _ _ (Nat.le_refl _) hi
  obtain ⟨os, hos, hcs, hds⟩ := id hs
  have hTs : s.TypeIs (.ref sl) "slice" := ⟨os, hos, hcs⟩
  unfold getItem
  try with_reducible refine wpAny_holding ?_
  first | refine wpAny_bind (wpAny_pure ?_) | skip
  refine wpAny_bind (wpAny_sequenceKey ht.typeIs (by decide) ?_)
  refine wpAny_bind (wpAny_callSpecial?_slot (name := Str.ofString "__getitem__") ht.typeIs PyProof.Rows.slot_tuple_getitem
    (wpAny_call_entry PyProof.Rows.slot_tuple_getitem ht.typeIs entry_tuple_getitem ?_ (args_tuple_getitem _ _)))
  show wpAny _ _ (Builtin.Tuple.tupleItemsOf (.ref t) >>= _) _ _ s
  refine wpAny_bind (tupleItemsOf_ ht ?_)
  refine wpAny_bind (wpAny_typeOf hTs ?_)
  rw [if_pos (by decide)]
  refine wpAny_bind (sliceApplied_gen hs pl pu ?_)
  have hno : ¬ ((((sIx items.size 0 lo : Nat) : Int) == 0 && (1 : Int) == 1 && (sIx items.size items.size hi - sIx items.size 0 lo) == items.size) = true) := by
    intro q
    rw [Bool.and_eq_true, Bool.and_eq_true] at q
    have q1 : ((sIx items.size 0 lo : Nat) : Int) = 0 := eq_of_beq q.1.1
    have q2 : sIx items.size items.size hi - sIx items.size 0 lo = items.size := eq_of_beq q.2
    exact hw ⟨by omega, by omega⟩
  show wpAny _ _ (if (((sIx items.size 0 lo : Nat) : Int) == 0 && (1 : Int) == 1 && (sIx items.size items.size hi - sIx items.size 0 lo) == items.size) = true then _ else _) _ _ s
  rw [if_neg hno, pick_gen]
  first
    | exact wpAny_bind (m := Builtin.Tuple.tupleExact _) (wpAny_newObj_type (wpAny_pure ⟨_, rfl, wpAny_pure h⟩) htake)
    | exact wpAny_bind (m := Builtin.Tuple.tupleExact _) (wpAny_newObj_type (wpAny_bind (wpAny_pure (wpAny_pure ⟨_, rfl, wpAny_pure h⟩))) htake)
    | exact wpAny_bind (wpAny_bind (m := Builtin.Tuple.tupleExact _) (wpAny_newObj_type (wpAny_pure (wpAny_pure ⟨_, rfl, wpAny_pure h⟩)) htake))
    | exact wpAny_bind (wpAny_bind (m := Builtin.Tuple.tupleExact _) (wpAny_newObj_type (wpAny_pure ⟨_, rfl, wpAny_pure h⟩) htake))
end
end HT

namespace L2
open PySem PySem.Spec PyProof.Rows

/-! ### the parts of a slice -/
abbrev TO := St → Hp → (Option Int → Hp → Prop) → Prop
/-- a slice's part (left out, or an int) -/
def PO (X : Cx) (e : Option Expr) (t : TO) : Prop :=
  ∀ (pins : List (Addr × Obj)) (s : Shared) (σ : St) (H : Hp) (Q : Option Int → Hp → Prop), Inv X pins σ H s → t σ H Q →
    wpAny (model X.prog X.w) X.A (evalPart e X.env) (fun u s' => ∃ o H', Inv X pins σ H' s' ∧ IsPart u o ∧ Q o H') X.xe s
def tNoPart : TO := fun _ H Q => Q none H
def tPart (t : TE) : TO := fun σ H Q => t σ H fun x H1 => ∃ i, x = .int i ∧ Q (some i) H1

section
variable {X : Cx} {e : Expr} {te : TE} {lo hi : Option Expr} {tl th : TO} {pos p2 : Pos}

theorem po_none : PO X none tNoPart := by
  intro pins s σ H Q I h
  rw [evalPart_none]
  exact wpAny_pure ⟨none, H, I, .none, h⟩
theorem po_some (h : PE X e te) : PO X (some e) (tPart te) := by
  intro pins s σ H Q I hw
  rw [evalPart_some]
  refine thn (h pins s σ H _ I hw) fun u s1 ⟨x, H1, I1, r1, q1⟩ => ?_
  obtain ⟨i, rfl, q⟩ := q1
  obtain ⟨t, rfl⟩ := r1
  exact ⟨some i, H1, I1, .int i t, q⟩

/-- what a slice of a value is, by values: the slice object stands at sl -/
def SlR (X : Cx) (r : V → Option Int → Option Int → Hp → VK → Prop) : Prop :=
  ∀ (pins : List (Addr × Obj)) (s : Shared) (σ : St) (H : Hp) (x : V) (v vl vu : Value) (lo hi : Option Int) (sl : Addr) (Q : VK), Inv X pins σ H s → RelV x v → s.heap.IsSliceOf sl vl vu .none → IsPart vl lo → IsPart vu hi → r x lo hi H Q →
    ∃ T id, typeLookup (.type T) "__getitem__" = pure (some (.builtin id)) ∧ s.TypeIs v T ∧ wpAny (model X.prog X.w) X.A (getItem v (.ref sl)) (EP X pins σ Q) X.xe s
def tSl (r : V → Option Int → Option Int → Hp → VK → Prop) (te : TE) (tl th : TO) : TE := fun σ H Q => te σ H fun x H1 => tl σ H1 fun l H2 => th σ H2 fun u H3 => r x l u H3 Q
/-- a[lo:hi], any a -/
theorem pe_slice {r : V → Option Int → Option Int → Hp → VK → Prop} (hr : SlR X r) (he : PE X e te) (hl : PO X lo tl) (hu : PO X hi th) : PE X (.Subscript e (.Slice lo hi none p2) pos) (tSl r te tl th) := by
  intro pins s σ H Q I h
  refine Subscript_ (thn (he pins s σ H _ I h) fun v s1 ⟨x, H1, I1, r1, q1⟩ => ?_)
  refine wpAny_Slice (thn (hl pins s1 σ H1 _ I1 q1) fun vl s2 ⟨l, H2, I2, pl, q2⟩ => thn (hu pins s2 σ H2 _ I2 q2) fun vu s3 ⟨u, H3, I3, pu, q3⟩ => ?_)
  rw [evalPart_none]
  refine wpAny_pure ?_
  have I4 : Inv X pins σ H3 { s3 with heap := s3.heap.push { cls := .type "slice", data := .fields #[vl, vu, .none] } } := I3.kept (t' := s3.toks) fun b ob q => Heap.get?_push_of_some _ q
  obtain ⟨T, id, hT, ht, hg⟩ := hr pins { s3 with heap := s3.heap.push { cls := .type "slice", data := .fields #[vl, vu, .none] } } σ H3 x v vl vu l u s3.heap.objs.size Q I4 r1 (Heap.IsSliceOf.new ..) pl pu q3
  show wpAny (model X.prog X.w) X.A (subscriptTail e (.Slice lo hi none p2) v (.ref s3.heap.objs.size)) (EP X pins σ Q) X.xe { s3 with heap := s3.heap.push { cls := .type "slice", data := .fields #[vl, vu, .none] } }
  exact tail_any (ops := [.ref s3.heap.objs.size, v]) ht hT hg (by with_unfolding_all rfl)

/-- the items of xs[lo:hi] -/
def cutV (xs : List V) (lo hi : Option Int) : List V := (xs.drop (HT.sIx xs.length 0 lo)).take (HT.sIx xs.length xs.length hi - HT.sIx xs.length 0 lo)
theorem cutV_length (xs : List V) (lo hi : Option Int) : (cutV xs lo hi).length ≤ xs.length := by
  unfold cutV
  rw [List.length_take, List.length_drop]
  omega
/-- t[lo:hi], not the whole of it (the whole would be t itself) -/
def rSlT (K : PySem.W.Frag) : V → Option Int → Option Int → Hp → VK → Prop := fun x lo hi H Q => ∃ a xs, x = .ref a ∧ SqT K H a xs ∧
  ¬ (HT.sIx xs.length 0 lo = 0 ∧ HT.sIx xs.length xs.length hi = xs.length) ∧ ∀ p, H p = none → Q (.ref p) (upd H p (.tup (cutV xs lo hi)))
theorem sl_tup : SlR X (rSlT X.K) := by
  intro pins s σ H x v vl vu lo hi sl Q I rx hs pl pu h
  obtain ⟨a, xs, rfl, hx, hw, q⟩ := h
  cases rx
  obtain ⟨its, r, ht, hz⟩ := I.tuple hx
  have hlen : its.toArray.size = xs.length := by rw [List.size_toArray]; exact r.length.symm
  refine ⟨"tuple", _, PyProof.Rows.slot_tuple_getitem.lookup, ht.typeIs, ?_⟩
  refine HT.getItem_tuple_cut ht hs pl pu (by rw [hlen]; exact hw) ?_ (by rw [hlen]; exact hz)
  rw [hlen]
  refine ⟨.ref s.heap.objs.size, _, I.laid (t' := s.toks) (o := .tup (cutV xs lo hi)) (fun b ob q => Heap.get?_push_of_some _ q) (Nat.le_refl _) ?_, rfl, q _ (I.hok.fresh (Nat.le_refl _))⟩
  exact ⟨Nat.le_trans (cutV_length xs lo hi) hz, _, (r.drop (HT.sIx xs.length 0 lo)).take (HT.sIx xs.length xs.length hi - HT.sIx xs.length 0 lo), IsTup.new _ _⟩

/-! ### t < u, t + u -/
/-- t + u, t not empty: u empty gives t itself -/
def rCatT (K : PySem.W.Frag) : R2 := fun x y H Q => ∃ a b xs ys, x = .ref a ∧ y = .ref b ∧ SqT K H a xs ∧ SqT K H b ys ∧ xs ≠ [] ∧ xs.length + ys.length ≤ sizeLine ∧
  (ys = [] → Q (.ref a) H) ∧ (ys ≠ [] → ∀ p, H p = none → Q (.ref p) (upd H p (.tup (xs ++ ys))))
theorem Vals.nil_iff {xs : List V} {us : List Value} (r : Vals xs us) : us = [] ↔ xs = [] := by
  cases r with
  | nil => simp
  | cons _ _ => simp
theorem op_catT : OpR X (binaryOp .Add) (rCatT X.K) := by
  intro pins s σ H x y v u Q I rx ry h
  obtain ⟨a, b, xs, ys, rfl, rfl, ha, hb, hx, hz, q1, q2⟩ := h
  cases rx
  cases ry
  obtain ⟨its, r1, p1, _⟩ := I.tuple ha
  obtain ⟨its2, r2, p2, _⟩ := I.tuple hb
  refine HT.cat_tup p1 p2 (fun z => hx (r1.nil_iff.mp z)) (fun z => ⟨.ref a, H, I, rfl, q1 (r2.nil_iff.mp z)⟩) (fun z => ?_) (by rw [← r1.length, ← r2.length]; exact hz)
  refine ⟨.ref s.heap.objs.size, _, I.laid (t' := s.toks) (o := .tup (xs ++ ys)) (fun b ob q => Heap.get?_push_of_some _ q) (Nat.le_refl _) ?_, rfl, q2 (fun w => z (r2.nil_iff.mpr w)) _ (I.hok.fresh (Nat.le_refl _))⟩
  exact ⟨by rw [List.length_append]; exact hz, _, r1.append r2, IsTup.new _ _⟩
end
end L2

namespace L2
open PySem PySem.Spec PyProof.Rows

/-! ### places -/
/-- the place that an index of any sign means -/
def ixN (n : Nat) (i : Int) : Option Nat := if 0 ≤ i then (if i < n then some i.toNat else none) else if -(n : Int) ≤ i then some (i + n).toNat else none
def atI {α : Type} (xs : List α) (i : Int) : Option α := (ixN xs.length i).bind fun j => xs[j]?
theorem ixN_seq {n : Nat} {i : Int} {j : Nat} (h : ixN n i = some j) : seqIndex? i n = some j ∧ j < n ∧ -(n : Int) ≤ i ∧ i < n := by
  unfold ixN at h
  by_cases h0 : 0 ≤ i
  · rw [if_pos h0] at h
    by_cases h1 : i < n
    · rw [if_pos h1] at h
      have e : i.toNat = j := Option.some.inj h
      exact ⟨by rw [seqIndex_of h0 h1, e], by omega, by omega, h1⟩
    · rw [if_neg h1] at h; cases h
  · rw [if_neg h0] at h
    by_cases h1 : -(n : Int) ≤ i
    · rw [if_pos h1] at h
      have e : (i + n).toNat = j := Option.some.inj h
      exact ⟨by rw [seqIndex_neg (by omega) h1, e], by omega, h1, by omega⟩
    · rw [if_neg h1] at h; cases h
theorem atI_get {α : Type} {xs : List α} {i : Int} {v : α} (h : atI xs i = some v) : ∃ j, seqIndex? i xs.length = some j ∧ xs[j]? = some v ∧ j < xs.length ∧ -(xs.length : Int) ≤ i ∧ i < xs.length := by
  unfold atI at h
  cases e : ixN xs.length i with
  | none => rw [e] at h; cases h
  | some j =>
    rw [e] at h
    obtain ⟨h1, h2, h3, h4⟩ := ixN_seq e
    exact ⟨j, h1, h, h2, h3, h4⟩
theorem atI_nat {α : Type} {xs : List α} {j : Nat} {v : α} (h : xs[j]? = some v) : atI xs (j : Int) = some v := by
  have hj : j < xs.length := (List.getElem?_eq_some_iff.mp h).1
  have e : ixN xs.length (j : Int) = some j := by
    unfold ixN
    rw [if_pos (by omega), if_pos (by omega)]; simp
  unfold atI; rw [e]; exact h
/-! ### what may be subscripted -/
/-- what stands as an index of a plain subscript -/
def PlainIx (b : Expr) : Prop := ∀ o i, subscripted b false o i = operate [o, i] (getItem o i)
/-- a subscript by values -/
def IxR (X : Cx) (r : R2) : Prop :=
  ∀ (value slice : Expr) (pins : List (Addr × Obj)) (s : Shared) (σ : St) (H : Hp) (x y : V) (v u : Value) (Q : VK), Inv X pins σ H s → RelV x v → RelV y u → r x y H Q →
    subscripted slice false v u = operate [v, u] (getItem v u) → wpAny (model X.prog X.w) X.A (subscriptTail value slice v u) (EP X pins σ Q) X.xe s
/-- a call of a builtin's method by values: the receiver, the arguments -/
def MtR (X : Cx) (id : String) (r : V → List V → Hp → VK → Prop) : Prop :=
  ∀ (pins : List (Addr × Obj)) (s : Shared) (σ : St) (H : Hp) (x : V) (xs : List V) (v : Value) (us : List Value) (Q : VK), Inv X pins σ H s → RelV x v → Vals xs us → r x xs H Q →
    wpAny (model X.prog X.w) X.A (call (.builtin id) (v :: us)) (EP X pins σ Q) X.xe s
section
variable {X : Cx} {a b : Expr} {ta tb : TE} {pos : Pos}
/-- a[b] -/
theorem pe_ix {r : R2} (hr : IxR X r) (ha : PE X a ta) (hb : PE X b tb) (hs : PlainIx b) : PE X (.Subscript a b pos) (tOp r ta tb) := by
  intro pins s σ H Q I h
  exact Subscript_ (binT ha hb I h fun v u s2 x y H2 I2 rx ry q => hr a b pins s2 σ H2 x y v u Q I2 rx ry q (hs _ _))

def rIxL (K : PySem.W.Frag) : R2 := fun x y H Q => ∃ p xs i v, x = .ref p ∧ y = .int i ∧ SqL K H p xs ∧ atI xs i = some v ∧ Q v H
def rIxT (K : PySem.W.Frag) : R2 := fun x y H Q => ∃ p xs i v, x = .ref p ∧ y = .int i ∧ SqT K H p xs ∧ atI xs i = some v ∧ Q v H
def rIxS : R2 := fun x y H Q => ∃ z i c, x = .str z ∧ y = .int i ∧ z.length ≤ sizeLine ∧ atI z.cps.toList i = some c ∧ Q (.str ⟨#[c]⟩) H
theorem ix_list : IxR X (rIxL X.K) := by
  intro value slice pins s σ H x y v u Q I rx ry h hs
  obtain ⟨p, xs, i, z, rfl, rfl, hq, he, q⟩ := h
  cases rx
  obtain ⟨t, rfl⟩ := ry
  obtain ⟨its, r, pl, hz⟩ := I.list hq
  obtain ⟨j, h1, h2, h3, h4, h5⟩ := atI_get he
  obtain ⟨w, ew, rw'⟩ := r.get h2
  have hl := r.length
  have hn := line63
  have fin : EP X pins σ Q w s := ⟨z, H, I, rw', q⟩
  by_cases h0 : 0 ≤ i
  · have hj : i.toNat = j := by
      rw [seqIndex_of h0 h5] at h1
      exact Option.some.inj h1
    exact item_listR pl.isList h0 (by omega) (by rw [hj]; simpa using ew) fin hs
  · have hj : (i + (its.toArray.size : Int)).toNat = j := by
      rw [seqIndex_neg (by omega) h4] at h1
      rw [List.size_toArray, ← hl]
      exact Option.some.inj h1
    exact subscriptTail_builtinR (x := w) pl.isList.typeIs slot_list_getitem.lookup
      (wpAny_getItem_list_neg (Q := fun r s' => r = w ∧ EP X pins σ Q r s') pl.isList (by omega) (by rw [List.size_toArray] <;> omega) (by omega) (by rw [hj]; simpa using ew) ⟨rfl, fin⟩) hs
theorem ix_tup : IxR X (rIxT X.K) := by
  intro value slice pins s σ H x y v u Q I rx ry h hs
  obtain ⟨p, xs, i, z, rfl, rfl, hq, he, q⟩ := h
  cases rx
  obtain ⟨t, rfl⟩ := ry
  obtain ⟨its, r, pl, hz⟩ := I.tuple hq
  obtain ⟨j, h1, h2, h3, h4, h5⟩ := atI_get he
  obtain ⟨w, ew, rw'⟩ := r.get h2
  have hl := r.length
  have hn := line63
  have fin : EP X pins σ Q w s := ⟨z, H, I, rw', q⟩
  exact subscriptTail_builtinR (x := w) pl.typeIs slot_tuple_getitem.lookup
    (getItem_tuple (j := j) (Q := fun r s' => r = w ∧ EP X pins σ Q r s') pl (by omega) (by omega) (by rw [List.size_toArray, ← hl]; exact h1) (by simpa using ew) ⟨rfl, fin⟩) hs
theorem ix_str : IxR X rIxS := by
  intro value slice pins s σ H x y v u Q I rx ry h hs
  obtain ⟨z, i, c, rfl, rfl, hz, he, q⟩ := h
  obtain ⟨t, rfl⟩ := rx
  obtain ⟨t', rfl⟩ := ry
  obtain ⟨j, h1, h2, h3, h4, h5⟩ := atI_get he
  have hl : z.cps.toList.length = z.length := by simp [Str.length]
  rw [hl] at h1 h4 h5
  have hn := line63
  exact tail_any (typeIs_str s z t) slot_str_getitem.lookup (getItem_str (c := c) (by
    have e1 : decide (i < -(2 ^ 63 : Int)) = false := decide_eq_false (by omega)
    have e2 : decide (i ≥ 2 ^ 63) = false := decide_eq_false (by omega)
    rw [e1, e2, Bool.or_false]) (by rw [h1]; simpa using h2) ⟨.str ⟨#[c]⟩, H, I.tok _, ⟨_, rfl⟩, q⟩) hs
/-! ### xs[i] = v, any sign -/
/-! ### slices -/
theorem slice_bounds (lo hi : Option Int) (n : Nat) : (sliceBounds lo hi none n).1 = ((HT.sIx n 0 lo : Nat) : Int) ∧ (sliceBounds lo hi none n).2.1 = ((HT.sIx n n hi : Nat) : Int) ∧ (sliceBounds lo hi none n).2.2 = 1 := by
  refine ⟨?_, ?_, rfl⟩
  · cases lo with
    | none => simp [sliceBounds, HT.sIx]
    | some i =>
      simp only [sliceBounds, HT.sIx, Option.getD_none, show (1 : Int) > 0 by decide, if_true]
      by_cases h : i < 0
      · simp only [h, if_true] <;> omega
      · simp only [h, if_false] <;> omega
  · cases hi with
    | none => simp [sliceBounds, HT.sIx]
    | some i =>
      simp only [sliceBounds, HT.sIx, Option.getD_none, show (1 : Int) > 0 by decide, if_true]
      by_cases h : i < 0
      · simp only [h, if_true] <;> omega
      · simp only [h, if_false] <;> omega
theorem slicePick_cut (its : List Value) (lo hi : Option Int) : slicePick its.toArray lo hi none = ((its.drop (HT.sIx its.length 0 lo)).take (HT.sIx its.length its.length hi - HT.sIx its.length 0 lo)).toArray := by
  obtain ⟨h1, h2, h3⟩ := slice_bounds lo hi its.toArray.size
  unfold slicePick
  rw [h1, h2, h3]
  simp only [sliceRange_one, pick_run, List.size_toArray] <;> rfl
/-- xs[lo:hi] of a list: a new list -/
def rSlL (K : PySem.W.Frag) : V → Option Int → Option Int → Hp → VK → Prop := fun x lo hi H Q => ∃ a xs, x = .ref a ∧ SqL K H a xs ∧ ∀ p, H p = none → Q (.ref p) (upd H p (.lst (cutV xs lo hi)))
theorem sl_list : SlR X (rSlL X.K) := by
  intro pins s σ H x v vl vu lo hi sl Q I rx hs pl pu h
  obtain ⟨a, xs, rfl, hx, q⟩ := h
  cases rx
  obtain ⟨its, r, ht, hz⟩ := I.list hx
  have hlen := r.length
  refine ⟨"list", _, slot_list_getitem.lookup, ht.isList.typeIs, ?_⟩
  refine wpAny_getItem_list_slice ht.isList hs pl pu .none (by simp) ?_ (by rw [List.size_toArray] <;> omega)
  rw [slicePick_cut, ← hlen]
  refine ⟨.ref s.heap.objs.size, _, I.laid (t' := s.toks) (o := .lst (cutV xs lo hi)) (fun b ob q => Heap.get?_push_of_some _ q) (Nat.le_refl _) ?_, rfl, q _ (I.hok.fresh (Nat.le_refl _))⟩
  exact ⟨Nat.le_trans (cutV_length xs lo hi) hz, _, 0, (r.drop (HT.sIx xs.length 0 lo)).take (HT.sIx xs.length xs.length hi - HT.sIx xs.length 0 lo), Heap.get?_push_size _ rfl⟩

/-! ### in, not in: flat items -/
def flatV : V → Bool
  | .non => true
  | .bl _ => true
  | .int _ => true
  | .str _ => true
  | _ => false
/-- == of flat values -/
def eqV : V → V → Bool
  | .non, .non => true
  | .bl a, .bl b => a == b
  | .bl a, .int b => (if a then 1 else 0) == b
  | .int a, .bl b => a == (if b then 1 else 0)
  | .int a, .int b => a == b
  | .str a, .str b => a == b
  | _, _ => false
theorem eqAt_V {A : Around} {s : Shared} {y x : V} {u v : Value} (ry : RelV y u) (rx : RelV x v) (fy : flatV y = true) (fx : flatV x = true) : SeqAt.EqAt A s u v (eqV y x) := by
  cases y with
  | non =>
    cases ry
    cases x with
    | non => cases rx; exact SeqAt.EqAt.same _
    | bl b => cases rx; exact SeqAt.EqAt.none_bool b
    | int b => obtain ⟨t, rfl⟩ := rx; exact SeqAt.EqAt.none_int b t
    | str b => obtain ⟨t, rfl⟩ := rx; exact SeqAt.EqAt.none_str b t
    | _ => exact absurd (show false = true from fx) Bool.false_ne_true
  | bl a =>
    cases ry
    cases x with
    | non => cases rx; exact SeqAt.EqAt.bool_none a
    | bl b => cases rx; exact SeqAt.EqAt.bool_bool a b
    | int b => obtain ⟨t, rfl⟩ := rx; exact SeqAt.EqAt.bool_int a b t
    | str b => obtain ⟨t, rfl⟩ := rx; exact SeqAt.EqAt.bool_str a b t
    | _ => exact absurd (show false = true from fx) Bool.false_ne_true
  | int a =>
    obtain ⟨t', rfl⟩ := ry
    cases x with
    | non => cases rx; exact SeqAt.EqAt.int_none a t'
    | bl b => cases rx; exact SeqAt.EqAt.int_bool a t' b
    | int b => obtain ⟨t, rfl⟩ := rx; exact SeqAt.EqAt.int_int a t' b t
    | str b => obtain ⟨t, rfl⟩ := rx; exact SeqAt.EqAt.int_str a t' b t
    | _ => exact absurd (show false = true from fx) Bool.false_ne_true
  | str a =>
    obtain ⟨t', rfl⟩ := ry
    cases x with
    | non => cases rx; exact SeqAt.EqAt.str_none a t'
    | bl b => cases rx; exact SeqAt.EqAt.str_bool a t' b
    | int b => obtain ⟨t, rfl⟩ := rx; exact SeqAt.EqAt.str_int a t' b t
    | str b => obtain ⟨t, rfl⟩ := rx; exact SeqAt.EqAt.str_str a t' b t
    | _ => exact absurd (show false = true from fx) Bool.false_ne_true
  | _ => exact absurd (show false = true from fy) Bool.false_ne_true
/-- the items' answers, read off the values (a value's own answer does not lean on its token) -/
def eqU (x : V) (u : Value) : Bool := match u with
  | .none => eqV .non x
  | .bool b => eqV (.bl b) x
  | .int i _ => eqV (.int i) x
  | .str z _ => eqV (.str z) x
  | _ => false
theorem eqU_of {x y : V} {u : Value} (r : RelV y u) (f : flatV y = true) : eqU x u = eqV y x := by
  cases y with
  | non => cases r; rfl
  | bl b => cases r; rfl
  | int i => obtain ⟨t, rfl⟩ := r; rfl
  | str z => obtain ⟨t, rfl⟩ := r; rfl
  | _ => exact absurd (show false = true from f) Bool.false_ne_true
theorem any_eqU {x : V} : ∀ {xs : List V} {us : List Value}, Vals xs us → xs.all flatV = true → us.any (eqU x) = xs.any fun y => eqV y x
  | _, _, .nil, _ => rfl
  | y :: xs, u :: us, .cons r t, f => by
    rw [List.all_cons, Bool.and_eq_true] at f
    rw [List.any_cons, List.any_cons, eqU_of r f.1, any_eqU t f.2]
theorem mem_eqAt {A : Around} {s : Shared} {x : V} {v : Value} (rx : RelV x v) (fx : flatV x = true) : ∀ {xs : List V} {us : List Value}, Vals xs us → xs.all flatV = true → ∀ u ∈ us, SeqAt.EqAt A s u v (eqU x u)
  | _, _, .nil, _ => fun u hu => by cases hu
  | y :: xs, u :: us, .cons r t, f => fun u' hu => by
    rw [List.all_cons, Bool.and_eq_true] at f
    rcases List.mem_cons.mp hu with rfl | hu
    · rw [eqU_of r f.1]; exact eqAt_V r rx f.1 fx
    · exact mem_eqAt rx fx t f.2 u' hu
def inV (x : V) (xs : List V) : Bool := xs.any fun y => eqV y x
/-- x in a list or tuple of flat items -/
def rIn (K : PySem.W.Frag) (neg : Bool) : R2 := fun x y H Q => ∃ p xs, y = .ref p ∧ (SqL K H p xs ∨ SqT K H p xs) ∧ flatV x = true ∧ xs.all flatV = true ∧ Q (.bl (if neg then !inV x xs else inV x xs)) H
theorem op_in_seq : OpR X (compareOp .In) (rIn X.K false) := by
  intro pins s σ H x y v u Q I rx ry h
  obtain ⟨p, xs, rfl, hq, fx, fs, q⟩ := h
  cases ry
  rcases hq with hq | hq
  · obtain ⟨its, r, pl, hz⟩ := I.list hq
    refine SeqAt.in_listAt (eqU x) pl.isList (fun w hw => mem_eqAt rx fx r fs w (by simpa using hw)) ⟨.bl _, H, I, rfl, ?_⟩
    rw [show its.toArray.any (eqU x) = its.any (eqU x) by simp, any_eqU r fs]
    exact q
  · obtain ⟨its, r, pl, hz⟩ := I.tuple hq
    refine SeqAt.in_tupleAt (eqU x) pl (fun w hw => mem_eqAt rx fx r fs w (by simpa using hw)) ⟨.bl _, H, I, rfl, ?_⟩
    rw [show its.toArray.any (eqU x) = its.any (eqU x) by simp, any_eqU r fs]
    exact q
theorem op_notIn_str : OpR X (compareOp .NotIn) (fun x y H Q => ∃ i j, x = .str i ∧ y = .str j ∧ Q (.bl (!(!(Builtin.Str.occurrences j i 0 j.length 1).isEmpty))) H) := by
  intro pins s σ H x y v u Q I rx ry h
  obtain ⟨i, j, rfl, rfl, q⟩ := h
  obtain ⟨t, rfl⟩ := rx
  obtain ⟨t', rfl⟩ := ry
  exact notIn_str ⟨.bl _, H, I, rfl, q⟩

/-! ### len, list(x), tuple(x) of any list or tuple that is read -/
theorem call_len_seq : CallR X (.builtin "len") (fun xs H Q => ∃ p ys, xs = [.ref p] ∧ (SqL X.K H p ys ∨ SqT X.K H p ys) ∧ Q (.int ys.length) H) := by
  intro pins s σ H xs us Q I r h
  obtain ⟨p, ys, rfl, hq, q⟩ := h
  obtain ⟨u, rfl, rx⟩ := vals1 r
  cases rx
  have hn := line63
  rcases hq with hq | hq
  · obtain ⟨its, r', pl, hz⟩ := I.list hq
    have hlen := r'.length
    exact Calls.call_len_list pl.isList (by simp only [List.size_toArray] <;> omega) ⟨.int ys.length, H, I.tok _, ⟨s.toks + 1, by rw [List.size_toArray, hlen]⟩, q⟩
  · obtain ⟨its, r', pl, hz⟩ := I.tuple hq
    have hlen := r'.length
    exact len_tuple pl (by simp only [List.size_toArray] <;> omega) ⟨.int ys.length, H, I.tok _, ⟨s.toks + 1, by rw [List.size_toArray, hlen]⟩, q⟩
theorem call_len_str : CallR X (.builtin "len") (fun xs H Q => ∃ z, xs = [.str z] ∧ z.length ≤ sizeLine ∧ Q (.int z.length) H) := by
  intro pins s σ H xs us Q I r h
  obtain ⟨z, rfl, hz, q⟩ := h
  obtain ⟨u, rfl, t, rfl⟩ := vals1 r
  have hn := line63
  exact len_str (by omega) ⟨.int z.length, H, I.tok _, ⟨_, rfl⟩, q⟩
theorem call_list_of : CallR X (.type "list") (fun xs H Q => ∃ p ys, xs = [.ref p] ∧ (SqL X.K H p ys ∨ SqT X.K H p ys) ∧ ∀ l, H l = none → Q (.ref l) (upd H l (.lst ys))) := by
  intro pins s σ H xs us Q I r h
  obtain ⟨p, ys, rfl, hq, q⟩ := h
  obtain ⟨u, rfl, rx⟩ := vals1 r
  cases rx
  have fin : ∀ (its : List Value), Vals ys its → ys.length ≤ sizeLine → ∀ (h' : Heap) (c' : Nat), (∀ b o', s.heap.get? b = some o' → h'.get? b = some o') →
      h'.get? s.heap.objs.size = some { cls := .type "list", dict := none, data := .seq its.toArray c', slots := #[] } → EP X pins σ Q (.ref s.heap.objs.size) { s with heap := h' } := fun its r' hz h' c' kp e =>
    ⟨.ref s.heap.objs.size, _, I.laid (t' := s.toks) kp (Nat.le_refl _) (show ObjOk X.prog X.w _ h' _ (.lst ys) from ⟨hz, its, c', r', e⟩), rfl, q _ (I.hok.fresh (Nat.le_refl _))⟩
  rcases hq with hq | hq
  · obtain ⟨its, r', pl, hz⟩ := I.list hq
    have hlen := r'.length
    obtain ⟨o, ho, hc, n, hd⟩ := pl.isList
    exact call_list_seq p (.inl rfl) ho hc hd (fun h' c' kp e => fin its r' hz h' c' kp e) (by simp only [List.size_toArray] <;> omega)
  · obtain ⟨its, r', pl, hz⟩ := I.tuple hq
    have hlen := r'.length
    obtain ⟨o, ho, hc, n, hd⟩ := pl
    exact call_list_seq p (.inr rfl) ho hc hd (fun h' c' kp e => fin its r' hz h' c' kp e) (by simp only [List.size_toArray] <;> omega)
/-! ### the call of a builtin's method: o.m(..) -/
/-- the value is of that builtin type -/
def tyV (K : PySem.W.Frag) (T : String) (x : V) (H : Hp) : Prop := match x with
  | .str _ => T = "str"
  | .int _ => T = "int"
  | .ref p => (T = "list" ∧ ∃ xs, SqL K H p xs) ∨ (T = "tuple" ∧ ∃ o, K.lookup p = some o ∧ o.cls = .type "tuple" ∧ o.dict = none) ∨
      (T = "dict" ∧ ((∃ kvs, H p = some (.dK kvs)) ∨ ∃ kvs, H p = some (.dT kvs))) ∨ (T = "set" ∧ ∃ S n, H p = some (.set S n))
  | _ => False
theorem tyV_is {pins : List (Addr × Obj)} {σ : St} {H : Hp} {s : Shared} {T : String} {x : V} {v : Value} (I : Inv X pins σ H s) (r : RelV x v) (ty : tyV X.K T x H) :
    s.TypeIs v T ∧ ∀ a, v = .ref a → ∃ ob, s.heap.get? a = some ob ∧ ob.dict = none := by
  cases x with
  | str z =>
    obtain ⟨t, rfl⟩ := r
    cases (show T = "str" from ty)
    exact ⟨typeIs_str s z t, fun _ e => nomatch e⟩
  | int i =>
    obtain ⟨t, rfl⟩ := r
    cases (show T = "int" from ty)
    exact ⟨typeIs_int s i t, fun _ e => nomatch e⟩
  | ref p =>
    cases r
    rcases ty with ⟨rfl, xs, hq⟩ | ⟨rfl, o, hk, hc, hd⟩ | ⟨rfl, hk⟩ | ⟨rfl, S, n, hk⟩
    · obtain ⟨its, _, pl, _⟩ := I.list hq
      refine ⟨pl.isList.typeIs, fun a e => ?_⟩
      cases e
      obtain ⟨o, n, e, c, hd, _⟩ := pl
      exact ⟨o, e, hd⟩
    · refine ⟨⟨o, I.kIn p o hk, hc⟩, fun a e => ?_⟩
      cases e
      exact ⟨o, I.kIn _ o hk, hd⟩
    · have z : ∃ o, s.heap.get? p = some o ∧ o.ExactDict := by
        rcases hk with ⟨kvs, hk⟩ | ⟨kvs, hk⟩
        · obtain ⟨_, _, _, _, o, _, _, e, ex, _⟩ := I.hok p _ hk
          exact ⟨o, e, ex⟩
        · obtain ⟨_, _, _, _, o, _, _, e, ex, _⟩ := I.hok p _ hk
          exact ⟨o, e, ex⟩
      obtain ⟨o, e, ex⟩ := z
      refine ⟨⟨o, e, ex.1⟩, fun a e2 => ?_⟩
      cases e2
      exact ⟨o, e, ex.2.1⟩
    · obtain ⟨o, _, _, _, e, ex, _⟩ := I.hok p _ hk
      refine ⟨⟨o, e, ex.1⟩, fun a e2 => ?_⟩
      cases e2
      exact ⟨o, e, ex.2.1⟩
  | _ => exact False.elim ty
def tBM (K : PySem.W.Frag) (T : String) (r : V → List V → Hp → VK → Prop) (to : TE) (t : TA) : TE := fun σ H Q => to σ H fun x H1 => tyV K T x H1 ∧ t σ H1 fun xs H2 => r x xs H2 Q
variable {o e : Expr} {es : List Expr} {to : TE} {t : TA} {name : Str} {apos cpos : Pos} {T id : String} {r : V → List V → Hp → VK → Prop}
theorem pe_bm (pa : PlainAttrs T) (slot : Slot T name id) (hty : typeOf (.builtin id) = pure (.type "method_descriptor")) (hm : MtR X id r) (ho : PE X o to) (ha : PA X (e :: es) t)
    (hbase : attributeBase o name X.env (eval o X.env) = eval o X.env := by rfl)
    (hfew : ((backTo cpos (starEach (e :: es) X.env)).all (fun x => !x.1) && (backToKw cpos (keywordEach [] X.env)).all (fun x => x.1.isSome)
      && decide ((e :: es).length + ([] : List Keyword).length + (if ([] : List Keyword).isEmpty then 0 else 1) < 30)) = true := by rfl)
    (hline : (apos.endLine == cpos.line) = true := by rfl) (hs : starEach (e :: es) X.env = (false, eval e X.env) :: starEach es X.env := by rfl) (hplain : (backTo cpos (starEach es X.env)).any (·.1) = false := by rfl) :
    PE X (.Call (.Attribute o name apos) (e :: es) [] cpos) (tBM X.K T r to t) := by
  intro pins s σ H Q I h
  refine wpAny_Call_method_late hbase hfew hline rfl (thn (ho pins s σ H _ I h) fun v s1 ⟨x, H1, I1, r1, ty, q1⟩ => ?_)
  obtain ⟨h1, h2⟩ := tyV_is I1 r1 ty
  refine ⟨T, id, pa, slot, hty, h1, h2, ?_⟩
  have hA := ha cpos pins s1 σ H1 _ I1 q1
  rw [hs] at hA ⊢
  refine Calls.callWith_builtin (by show (false || (backTo cpos (starEach es X.env)).any (·.1)) = false; rw [hplain] <;> rfl) (Calls.evalArgs_plain ?_)
  exact thn hA fun us s2 ⟨vs, H2, I2, r2, q2⟩ => hm pins s2 σ H2 x vs v us Q I2 r1 r2 q2
/- xs.append(e), list.index on a module's tuple .. are MtR facts of 06m -/
end
end L2

namespace L2
open PySem PySem.Spec PyProof.Rows

def MtM (X : Cx) (id : String) (r : V → List V → Hp → VK → Prop) : Prop :=
  ∀ (pins : List (Addr × Obj)) (s : Shared) (σ : St) (H : Hp) (x : V) (xs : List V) (v : Value) (us : List Value) (Q : VK), Inv X pins σ H s → RelV x v → Vals xs us → r x xs H Q →
    wpAny (model X.prog X.w) X.A (call (.builtin id) (v :: us)) (EP X pins σ Q) X.xe s

/-! ### lists of values -/
theorem Vals.one : ∀ {x : V} {us : List Value}, Vals [x] us → ∃ u, us = [u] ∧ RelV x u
  | _, _, .cons r .nil => ⟨_, rfl, r⟩
theorem Vals.rep {xs : List V} {us : List Value} (h : Vals xs us) : ∀ k : Nat, Vals (List.replicate k xs).flatten (List.replicate k us).flatten
  | 0 => .nil
  | k + 1 => by
    rw [List.replicate_succ, List.replicate_succ, List.flatten_cons, List.flatten_cons]
    exact Vals.append h (Vals.rep h k)
theorem foldl_rep (its : List Value) : ∀ (k : Nat) (acc : List Value),
    List.foldl (fun x1 x2 => x1 ++ x2) acc.toArray (List.replicate k its.toArray) = (acc ++ (List.replicate k its).flatten).toArray
  | 0, acc => by simp
  | k + 1, acc => by
    have e : acc.toArray ++ its.toArray = (acc ++ its).toArray := by simp
    have e2 : (acc ++ its) ++ (List.replicate k its).flatten = acc ++ (List.replicate (k + 1) its).flatten := by
      rw [List.replicate_succ, List.flatten_cons, List.append_assoc]
    rw [← e2, ← foldl_rep its k (acc ++ its), ← e, List.replicate_succ, List.foldl_cons]

section
variable {X : Cx} {pins : List (Addr × Obj)} {σ : St} {H : Hp} {s : Shared} {l b : Addr} {xs ys zs : List V}

/-! ### the two steps: a tracked list is rewritten, a new list is laid -/
theorem Inv.lnew {its : List Value} {t' : Nat} (I : Inv X pins σ H s) (hv : Vals ys its) (hz : ys.length ≤ sizeLine) :
    Inv X pins σ (upd H s.heap.objs.size (.lst ys)) { s with heap := s.heap.push { cls := .type "list", data := .seq its.toArray }, toks := t' } :=
  I.laid (fun _ _ q => Heap.get?_push_of_some _ q) (Nat.le_refl _) ⟨hz, its, 0, hv, Heap.get?_push_size _ rfl⟩
theorem Inv.fresh (I : Inv X pins σ H s) : H s.heap.objs.size = none := I.hok.fresh (Nat.le_refl _)
theorem Inv.lstM (I : Inv X pins σ H s) (hH : H l = some (.lst xs)) : xs.length ≤ sizeLine ∧ ∃ (its : List Value) (n : Nat), Vals xs its ∧ xs.length = its.length ∧ s.heap.get? l = some { cls := .type "list", data := .seq its.toArray n } := by
  obtain ⟨z, its, n, r, e⟩ := I.hok l _ hH
  exact ⟨z, its, n, r, r.length, e⟩

theorem notLongL {n : Nat} (h : n ≤ sizeLine) : Builtin.List.listTooLong n = false := by
  unfold Builtin.List.listTooLong
  exact decide_eq_false (by omega)
end

section
variable {X : Cx}

/-! ### methods -/
/-! ### list + list, list += list, list * int -/
/-- a list times an int (a negative one is nothing) -/
def rRep : R2 := fun x y H Q => ∃ l k xs, x = .ref l ∧ y = .int k ∧ H l = some (.lst xs) ∧ -(2 ^ 63) ≤ k ∧ k < 2 ^ 63 ∧ xs.length * k.toNat ≤ sizeLine ∧
  ∀ p, H p = none → Q (.ref p) (upd H p (.lst (List.replicate k.toNat xs).flatten))
theorem len_rep {α : Type} (xs : List α) (k : Nat) : (List.replicate k xs).flatten.length = k * xs.length := by
  induction k with
  | zero => simp
  | succ k ih => rw [List.replicate_succ, List.flatten_cons, List.length_append, ih, Nat.succ_mul, Nat.add_comm]
theorem op_rep : OpR X (binaryOp .Mult) rRep := by
  intro pins s σ H x y v u Q I rx ry h
  obtain ⟨l, k, xs, rfl, rfl, hH, h1, h2, hz, q⟩ := h
  cases rx
  obtain ⟨t, rfl⟩ := ry
  obtain ⟨z, its, n, r, hl, e⟩ := I.lstM hH
  have hlen : its.toArray.size * k.toNat ≤ sizeLine := by rw [List.size_toArray, ← hl]; exact hz
  have hcap : ¬ its.toArray.size * k.toNat > (2 ^ 63 - 1) / 8 := by
    have : (sizeLine : Nat) ≤ (2 ^ 63 - 1) / 8 := by decide
    omega
  have hfit : ¬ (!Builtin.List.listFitsIndex k) = true := by
    rw [fitsIndex_both h1 h2]
    exact Bool.false_ne_true
  have hlong : ¬ Builtin.List.listTooLong (its.toArray.size * k.toNat) = true := by
    rw [notLongL hlen]
    exact Bool.false_ne_true
  have hnew : List.foldl (fun x1 x2 => x1 ++ x2) #[] (List.replicate (if its.toArray.isEmpty = true then 0 else k.toNat) its.toArray) = (List.replicate k.toNat its).flatten.toArray := by
    have f0 : ∀ m : Nat, List.foldl (fun x1 x2 => x1 ++ x2) #[] (List.replicate m its.toArray) = (List.replicate m its).flatten.toArray := fun m => by
      have := foldl_rep its m []
      rw [List.nil_append] at this
      exact this
    rw [f0]
    cases its with
    | nil => simp
    | cons a r' => rw [if_neg (by simp)]
  refine wpAny_binaryOp_repeat_ref (T := "list") (U := "int") (by decide) ⟨_, e, rfl⟩ (fun s' => typeIs_int s' k t) noFill_list_mul F.fills_int_mul F.slot_int_rmul repeat_list F.slot_int_index.lookup
    (call_meets F.slot_int_rmul (typeIs_int s k t) F.entry_int_rmul (F.args_int_rmul_2 _ _) (int___rmul___int_list k t l its.toArray n)
      ⟨e, rfl, ⟨_, e, rfl⟩, call_meets F.slot_list_mul ⟨_, e, rfl⟩ F.entry_list_mul (F.args_list_mul_2 _ _) (AutoListH.list___mul___list_int_3 l its.toArray n k t hfit hcap hlong) ⟨e, ?_⟩⟩)
  rw [hnew]
  exact ⟨.ref _, _, I.lnew (t' := s.toks) (r.rep k.toNat) (by rw [len_rep, Nat.mul_comm]; exact hz), rfl, q _ I.fresh⟩

/-! ### del xs[i] -/
end

/-! ### xs[a:b] = ys -/
section
variable {prog : Program} {w : World} {A : Around} {E : Value → Shared → Prop} {s : Shared}
set_option maxRecDepth 100000 in
end

section
variable {X : Cx}
end
end L2

namespace Att
open PySem PySem.W PySem.Calls PyProof.Rows

/-! ### the script -/
theorem ints_of_wellAll {P : Params} {h : Heap} : ∀ (ns : List Int) (vs : List Value), WellAll P h vs (ns.map WData.int) → IntsAre vs ns := by
  intro ns
  induction ns with
  | nil =>
    intro vs w
    rw [List.map_nil] at w
    cases w
    exact .nil
  | cons n ns ih =>
    intro vs w
    rw [List.map_cons] at w
    cases w with
    | cons a b =>
      cases a
      exact .cons _ _ (ih _ b)

theorem script_of {l : OpenLaw} {n : Nat} (hn : l.most = some n) {P : Params} {h : Heap} {args : List WData} {vals : List Value}
    (hpre : l.row.toRowW.claim.pre args = true) (hwl : WellAll P h vals args) :
    ∃ a vs ns, vals = [Value.ref a] ∧ args = [WData.list (ns.map WData.int)] ∧ h.get? a = some { cls := .type "list", data := .seq vs.toArray } ∧ IntsAre vs ns ∧ ns.length ≤ n := by
  have hsh : WShape.hasAll [] args [.list .int] = true := (pre_splitW hpre).1
  have hc : l.pre.holds [] { args := args } = true := (pre_splitW hpre).2
  obtain ⟨d, r, rfl, h1, h2⟩ := hasAllW_cons hsh
  obtain rfl := hasAllW_nil h2
  obtain ⟨xs, rfl, h3⟩ := hasW_list h1
  obtain ⟨ns, rfl⟩ := items_int h3
  have hlen : ns.length ≤ n := by
    unfold OpenLaw.pre at hc
    have h4 : (WTm.not (.lt (.lit (.int (n : Int))) (.len (.arg 0)))).holds [] { args := [.list (ns.map .int)] } = true := by
      have h4 := (holds_andW hc).1
      rw [hn] at h4
      exact h4
    have h5 := condW_of h4 (w_not (w_lt w_lit (w_len_list (w_arg rfl))))
    rw [List.length_map] at h5
    refine Nat.le_of_not_lt fun q => ?_
    have q' : (n : Int) < ((ns.length : Nat) : Int) := by omega
    first
      | (rw [decide_eq_true q'] at h5; exact absurd h5 (by decide))
      | (simp at h5; omega)
  cases hwl with
  | cons w1 w2 =>
    cases w2
    cases w1 with
    | list ho hall => exact ⟨_, _, ns, rfl, rfl, ho, ints_of_wellAll ns _ hall, hlen⟩

theorem post_true (l : OpenLaw) (args : List WData) : l.row.toRowW.claim.post args (.bool true) args = true :=
  postW_of (r := l.row.toRowW) (X := (true == true))
    (show WShape.has [] (.bool true) .bool = true by first | rfl | decide | simp [WShape.has, WShape.arms, WShape.armsAll])
    (show (WTm.eq .res (.lit (.bool true))).value [] { args := args, res := some (.bool true), after := args } = some (.bool (true == true)) from w_eq_bool (w_res rfl) w_lit) rfl

/-! ### the attachment: holds_open's last premise (the goal 'hc' behind k_head) from a wpAny of the law's body -/
/-- the same from a codeAny of the CALL (for a layer whose function contracts speak of calls) -/
theorem attach_call {l : OpenLaw} {n : Nat} {q : Program} {loose : List Str} {XP : (Str → Option Value) → Heap → Prop} {YP : World → Heap → Prop} {d : DefRec}
    (hn : l.most = some n) (hdf : d.params.defaults = [])
    (call : ∀ (w : World) (s₀ s₁ : Shared) (mg mb : Str → Option Value) (fa : Addr) (o : Obj) (pm cd doc : Value) (a : Addr) (vs : List Value) (ns : List Int),
      Ground q loose [] XP w s₀ mg mb s₁.heap → YP w s₁.heap →
      s₁.heap.get? fa = some o → o.data = .func (docDef d.name d.params d.body d.scope pm cd doc) → s₁.heap.CodeRec cd d.name → mg d.name = some (.ref fa) →
      s₁.heap.get? a = some { cls := .type "list", data := .seq vs.toArray } → IntsAre vs ns → ns.length ≤ n → s₁.gens = #[] →
      codeAny (model l.prog w) callerA (.call (.ref fa) ⟨[.ref a], []⟩) (fun r s' => r = .ok (.ret (.bool true)) ∧ OldK s₁.heap s'.heap ∧ s'.os = s₁.os ∧ AllBare s'.gens) s₁) :
    WalkO q loose XP YP l.row.toRowW d [] (fun f vs => PySem.call f vs) := by
  intro w s₀ s₁ mg mb G Y fa o pm cd doc dV kV ho hd hcd hD hmg hg args vals as hpre hlay hrd hwl hlo
  obtain rfl : dV = .none := Dflts.none hD hdf
  obtain rfl : kV = .none := Dflts.noKw hD
  obtain ⟨a, vs, ns, rfl, rfl, hobj, hints, hlen⟩ := script_of hn hpre hwl
  refine enter_call (codeAny_mono (call w s₀ s₁ mg mb fa o pm cd doc a vs ns G Y ho (fd_plain hd) hcd hmg hobj hints hlen hg) fun r s' hq => ?_)
  obtain ⟨rfl, h2, h3, h4⟩ := hq
  exact ⟨.inl ⟨.bool true, .bool true, [], rfl, fun _ => rfl, .bool true, post_true l _, fun _ => ⟨List.Pairwise.nil, fun _ hm => (nomatch hm)⟩⟩, h2, h3, h4⟩

/-! ### rules over ANY heap (no ledger) from facts about the written part K: the library's own take a ledger (News) for what they write -/
section
variable {prog : Program} {w : World} {A : Around} {E : Value → Shared → Prop} {s : Shared} {K : Frag}

/-! the whole heap as the ledger: makes every rule that writes through a ledger a rule over any heap -/
end
end Att

namespace L2
open PySem PySem.Spec PyProof.Rows

theorem vals_ints : ∀ {vs : List Value} {ns : List Int}, IntsAre vs ns → Vals (ns.map V.int) vs
  | _, _, .nil => .nil
  | _, _, .cons n t h => .cons ⟨t, rfl⟩ (vals_ints h)

/-- nothing is tracked but the script, known to the object (or it is an object of the module) -/
def Only (H : Hp) : Prop := ∀ b, H b = none ∨ ∃ o xs, H b = some (.frz o (.lst xs))

/-- THE HEAD: the law's promise, at the heap behind the top. F, the promise of the law's def, may use that base is part of the heap (so K.In base, base.Ns mainGlobals mg stand in Mod) -/
theorem law_call {P : Program} {w : World} {K : PySem.W.Frag} {mg mb : Str → Option Value} {CX : CXT} {k : Nat} {fa a : Addr} {fd : FuncData} {x : Str} {sp : Sp} {s₁ : Shared} {vs : List Value} {ns : List Int}
    (KX : K.In s₁.heap) (hns : s₁.heap.Ns mainGlobals mg) (hb : s₁.heap.Ns builtinsNs mb) (hbb : ∀ x : Str, x ≠ "__name__" → mb x = bootBuiltins x) (hlim : s₁.heap.NoLimit) (hg : s₁.gens = #[])
    (ha : s₁.heap.get? a = some { cls := .type "list", data := .seq vs.toArray }) (hi : IntsAre vs ns) (hl : ns.length ≤ sizeLine) (hr : Room k callerA)
    (F : ∀ base : Heap, K.In base → base.Ns mainGlobals mg → FnOk P w K mg base CX k fa fd [x] sp) (hbind : ∀ (s : Shared) (u : Value), BindsTo s fd ⟨[u], []⟩ [(x, u)])
    (hsp : ∀ H : Hp, Only H → SqL K H a (ns.map V.int) → sp [.ref a] H (fun v _ => v = .bl true) fun _ _ _ => False)
    (hCX : ∀ H e s', CX [] H s₁ (fun _ _ _ => False) e s' → False) :
    codeAny (model P w) callerA (.call (.ref fa) ⟨[.ref a], []⟩) (fun r s' => r = .ok (.ret (.bool true)) ∧ OldK s₁.heap s'.heap ∧ s'.os = s₁.os ∧ AllBare s'.gens) s₁ := by
  have rv := vals_ints hi
  have lenV := hi.length
  -- from an abstract heap in which nothing but the script may be tracked
  have core : ∀ H : Hp, Only H → SqL K H a (ns.map V.int) → HOk P w H s₁.heap → (∀ b, H b ≠ none → b = a) → (H a ≠ none → K.lookup a = none) →
      codeAny (model P w) callerA (.call (.ref fa) ⟨[.ref a], []⟩) (fun r s' => r = .ok (.ret (.bool true)) ∧ OldK s₁.heap s'.heap ∧ s'.os = s₁.os ∧ AllBare s'.gens) s₁ := by
    intro H hO hS hok hA hK
    have base_of : ∀ {b : Addr} {o : Obj}, s₁.heap.get? b = some o → H b = none → (hidT s₁.heap H).get? b = some o := fun e n => hidT_get e n
    have noA : ∀ {b : Addr} {o : Obj} {es : Array DictEntry} {ep : Nat}, s₁.heap.get? b = some o → o.data = .dict es ep → H b = none := fun {b o es ep} e d => by
      cases q : H b with
      | none => rfl
      | some u =>
        have e' : b = a := hA b (by rw [q]; simp)
        subst e'
        rw [ha] at e; cases e
        have d' : Data.seq vs.toArray _ = Data.dict es ep := d
        cases d'
    have nsK : ∀ {b : Addr} {m : Str → Option Value}, s₁.heap.Ns b m → (hidT s₁.heap H).Ns b m := fun {b m} ⟨o, es, ep, e, d, r⟩ => ⟨o, es, ep, base_of e (noA e d), d, r⟩
    have hKb : K.In (hidT s₁.heap H) := fun b o e => base_of (KX b o e) (by
      cases q : H b with
      | none => rfl
      | some u =>
        have e' : b = a := hA b (by rw [q]; simp)
        subst e'
        rw [hK (by rw [q]; simp)] at e; cases e)
    have hM : Mod K mg (hidT s₁.heap H) := ⟨hKb, nsK hns, ⟨mb, nsK hb, hbb⟩, let ⟨mc, h1, h2⟩ := hlim; ⟨mc, nsK h1, h2⟩⟩
    have e0 : Env0 P w K mg (hidT s₁.heap H) callerA [] s₁ H := ⟨rfl, hM, fun b o e => of_hidT e, Nat.le_of_eq (hidT_size _ _), trivial, fun b hb => absurd (show b ∈ ([] : List Addr) from hb) (by simp), hok, .of_eq hg⟩
    refine codeAny_mono ((F _ hKb (nsK hns)).run callerA [] s₁ H ⟨[.ref a], []⟩ [.ref a] [.ref a] _ _ hr e0 (hbind s₁ (.ref a)) (.cons rfl .nil) (hsp H hO hS)) fun r s' h => ?_
    cases r with
    | error e => exact (hCX H e s' h).elim
    | ok fl =>
      cases fl with
      | next => exact False.elim h
      | brk => exact False.elim h
      | cont => exact False.elim h
      | ret u =>
        obtain ⟨v, H', os, bare, un, hok', r', q⟩ := h
        have q' : v = .bl true := q
        subst q'
        obtain rfl : u = Value.bool true := r'
        refine ⟨rfl, OldK.of_keep fun b o e => ?_, os, bare⟩
        cases q : H b with
        | none => exact un.keep b o e q (by intro z; exact absurd (show b ∈ ([] : List Addr) from z) (by simp)) (by simp)
        | some u =>
          rcases hO b with z | ⟨ob, xs, z⟩
          · rw [q] at z; cases z
          · have z2 := un.frzs b ob _ z
            obtain ⟨e1, _⟩ := hok b _ z
            obtain ⟨e2, _⟩ := hok' b _ z2
            rw [e] at e1; cases e1
            exact e2
  cases hk : K.lookup a with
  | some o =>
    -- the script is one of the module's own objects
    have e := KX a o hk
    rw [ha] at e
    cases e
    refine core (fun _ => none) (fun _ => .inl rfl) (.inr ⟨_, vs.toArray, _, hk, rfl, rfl, rfl, by rw [List.size_toArray, lenV]; exact hl, by simpa using rv⟩) (fun b u z => by have z' : (none : Option HO) = some u := z; cases z') (fun b z => absurd rfl z) fun z => absurd rfl z
  | none =>
    refine core (fun b => if b = a then some (.frz { cls := .type "list", data := .seq vs.toArray } (.lst (ns.map V.int))) else none) (fun b => ?_) (.inl (.inr ⟨{ cls := .type "list", data := .seq vs.toArray }, if_pos rfl⟩)) (fun b u z => ?_) (fun b z => ?_) fun _ => hk
    · by_cases hb : b = a
      · exact .inr ⟨_, _, if_pos hb⟩
      · exact .inl (if_neg hb)
    · by_cases hb : b = a
      · have z' := (if_pos hb).symm.trans z
        cases z'
        subst hb
        exact ⟨ha, by rw [List.length_map]; exact hl, vs, _, rv, ha⟩
      · have z' := (if_neg hb).symm.trans z
        cases z'
    · by_cases hb : b = a
      · exact hb
      · exact absurd (if_neg hb) z
end L2

namespace L2
open PySem PySem.Spec PyProof.Rows

/-- the goal that k_head leaves (case hc), from the law's promise. F gives the function object fd (K's own) once, then the promise over every base -/
theorem walk_of {l : PySem.W.OpenLaw} {n k : Nat} {q : Program} {loose : List Str} {XP : (Str → Option Value) → Heap → Prop} {YP : World → Heap → Prop} {d : DefRec} {K : Params → PySem.W.Frag} {CX : World → CXT} {sp : World → Sp} {x : Str}
    (hn : l.most = some n) (hn2 : n ≤ sizeLine) (hdf : d.params.defaults = []) (hr : Room k callerA)
    (hY : ∀ (w : World) (h : Heap), YP w h → (K w.params).In h)
    (F : ∀ (w : World) (mg : Str → Option Value) (fa : Addr) (h : Heap), (K w.params).In h → h.Ns mainGlobals mg → mg d.name = some (.ref fa) →
      ∃ fd : FuncData, (∀ (s : Shared) (u : Value), BindsTo s fd ⟨[u], []⟩ [(x, u)]) ∧
        ∀ base : Heap, (K w.params).In base → base.Ns mainGlobals mg → FnOk l.prog w (K w.params) mg base (CX w) k fa fd [x] (sp w))
    (hsp : ∀ (w : World) (H : Hp) (a : Addr) (ns : List Int), ns.length ≤ n → Only H → SqL (K w.params) H a (ns.map V.int) → sp w [.ref a] H (fun v _ => v = .bl true) fun _ _ _ => False)
    (hCX : ∀ (w : World) (H : Hp) (s : Shared) (e : Value) (s' : Shared), CX w [] H s (fun _ _ _ => False) e s' → False) :
    PySem.W.WalkO q loose XP YP l.row.toRowW d [] (fun f vs => PySem.call f vs) := by
  refine Att.attach_call hn hdf fun w s₀ s₁ mg mb fa o pm cd doc a vs ns G Y ho hd hcd hmg hobj hints hlen hg => ?_
  have KX := hY w _ Y
  obtain ⟨fd, hb, hF⟩ := F w mg fa _ KX G.T.g hmg
  exact law_call KX G.T.g G.T.b G.T.builtins G.T.nolimit hg hobj hints (Nat.le_trans hlen hn2) hr hF hb (fun H hO hS => hsp w H a ns hlen hO hS) fun H e s' => hCX w H s₁ e s'
end L2

/-! SHORT WORDS over the layer: a def of the text, its body, what a loop and a test want. -/
namespace L2
open PySem PySem.Spec PyProof.Rows

/-! ### the text by places -/
/-- the j-th statement of a class's body -/
def inClass (s : Stmt) (j : Nat) : Stmt := match s with
  | .ClassDef _ _ _ body _ _ _ _ _ _ _ => body.getD j (.Pass ⟨0, 0, 0, 0⟩)
  | _ => .Pass ⟨0, 0, 0, 0⟩
def defArgs (s : Stmt) : Arguments := match s with
  | .FunctionDef _ a _ _ _ _ _ _ _ _ => a
  | _ => { posonlyargs := [], args := [], vararg := none, kwonlyargs := [], kw_defaults := [], kwarg := none, defaults := [] }
def defBody (s : Stmt) : List Stmt := match s with
  | .FunctionDef _ _ b _ _ _ _ _ _ _ => b
  | _ => []
def defScope (s : Stmt) : Scope := match s with
  | .FunctionDef _ _ _ _ _ _ sc _ _ _ => sc
  | _ => { kind := .function, names := [], isGenerator := false, isCoroutine := false }

/-! ### no exception leaves a def -/
abbrev CX0 : CXT := fun _ _ _ _ _ _ => False
abbrev E0 : XK := fun _ _ _ => False
theorem pass0 {X : Cx} : Passes CX0 X E0 := fun _ _ _ _ _ _ _ h => h.elim

/-! ### a def (or method) of the text as it stands behind the top -/
structure Fun (K : PySem.W.Frag) (x qual : Str) (st : Stmt) (f : Addr) (fd : FuncData) : Prop where
  ex : ∃ (oc : Value) (od : Option Addr) (kV doc pm : Value) (an : Option Addr) (cdv ct : Value) (osl : Array (Option Value)),
    fd = PySem.W.fnOf x qual (defArgs st) (defBody st) (defScope st) .none kV doc pm an cdv ct ∧ K.lookup f = some ⟨oc, od, .func fd, osl⟩ ∧ PySem.W.codeIn K cdv qual = true
  kp : PySem.W.keepIn K (.ref f) = true
section
variable {P : Program} {w : World} {K : PySem.W.Frag} {mg : Str → Option Value} {base : Heap}
/-- THE RULE for a def: its body as a term of rules, and the reading of that term -/
theorem Fun.ok {x qual : Str} {st : Stmt} {f : Addr} {fd : FuncData} {N ps : List Str} {k : Nat} {sp : Sp} (F : Fun K x qual st f fd) (S : FnScope N ps (defScope st)) (len : ∀ vs H Q E, sp vs H Q E → vs.length = ps.length)
    (hbody : ∀ (cdv : Value) (A : Around) (outer : List Env) (s : Shared) (H : Hp) (vs : List V) (Q : VK) (E : XK), Room k (A.deeper (envOfC qual (defScope st) s.heap.objs.size f cdv)) → sp vs H Q E →
      ∃ t, PSs (cxOf CX0 P w K mg base N qual (defScope st) f cdv A outer s H E).nox (defBody st) t ∧ t { nx := fun _ H' => Q .non H', rt := Q } (start N vs) H) : FnOk P w K mg base CX0 (k + 1) f fd ps sp := by
  obtain ⟨oc, od, kV, doc, pm, an, cdv, ct, osl, rfl, lk, hcd⟩ := F.ex
  refine fn_of lk hcd S len fun A outer s H vs Q E hr hsp => ?_
  obtain ⟨t, h, q⟩ := hbody cdv A outer s H vs Q E hr hsp
  exact ⟨t, h.nox, q⟩
/-- how its arguments bind (no defaults): h is «fun _ _ _ _ _ _ us hl => match us, hl with | [_, _], _ => rfl», one _ a parameter -/
theorem Fun.binds {x qual : Str} {st : Stmt} {f : Addr} {fd : FuncData} {ps : List Str} (F : Fun K x qual st f fd)
    (h : ∀ (kV doc pm : Value) (an : Option Addr) (cdv ct : Value) (us : List Value), us.length = ps.length → bindArgs (PySem.W.fnOf x qual (defArgs st) (defBody st) (defScope st) .none kV doc pm an cdv ct) ⟨us, []⟩ = pure (ps.zip us)) : Binds K fd ps [] := by
  obtain ⟨oc, od, kV, doc, pm, an, cdv, ct, osl, rfl, lk, hcd⟩ := F.ex
  exact .all (h kV doc pm an cdv ct)
theorem fun_mk {x qual : Str} {st : Stmt} {f : Addr} {oc : Value} {od an : Option Addr} {osl : Array (Option Value)} {kV doc pm cdv ct : Value} (l : K.lookup f = some ⟨oc, od, .func (PySem.W.fnOf x qual (defArgs st) (defBody st) (defScope st) .none kV doc pm an cdv ct), osl⟩)
    (c : PySem.W.codeIn K cdv qual = true) (k : PySem.W.keepIn K (.ref f) = true) : Fun K x qual st f (PySem.W.fnOf x qual (defArgs st) (defBody st) (defScope st) .none kV doc pm an cdv ct) := ⟨⟨oc, od, kV, doc, pm, an, cdv, ct, osl, rfl, l, c⟩, k⟩
end
theorem hu_of {A : Around} {k : Nat} (hr : Room k A) : A.units + 1 < cLine := Nat.lt_of_le_of_lt (Nat.add_le_add_left (by decide : 1 ≤ 64) _) hr.units
theorem small1000 {n : Nat} (h : n ≤ 1000) : n < sizeLine := Nat.lt_of_le_of_lt h (by decide)

/-! ### expressions in short: the name that stands in the i-th slot -/
section
variable {X : Cx}
theorem pv (i : Nat) {x : Str} {pos : Pos} (hN : X.N[i]? = some x := by rfl) (hv : Vis X.env.scope x := by first | exact Or.inl rfl | exact Or.inr (Or.inl rfl) | exact Or.inr (Or.inr rfl)) (hd : (x == ("__debug__" : Str)) = false := by decide)
    (hcd : (x == ("__classdict__" : Str)) = false := by decide) : PE X (.Name x pos) (tVar i) := pe_var hN hv hd hcd
end

/-! ### tests -/
theorem iteF {A B : Prop} (h : B) : if false = true then A else B := by
  rw [if_neg Bool.false_ne_true]
  exact h
theorem iteT {A B : Prop} (h : A) : if true = true then A else B := by
  rw [if_pos rfl]
  exact h
theorem ite2 {c A B : Prop} [Decidable c] (h1 : c → A) (h2 : ¬ c → B) : if c then A else B := by
  by_cases h : c
  · rw [if_pos h]
    exact h1 h
  · rw [if_neg h]
    exact h2 h
theorem iteNS {c A B : Prop} [Decidable c] (hc : c) (h : B) : if (!decide c) = true then A else B := by
  rw [decide_eq_true hc]
  exact iteF h

/-! ### heaps -/
/-- all that was tracked is as it was -/
def Same (H H' : Hp) : Prop := ∀ b o, H b = some o → H' b = some o
theorem Same.refl (H : Hp) : Same H H := fun _ _ h => h
theorem Same.trans {H H1 H2 : Hp} (a : Same H H1) (b : Same H1 H2) : Same H H2 := fun c o h => b c o (a c o h)
theorem Same.free {H H' : Hp} (e : Same H H') {l : Addr} (h : H' l = Option.none) : H l = Option.none := by
  cases q : H l with
  | none => rfl
  | some o =>
    rw [e l o q] at h
    cases h
theorem Same.seq {K : PySem.W.Frag} {H H' : Hp} {a : Addr} {xs : List V} (e : Same H H') (h : SqL K H a xs) : SqL K H' a xs := by
  rcases h with (h | ⟨o, h⟩) | h
  · exact .inl (.inl (e _ _ h))
  · exact .inl (.inr ⟨o, e _ _ h⟩)
  · exact .inr h

end L2

namespace L2
open PySem PySem.Spec PyProof.Rows

/-! ### lists of pairs as tables -/
section
variable {κ : Type} [DecidableEq κ]
def valV (kvs : List (κ × V)) (k : κ) : Option V := (kvs.find? fun kv => decide (kv.1 = k)).map (·.2)
/-- in its place, or at the end -/
def putK (kvs : List (κ × V)) (k : κ) (v : V) : List (κ × V) :=
  if (kvs.any fun kv => decide (kv.1 = k)) = true then kvs.map (fun kv => if kv.1 = k then (kv.1, v) else kv) else kvs ++ [(k, v)]
def dropK (kvs : List (κ × V)) (k : κ) : List (κ × V) := kvs.filter fun kv => decide (kv.1 ≠ k)

theorem valV_pos {p : κ × V} {r : List (κ × V)} {k : κ} (e : p.1 = k) : valV (p :: r) k = some p.2 := by simp [valV, List.find?_cons, e]
theorem valV_neg {p : κ × V} {r : List (κ × V)} {k : κ} (e : ¬ p.1 = k) : valV (p :: r) k = valV r k := by simp [valV, List.find?_cons, e]
theorem valV_any (k : κ) : ∀ kvs : List (κ × V), (kvs.any fun kv => decide (kv.1 = k)) = (valV kvs k).isSome
  | [] => rfl
  | p :: r => by
    rw [List.any_cons]
    by_cases e : p.1 = k
    · simp only [valV_pos e, decide_eq_true e, Bool.true_or, Option.isSome_some]
    · rw [valV_neg e, decide_eq_false e, Bool.false_or]; exact valV_any k r
theorem valV_map (k j : κ) (y : V) : ∀ kvs : List (κ × V), valV (kvs.map fun kv => if kv.1 = k then (kv.1, y) else kv) j = (valV kvs j).map fun x => if j = k then y else x
  | [] => rfl
  | p :: r => by
    have ih := valV_map k j y r
    rw [List.map_cons]
    by_cases h : p.1 = k
    · rw [if_pos h]
      by_cases e : p.1 = j
      · rw [valV_pos (p := (p.1, y)) e, valV_pos e, Option.map_some, if_pos (e.symm.trans h)]
      · rw [valV_neg (p := (p.1, y)) e, valV_neg e, ih]
    · rw [if_neg h]
      by_cases e : p.1 = j
      · rw [valV_pos (p := p) e, valV_pos e, Option.map_some, if_neg (fun z => h (e.trans z))]
      · rw [valV_neg (p := p) e, valV_neg e, ih]
theorem valV_snoc (k j : κ) (y : V) : ∀ kvs : List (κ × V), valV kvs k = none → valV (kvs ++ [(k, y)]) j = if j = k then some y else valV kvs j
  | [], _ => by
    by_cases e : k = j
    · rw [if_pos e.symm]; exact valV_pos (p := (k, y)) e
    · rw [if_neg (fun z => e z.symm)]; exact valV_neg (p := (k, y)) e
  | p :: r, hn => by
    rw [List.cons_append]
    have hk : ¬ p.1 = k := fun z => by rw [valV_pos z] at hn; cases hn
    rw [valV_neg hk] at hn
    have ih := valV_snoc k j y r hn
    by_cases e : p.1 = j
    · rw [valV_pos e, valV_pos e, if_neg (fun z => hk (e.trans z))]
    · rw [valV_neg e, valV_neg e, ih]
theorem valV_put (kvs : List (κ × V)) (k j : κ) (y : V) : valV (putK kvs k y) j = if j = k then some y else valV kvs j := by
  unfold putK
  by_cases a : (kvs.any fun kv => decide (kv.1 = k)) = true
  · rw [if_pos a, valV_map]
    rw [valV_any] at a
    by_cases e : j = k
    · obtain ⟨x, hx⟩ := Option.isSome_iff_exists.mp a
      rw [if_pos e, e, hx, Option.map_some, if_pos rfl]
    · rw [if_neg e]
      cases valV kvs j with
      | none => rfl
      | some x => rw [Option.map_some, if_neg e]
  · rw [if_neg a]
    refine valV_snoc k j y kvs ?_
    rw [valV_any] at a
    cases q : valV kvs k with
    | none => rfl
    | some x => rw [q] at a; exact (a rfl).elim
theorem length_putK (kvs : List (κ × V)) (k : κ) (v : V) : (putK kvs k v).length ≤ kvs.length + 1 := by
  unfold putK
  split
  · rw [List.length_map]; omega
  · rw [List.length_append, List.length_cons, List.length_nil]; omega
theorem putK_new {kvs : List (κ × V)} {k : κ} (v : V) (h : valV kvs k = none) : putK kvs k v = kvs ++ [(k, v)] := by
  unfold putK
  rw [valV_any, h]
  exact if_neg (by decide)

theorem RelO.isSome_eq {o : Option V} {u : Option Value} (r : RelO o u) : o.isSome = u.isSome := by
  cases o with
  | none => cases u with
    | none => rfl
    | some _ => exact (show False from r).elim
  | some _ => cases u with
    | none => exact (show False from r).elim
    | some _ => rfl
theorem RelO.getD {o : Option V} {u : Option Value} {d : V} {d' : Value} (r : RelO o u) (rd : RelV d d') : RelV (o.getD d) (u.getD d') := by
  cases o with
  | none => cases u with
    | none => exact rd
    | some _ => exact (show False from r).elim
  | some _ => cases u with
    | none => exact (show False from r).elim
    | some _ => exact r

/-- raw tables of the same keys -/
theorem KV.val {kvs : List (κ × V)} {vs : List (κ × Value)} (r : KV kvs vs) (k : κ) : RelO (valV kvs k) (valueAt vs k) := by
  unfold KV at r
  induction r with
  | nil => exact True.intro
  | @cons p q ps qs h t ih =>
    obtain ⟨h1, h2⟩ := h
    by_cases e : p.1 = k
    · have e' : q.1 = k := h1.symm.trans e
      have b : valueAt (q :: qs) k = some q.2 := by simp [valueAt, List.find?_cons, e']
      rw [valV_pos e, b]; exact h2
    · have e' : ¬ q.1 = k := fun z => e (h1.trans z)
      have b : valueAt (q :: qs) k = valueAt qs k := by simp [valueAt, List.find?_cons, e']
      rw [valV_neg e, b]; exact ih
theorem KV.any {kvs : List (κ × V)} {vs : List (κ × Value)} (r : KV kvs vs) (k : κ) : (kvs.any fun kv => decide (kv.1 = k)) = vs.any fun kv => decide (kv.1 = k) := by
  unfold KV at r
  induction r with
  | nil => rfl
  | cons h t ih => rw [List.any_cons, List.any_cons, ih, h.1]
theorem KV.repl {kvs : List (κ × V)} {vs : List (κ × Value)} (r : KV kvs vs) (k : κ) {y : V} {u : Value} (ry : RelV y u) :
    KV (kvs.map fun kv => if kv.1 = k then (kv.1, y) else kv) (vs.map fun kv => if kv.1 = k then (kv.1, u) else kv) := by
  unfold KV at r ⊢
  induction r with
  | nil => exact .nil
  | @cons p q ps qs h t ih =>
    rw [List.map_cons, List.map_cons]
    refine .cons ?_ ih
    obtain ⟨h1, h2⟩ := h
    by_cases e : p.1 = k
    · rw [if_pos e, if_pos (h1.symm.trans e)]; exact ⟨h1, ry⟩
    · rw [if_neg e, if_neg (fun z => e (h1.trans z))]; exact ⟨h1, h2⟩
theorem KV.put {kvs : List (κ × V)} {vs : List (κ × Value)} (r : KV kvs vs) (k : κ) {y : V} {u : Value} (ry : RelV y u) : KV (putK kvs k y) (stored vs k u) := by
  unfold putK stored
  rw [r.any k]
  by_cases e : (vs.any fun kv => decide (kv.1 = k)) = true
  · rw [if_pos e, if_pos e]; exact r.repl k ry
  · rw [if_neg e, if_neg e]; exact Paired.snoc r ⟨rfl, ry⟩
theorem KV.drop {kvs : List (κ × V)} {vs : List (κ × Value)} (r : KV kvs vs) (k : κ) : KV (dropK kvs k) (without vs k) := by
  unfold KV at r ⊢
  unfold dropK without
  induction r with
  | nil => exact .nil
  | @cons p q ps qs h t ih =>
    obtain ⟨h1, h2⟩ := h
    rw [List.filter_cons, List.filter_cons]
    by_cases e : p.1 = k
    · have a : ¬ decide (p.1 ≠ k) = true := by simp [e]
      have b : ¬ decide (q.1 ≠ k) = true := by simp [h1.symm.trans e]
      rw [if_neg a, if_neg b]; exact ih
    · have e' : ¬ q.1 = k := fun z => e (h1.trans z)
      have a : decide (p.1 ≠ k) = true := by simp [e]
      have b : decide (q.1 ≠ k) = true := by simp [e']
      rw [if_pos a, if_pos b]; exact .cons ⟨h1, h2⟩ ih
theorem KV.length {kvs : List (κ × V)} {vs : List (κ × Value)} (r : KV kvs vs) : kvs.length = vs.length := Paired.length r
theorem dropK_le (kvs : List (κ × V)) (k : κ) : (dropK kvs k).length ≤ kvs.length := List.length_filter_le _ _
end


/-! ### a tracked dict, its keys ints and texts or tuples of these -/
theorem kV_is {P : Program} {w : World} {k : Key} {u : Value} (r : RelV (kV k) u) : (mixKind P w).is k u = true := by
  cases k with
  | inl i => obtain ⟨t, e⟩ := (show ∃ t, u = Value.int i t from r); subst e; exact mixKind_int P w i t
  | inr x => obtain ⟨t, e⟩ := (show ∃ t, u = Value.str x t from r); subst e; exact mixKind_str P w x t
theorem items_are {P : Program} {w : World} : ∀ {ks : List Key} {us : List Value}, Vals (ks.map kV) us → ItemsAre (mixKind P w) ks us
  | [], _, r => by rw [List.map_nil] at r; cases r; exact .nil
  | k :: ks, _, r => by
    rw [List.map_cons] at r
    cases r with
    | cons h t => exact .cons (kV_is h) (items_are t)

/-- raw entries of a dict with tuple keys -/
abbrev KT (H : Hp) : List (List Key × V) → List (List Key × Addr × Value) → Prop := Paired fun p q => p.1 = q.1 ∧ H q.2.1 = some (.tup (p.1.map kV)) ∧ RelV p.2 q.2.2
theorem KT.val {H : Hp} {kvs : List (List Key × V)} {xs : List (List Key × Addr × Value)} (r : KT H kvs xs) (k : List Key) : RelO (valV kvs k) ((atKey xs k).map (·.2)) := by
  induction r with
  | nil => exact True.intro
  | @cons p q ps qs h t ih =>
    obtain ⟨h1, _, h2⟩ := h
    by_cases e : p.1 = k
    · have e' : q.1 = k := h1.symm.trans e
      have b : atKey (q :: qs) k = some q.2 := by simp [atKey, List.find?_cons, e']
      rw [valV_pos e, b]; exact h2
    · have e' : ¬ q.1 = k := fun z => e (h1.trans z)
      have b : atKey (q :: qs) k = atKey qs k := by simp [atKey, List.find?_cons, e']
      rw [valV_neg e, b]; exact ih
theorem KT.repl {H : Hp} {kvs : List (List Key × V)} {xs : List (List Key × Addr × Value)} (r : KT H kvs xs) (k : List Key) {y : V} {u : Value} (ry : RelV y u) :
    KT H (kvs.map fun kv => if kv.1 = k then (kv.1, y) else kv) (xs.map (putAt k u)) := by
  induction r with
  | nil => exact .nil
  | @cons p q ps qs h t ih =>
    rw [List.map_cons, List.map_cons]
    refine .cons ?_ ih
    obtain ⟨h1, h2, h3⟩ := h
    unfold putAt
    by_cases e : p.1 = k
    · rw [if_pos e, if_pos (h1.symm.trans e)]; exact ⟨h1, h2, ry⟩
    · rw [if_neg e, if_neg (fun z => e (h1.trans z))]; exact ⟨h1, h2, h3⟩
theorem KT.put {H : Hp} {kvs : List (List Key × V)} {xs : List (List Key × Addr × Value)} (r : KT H kvs xs) (k : List Key) {b : Addr} {y : V} {u : Value} (hb : H b = some (.tup (k.map kV))) (ry : RelV y u) :
    KT H (putK kvs k y) (storedH xs k b u) := by
  have e : (kvs.any fun kv => decide (kv.1 = k)) = (atKey xs k).isSome := by
    rw [valV_any, (r.val k).isSome_eq, Option.isSome_map]
  unfold putK storedH
  rw [e]
  by_cases q : (atKey xs k).isSome = true
  · rw [if_pos q, if_pos q]; exact r.repl k ry
  · rw [if_neg q, if_neg q]; exact Paired.snoc r ⟨rfl, hb, ry⟩
theorem KT.keeps {H H' : Hp} {kvs : List (List Key × V)} {xs : List (List Key × Addr × Value)} (r : KT H kvs xs) (ht : ∀ b ys, H b = some (.tup ys) → H' b = some (.tup ys)) : KT H' kvs xs :=
  Paired.mapP r fun _ _ z => ⟨z.1, ht _ _ z.2.1, z.2.2⟩

section
variable {P : Program} {w : World} {H : Hp} {h : Heap} {a : Addr}
theorem rd_of {u : HO} (ok : HOk P w H h) (e : Rd H a u) : ObjOk P w H h a u := e.ok ok
theorem dk_rd {kvs : List (Key × V)} (ok : HOk P w H h) (e : Rd H a (.dK kvs)) : kvs.length ≤ sizeLine ∧ (a == sysModules) = false ∧ ∃ vs, KV kvs vs ∧ h.DictOf (mixKind P w) a vs :=
  show ObjOk P w H h a (.dK kvs) from rd_of ok e
theorem dk_of {kvs : List (Key × V)} (ok : HOk P w H h) (e : H a = some (.dK kvs)) : kvs.length ≤ sizeLine ∧ (a == sysModules) = false ∧ ∃ vs, KV kvs vs ∧ h.DictOf (mixKind P w) a vs := dk_rd ok (.inl e)
/-- a tracked tuple of ints and texts is a key -/
theorem key_of {ks : List Key} (ok : HOk P w H h) (e : H a = some (.tup (ks.map kV))) : (tupleKind (mixKind P w)).is h ks a := by
  obtain ⟨_, its, r, o, h1, h2, n, h3⟩ := (show ObjOk P w H h a (.tup (ks.map kV)) from ok a _ e)
  exact ⟨o, its.toArray, n, h1, h2, h3, by simpa using items_are r⟩
theorem dt_rd {kvs : List (List Key × V)} (ok : HOk P w H h) (e : Rd H a (.dT kvs)) : kvs.length ≤ sizeLine ∧ (a == sysModules) = false ∧
    ∃ xs, KT H kvs xs ∧ h.DictOfH (tupleKind (mixKind P w)) a xs := by
  obtain ⟨z, y, xs, r, o, es, ep, h1, h2, h3, h4, h5⟩ := (show ObjOk P w H h a (.dT kvs) from rd_of ok e)
  refine ⟨z, y, xs, r, o, es, ep, h1, h2, h3, h4, fun x hx => ?_, h5⟩
  have all : ∀ {l : List (List Key × V)} {m : List (List Key × Addr × Value)}, KT H l m → ∀ x ∈ m, (tupleKind (mixKind P w)).is h x.1 x.2.1 := by
    intro l m q
    induction q with
    | nil => intro x hx; exact nomatch hx
    | @cons p q ps qs hq t ih =>
      intro x hx
      rcases List.mem_cons.mp hx with e | hx
      · subst e
        exact key_of ok (by rw [← hq.1]; exact hq.2.1)
      · exact ih x hx
  exact all r x hx
theorem dt_of {kvs : List (List Key × V)} (ok : HOk P w H h) (e : H a = some (.dT kvs)) : kvs.length ≤ sizeLine ∧ (a == sysModules) = false ∧
    ∃ xs, KT H kvs xs ∧ h.DictOfH (tupleKind (mixKind P w)) a xs := dt_rd ok (.inl e)
end

/-- what the dict at a holds at the key y -/
def DGet (H : Hp) (a : Addr) (y : V) (r : Option V) : Prop :=
  (∃ kvs k, Rd H a (.dK kvs) ∧ y = kV k ∧ r = valV kvs k) ∨ ∃ kvs k b, Rd H a (.dT kvs) ∧ y = .ref b ∧ H b = some (.tup (k.map kV)) ∧ r = valV kvs k
/-- the heap behind a[y] = v -/
def DPut (H : Hp) (a : Addr) (y v : V) (H' : Hp) : Prop :=
  (∃ kvs k, H a = some (.dK kvs) ∧ y = kV k ∧ kvs.length < sizeLine ∧ H' = upd H a (.dK (putK kvs k v))) ∨
  ∃ kvs k b, H a = some (.dT kvs) ∧ y = .ref b ∧ H b = some (.tup (k.map kV)) ∧ kvs.length < sizeLine ∧ H' = upd H a (.dT (putK kvs k v))
theorem DPut.k {H : Hp} {a : Addr} {kvs : List (Key × V)} {k : Key} {v : V} (e : H a = some (.dK kvs)) (hl : kvs.length < sizeLine) : DPut H a (kV k) v (upd H a (.dK (putK kvs k v))) := .inl ⟨kvs, k, e, rfl, hl, rfl⟩
section
variable {X : Cx} {pins : List (Addr × Obj)} {σ : St} {H : Hp} {s : Shared} {a : Addr} {y v : V} {u r : Value} {o : Option V} {A : Around} {E : Value → Shared → Prop}

theorem Inv.big (I : Inv X pins σ H s) : sysModules < s.heap.objs.size := by
  have h : mainGlobals < s.heap.objs.size := (I.mod.glob.keeps I.bk).lt
  exact Nat.lt_trans (by decide) h

/-- d[y], there -/
theorem d_getItem {Q : Value → Shared → Prop} (hu : A.units + 1 < cLine) (I : Inv X pins σ H s) (g : DGet H a y (some v)) (ry : RelV y u) (h : ∀ w' s', Inv X pins σ H s' → RelV v w' → Q w' s') :
    wpAny (model X.prog X.w) A (getItem (.ref a) u) Q E s := by
  rcases g with ⟨kvs, k, e, ey, l⟩ | ⟨kvs, k, b, e, ey, eb, l⟩
  · subst ey
    obtain ⟨z, hd, vs, rel, dd⟩ := dk_rd I.hok e
    obtain ⟨w', hw, rw'⟩ := RelO.some_of (v := v) (o := valueAt vs k) (by rw [l]; exact rel.val k)
    exact wpAny_getItem_of (kV_is ry) dd.mapOf hw (h w' _ (I.tok _) rw')
  · subst ey
    cases (show u = Value.ref b from ry)
    obtain ⟨z, hd, xs, rel, dd⟩ := dt_rd I.hok e
    obtain ⟨w', hw, rw'⟩ := RelO.some_of (v := v) (o := (atKey xs k).map (·.2)) (by rw [l]; exact rel.val k)
    obtain ⟨p, hp, hp2⟩ := Option.map_eq_some_iff.mp hw
    refine wpAny_getItem_heap (tupleKind_room_in1 hu) (key_of I.hok eb) dd hp ?_
    rw [hp2]
    exact h w' _ (I.tok _) rw'
/-- y in d -/
theorem d_in {Q : Value → Shared → Prop} (hu : A.units + 1 < cLine) (I : Inv X pins σ H s) (g : DGet H a y o) (ry : RelV y u) (h : ∀ s', Inv X pins σ H s' → Q (.bool o.isSome) s') :
    wpAny (model X.prog X.w) A (compareOp .In u (.ref a)) Q E s := by
  rcases g with ⟨kvs, k, e, ey, l⟩ | ⟨kvs, k, b, e, ey, eb, l⟩
  · subst ey
    obtain ⟨z, hd, vs, rel, dd⟩ := dk_rd I.hok e
    refine wpAny_in_of (kV_is ry) hd dd.mapOf ?_
    rw [← (rel.val k).isSome_eq, ← l]
    exact h _ (I.tok _)
  · subst ey
    cases (show u = Value.ref b from ry)
    obtain ⟨z, hd, xs, rel, dd⟩ := dt_rd I.hok e
    refine wpAny_in_heap (tupleKind_room_in1 hu) (key_of I.hok eb) hd dd ?_
    have q := (rel.val k).isSome_eq
    rw [Option.isSome_map] at q
    rw [← q, ← l]
    exact h _ (I.tok _)
theorem d_notIn {Q : Value → Shared → Prop} (hu : A.units + 1 < cLine) (I : Inv X pins σ H s) (g : DGet H a y o) (ry : RelV y u) (h : ∀ s', Inv X pins σ H s' → Q (.bool (!o.isSome)) s') :
    wpAny (model X.prog X.w) A (compareOp .NotIn u (.ref a)) Q E s := by
  rcases g with ⟨kvs, k, e, ey, l⟩ | ⟨kvs, k, b, e, ey, eb, l⟩
  · subst ey
    obtain ⟨z, hd, vs, rel, dd⟩ := dk_rd I.hok e
    refine wpAny_notIn_of (kV_is ry) hd dd.mapOf ?_
    rw [← (rel.val k).isSome_eq, ← l]
    exact h _ (I.tok _)
  · subst ey
    cases (show u = Value.ref b from ry)
    obtain ⟨z, hd, xs, rel, dd⟩ := dt_rd I.hok e
    refine wpAny_notIn_heap (tupleKind_room_in1 hu) (key_of I.hok eb) hd dd ?_
    have q := (rel.val k).isSome_eq
    rw [Option.isSome_map] at q
    rw [← q, ← l]
    exact h _ (I.tok _)
/-- a dict's object is replaced -/
theorem d_write {h' : Heap} {t' : Nat} {ob : HO} (I : Inv X pins σ H s) (mu : Mut (H a)) (hs : Heap.SameBut a s.heap h') (he : ∃ q, h'.get? a = some q) (new : ObjOk X.prog X.w (upd H a ob) h' a ob) :
    Inv X pins σ (upd H a ob) { s with heap := h', toks := t' } :=
  I.write (x := a) (e := a) mu (.inl rfl) (fun b q hb z => (hs.2 b hb).trans z) he new
theorem dk_new {P : Program} {w : World} {H' : Hp} {h' : Heap} {kvs : List (Key × V)} {vs : List (Key × Value)} (z : kvs.length ≤ sizeLine) (hd : (a == sysModules) = false) (rel : KV kvs vs) (dd : h'.DictOf (mixKind P w) a vs) :
    ObjOk P w H' h' a (.dK kvs) := ⟨z, hd, vs, rel, dd⟩
/-- d[y] = v -/
theorem d_setItem {H' : Hp} {Q : Unit → Shared → Prop} (hu : A.units + 1 < cLine) (I : Inv X pins σ H s) (g : DPut H a y v H') (ry : RelV y u) (rv : RelV v r) (h : ∀ s', Inv X pins σ H' s' → Q () s') :
    wpAny (model X.prog X.w) A (setItem (.ref a) u r) Q E s := by
  rcases g with ⟨kvs, k, e, ey, l, eH⟩ | ⟨kvs, k, b, e, ey, eb, l, eH⟩
  · subst ey eH
    obtain ⟨z, hd, vs, rel, dd⟩ := dk_of I.hok e
    have hz : vs.length ≤ sizeLine := by rw [← rel.length]; exact z
    have hl : (putK kvs k v).length ≤ sizeLine := by have := length_putK kvs k v; omega
    refine wpAny_setItem_pairs (hsz := hz) (kV_is ry) dd fun h' dd' hs => h _ ?_
    have he : ∃ q, h'.get? a = some q := let ⟨q, _, _, hq, _⟩ := dd'; ⟨q, hq⟩
    exact d_write I (by rw [e]; exact True.intro) hs he (dk_new hl hd (rel.put k rv) dd')
  · subst ey eH
    cases (show u = Value.ref b from ry)
    obtain ⟨z, hd, xs, rel, dd⟩ := dt_of I.hok e
    have hz : xs.length ≤ sizeLine := by rw [← Paired.length rel]; exact z
    have hl : (putK kvs k v).length ≤ sizeLine := by have := length_putK kvs k v; omega
    refine wpAny_setItem_heap (hsz := hz) (tupleKind_room_in1 hu) (key_of I.hok eb) dd fun h' dd' hs => h _ ?_
    obtain ⟨q, es, ep, hq, h2, h3, h4, _, h5⟩ := dd'
    refine d_write I (by rw [e]; exact True.intro) hs ⟨q, hq⟩ ⟨hl, hd, _, (rel.put k eb rv).keeps fun c ys ec => ?_, q, es, ep, hq, h2, h3, h4, h5⟩
    rw [upd_ne (ne_of ec e (fun z => nomatch z))]
    exact ec
end

section
variable {X : Cx} {pins : List (Addr × Obj)} {σ : St} {H : Hp} {s : Shared} {a : Addr} {kvs : List (Key × V)} {k : Key} {u : Value} {A : Around} {E : Value → Shared → Prop}
/-- d.pop(k[, x]), there -/
theorem d_pop {v : V} {more : List Value} {Q : Value → Shared → Prop} (I : Inv X pins σ H s) (e : H a = some (.dK kvs)) (ry : RelV (kV k) u) (l : valV kvs k = some v) (hm : more = [] ∨ ∃ x, more = [x])
    (h : ∀ w' s', Inv X pins σ (upd H a (.dK (dropK kvs k))) s' → RelV v w' → Q w' s') : wpAny (model X.prog X.w) A (call (.builtin "dict.pop") (.ref a :: u :: more)) Q E s := by
  obtain ⟨z, hd, vs, rel, dd⟩ := dk_of I.hok e
  obtain ⟨w', hw, rw'⟩ := RelO.some_of (v := v) (o := valueAt vs k) (by rw [← l]; exact rel.val k)
  have hp : (keyPart u).isSome = true := by
    cases k with
    | inl i => obtain ⟨t, q⟩ := (show ∃ t, u = Value.int i t from ry); subst q; rfl
    | inr x => obtain ⟨t, q⟩ := (show ∃ t, u = Value.str x t from ry); subst q; rfl
  have ha : argsOk "dict.pop" ⟨.ref a :: u :: more, []⟩ := by
    rcases hm with q | ⟨x, q⟩
    · subst q; exact PySem.F.args_dict_pop_2 _ _
    · subst q; exact PySem.F.args_dict_pop_3 _ _ _
  refine call_meetsIn PySem.F.slot_dict_pop dd.typeIs PySem.F.entry_dict_pop ha (meets_dict_pop_there (mixKind X.prog X.w) a (kV_is ry) more hm hp)
    ⟨vs, w', dd, by rw [← rel.length]; exact z, hw, fun h' dd' hs => h w' _ ?_ rw'⟩
  have he : ∃ q, h'.get? a = some q := let ⟨q, _, _, hq, _⟩ := dd'; ⟨q, hq⟩
  exact d_write I (by rw [e]; exact True.intro) hs he (dk_new (Nat.le_trans (dropK_le kvs k) z) hd (rel.drop k) dd')
/-- d.pop(k, x), not there -/
theorem d_popD {r : Value} {Q : Value → Shared → Prop} (I : Inv X pins σ H s) (e : H a = some (.dK kvs)) (ry : RelV (kV k) u) (l : valV kvs k = none) (h : ∀ s', Inv X pins σ H s' → Q r s') :
    wpAny (model X.prog X.w) A (call (.builtin "dict.pop") [.ref a, u, r]) Q E s := by
  obtain ⟨z, hd, vs, rel, dd⟩ := dk_of I.hok e
  have hn : valueAt vs k = none := RelO.none_of (by rw [← l]; exact rel.val k)
  have hp : (keyPart u).isSome = true := by
    cases k with
    | inl i => obtain ⟨t, q⟩ := (show ∃ t, u = Value.int i t from ry); subst q; rfl
    | inr x => obtain ⟨t, q⟩ := (show ∃ t, u = Value.str x t from ry); subst q; rfl
  exact call_meetsIn PySem.F.slot_dict_pop dd.typeIs PySem.F.entry_dict_pop (PySem.F.args_dict_pop_3 _ _ _) (meets_dict_pop_default (mixKind X.prog X.w) a (kV_is ry) hd hp r) ⟨vs, dd, hn, h _ (I.tok _)⟩
end


/-! ### readings and rules -/
/-- the element of a subscription, not a slice -/
def NoSl (i : Expr) : Prop := ∀ ov iv, subscripted i false ov iv = operate [ov, iv] (getItem ov iv)
theorem subD_of {prog : Program} {w : World} {A : Around} {E : Value → Shared → Prop} {s : Shared} {env : Env} {value slice : Expr} {pos : Pos} {T id : String} {Q : Value → Shared → Prop}
    (hl : typeLookup (.type T) "__getitem__" = pure (some (.builtin id))) (hs : NoSl slice)
    (h : wpAny (model prog w) A (eval value env) (fun o s₁ => wpAny (model prog w) A (eval slice env) (fun i s₂ => s₂.TypeIs o T ∧ wpAny (model prog w) A (getItem o i) Q E s₂) E s₁) E s) :
    wpAny (model prog w) A (eval (.Subscript value slice pos) env) Q E s := by
  refine Subscript_ (wpAny_mono h (fun o s₁ h₁ => wpAny_mono h₁ (fun i s₂ h₂ => ?_) fun _ _ x => x) fun _ _ x => x)
  obtain ⟨hT, h₂⟩ := h₂
  unfold subscriptTail
  refine wpAny_bind ?_
  rw [getitemInPython_of_ne hT.not_modules]
  refine wpAny_bind (wpAny_specialOf hT hl ?_)
  have fin : wpAny (model prog w) A (subscripted slice false o i) (fun r s₃ => wpAny (model prog w) A (letTemporaryGo value o r >>= fun _ => pure r) Q E s₃) E s₂ := by
    rw [hs o i]
    exact wpAny_operating (wpAny_mono h₂ (fun r s₃ h₃ => wpAny_bind (wpAny_letTemporaryGo (wpAny_pure h₃))) fun _ _ x => x)
  first
    | exact wpAny_pure (wpAny_bind fin)
    | exact wpAny_bind (wpAny_pure (wpAny_bind fin))
    | exact wpAny_bind fin

theorem dict_typeIs {X : Cx} {pins : List (Addr × Obj)} {σ : St} {H : Hp} {s : Shared} {a : Addr} {y : V} {o : Option V} (I : Inv X pins σ H s) (g : DGet H a y o) : s.TypeIs (.ref a) "dict" := by
  rcases g with ⟨kvs, k, e, _, _⟩ | ⟨kvs, k, b, e, _, _, _⟩
  · obtain ⟨_, _, vs, _, dd⟩ := dk_rd I.hok e
    exact dd.typeIs
  · obtain ⟨_, _, xs, _, dd⟩ := dt_rd I.hok e
    exact dd.typeIs
/-- d[y] -/
def tDGet (td ty : TE) : TE := fun σ H Q => td σ H fun x H1 => ty σ H1 fun y H2 => ∃ a v, x = .ref a ∧ DGet H2 a y (some v) ∧ Q v H2
/-- y in d, y not in d -/
def tDIn (ty td : TE) : TE := fun σ H Q => ty σ H fun y H1 => td σ H1 fun x H2 => ∃ a o, x = .ref a ∧ DGet H2 a y o ∧ Q (.bl o.isSome) H2
def tDNotIn (ty td : TE) : TE := fun σ H Q => ty σ H fun y H1 => td σ H1 fun x H2 => ∃ a o, x = .ref a ∧ DGet H2 a y o ∧ Q (.bl (!o.isSome)) H2
/-- d[y] = v -/
def sDPut (td ty tv : TE) : TS := fun D σ H => tv σ H fun v H1 => td σ H1 fun x H2 => ty σ H2 fun y H3 => ∃ a H4, x = .ref a ∧ DPut H3 a y v H4 ∧ D.nx σ H4
section
variable {X : Cx} {o i e value : Expr} {pos pos' tpos : Pos} {td ty tv : TE}
theorem pe_dget (hu : X.A.units + 1 < cLine) (ho : PE X o td) (hi : PE X i ty) (hs : NoSl i) : PE X (.Subscript o i pos) (tDGet td ty) := by
  intro pins s σ H Q I h
  refine subD_of PySem.F.slot_dict_getitem.lookup hs (thn (ho pins s σ H _ I h) fun u s1 ⟨x, H1, I1, rx, q1⟩ => thn (hi pins s1 σ H1 _ I1 q1) fun iv s2 ⟨y, H2, I2, ry, a, v, ex, g, q2⟩ => ?_)
  subst ex
  obtain rfl : u = Value.ref a := rx
  exact ⟨dict_typeIs I2 g, d_getItem hu I2 g ry fun w' s3 I3 rw' => ⟨v, H2, I3, rw', q2⟩⟩
theorem pc_din (hu : X.A.units + 1 < cLine) (hi : PE X i ty) (ho : PE X o td) : PC X .In i o (tDIn ty td) := by
  intro pins s σ H Q I h
  refine thn (hi pins s σ H _ I h) fun iv s1 ⟨y, H1, I1, ry, q1⟩ => thn (ho pins s1 σ H1 _ I1 q1) fun u s2 ⟨x, H2, I2, rx, a, ov, ex, g, q2⟩ => ?_
  subst ex
  obtain rfl : u = Value.ref a := rx
  exact d_in hu I2 g ry fun s3 I3 => ⟨.bl ov.isSome, H2, I3, rfl, q2⟩
theorem pc_dnotin (hu : X.A.units + 1 < cLine) (hi : PE X i ty) (ho : PE X o td) : PC X .NotIn i o (tDNotIn ty td) := by
  intro pins s σ H Q I h
  refine thn (hi pins s σ H _ I h) fun iv s1 ⟨y, H1, I1, ry, q1⟩ => thn (ho pins s1 σ H1 _ I1 q1) fun u s2 ⟨x, H2, I2, rx, a, ov, ex, g, q2⟩ => ?_
  subst ex
  obtain rfl : u = Value.ref a := rx
  exact d_notIn hu I2 g ry fun s3 I3 => ⟨.bl (!ov.isSome), H2, I3, rfl, q2⟩
theorem ps_dput (hu : X.A.units + 1 < cLine) (ho : PE X o td) (hi : PE X i ty) (hv : PE X value tv) (hs : swapsWith value (some (.Subscript o i pos')) pos.line X.env = pure false) :
    PS X (.Assign [.Subscript o i pos'] value pos) (sDPut td ty tv) := by
  intro pins s σ H D I h
  refine wpAny_Assign_Subscript (thn (hv pins s σ H _ I h) fun r s1 ⟨v, H1, I1, rv, q1⟩ => thn (ho pins s1 σ H1 _ I1 q1) fun u s2 ⟨x, H2, I2, rx, q2⟩ => thn (hi pins s2 σ H2 _ I2 q2) fun iv s3 ⟨y, H3, I3, ry, a, H4, ex, g, q3⟩ => ?_) hs
  subst ex
  obtain rfl : u = Value.ref a := rx
  exact d_setItem hu I3 g ry rv fun s4 I4 => ⟨σ, H4, I4, q3⟩
end


/-! ### displays -/
theorem dk_empty {P : Program} {w : World} {H : Hp} (h : Heap) (hb : sysModules < h.objs.size) : ObjOk P w H (h.push { cls := .type "dict", data := .dict #[] }) h.objs.size (.dK []) :=
  ⟨Nat.zero_le _, beq_eq_false_iff_ne.mpr (Ne.symm (Nat.ne_of_lt hb)), [], .nil, Heap.DictOf.new h⟩
/-- {}, to be a dict of the kind that is wanted -/
def tDNewK : TE := fun _ H Q => ∀ p, H p = none → Q (.ref p) (upd H p (.dK []))
section
variable {X : Cx} {pos : Pos}
theorem pe_dnewK : PE X (.Dict [] [] pos) tDNewK := fun pins s σ H Q I h =>
  wpAny_Dict_empty ⟨.ref s.heap.objs.size, _, I.laid (a := s.heap.objs.size) (o := .dK []) (t' := s.toks) (fun _ _ q => Heap.get?_push_of_some _ q) (Nat.le_refl _) (dk_empty s.heap I.big), rfl, h _ (I.hok.fresh (Nat.le_refl _))⟩
end

/-! ### methods -/
structure M2 (X : Cx) (o : Expr) (m : Str) (apos : Pos) (e f : Expr) (cpos : Pos) : Prop where
  base : attributeBase o m X.env (eval o X.env) = eval o X.env
  few : ((backTo cpos (starEach [e, f] X.env)).all (fun x => !x.1) && (backToKw cpos (keywordEach [] X.env)).all (fun x => x.1.isSome)
    && decide (([e, f] : List Expr).length + ([] : List Keyword).length + (if ([] : List Keyword).isEmpty then 0 else 1) < 30)) = true
  line : (apos.endLine == cpos.line) = true
  trees : backTo cpos (starEach [e, f] X.env) = [(false, eval e X.env), (false, eval f X.env)]

/-- a is a dict, whatever its keys -/
def IsD (H : Hp) (a : Addr) : Prop := (∃ kvs, Rd H a (.dK kvs)) ∨ ∃ kvs, Rd H a (.dT kvs)
theorem isD_at {X : Cx} {pins : List (Addr × Obj)} {σ : St} {H : Hp} {s : Shared} {a : Addr} (I : Inv X pins σ H s) (d : IsD H a) :
    s.TypeIs (.ref a) "dict" ∧ (∀ b, Value.ref a = .ref b → ∃ ob, s.heap.get? b = some ob ∧ ob.dict = none) ∧ (a == sysModules) = false := by
  rcases d with ⟨kvs, e⟩ | ⟨kvs, e⟩
  · obtain ⟨_, hd, vs, _, dd⟩ := dk_rd I.hok e
    refine ⟨dd.typeIs, fun b q => ?_, hd⟩
    cases q
    obtain ⟨ob, _, _, h1, h2, _⟩ := dd
    exact ⟨ob, h1, h2.2.1⟩
  · obtain ⟨_, hd, xs, _, dd⟩ := dt_rd I.hok e
    refine ⟨dd.typeIs, fun b q => ?_, hd⟩
    cases q
    obtain ⟨ob, _, _, h1, h2, _⟩ := dd
    exact ⟨ob, h1, h2.2.1⟩

section
variable {X : Cx} {pins : List (Addr × Obj)} {σ : St} {H : Hp} {s : Shared} {a : Addr} {y d : V} {u r : Value} {o : Option V} {A : Around} {E : Value → Shared → Prop}
/-- d.get(y, x) -/
theorem d_get2 {Q : Value → Shared → Prop} (hu : A.units + 1 < cLine) (I : Inv X pins σ H s) (g : DGet H a y o) (ry : RelV y u) (rd : RelV d r) (h : ∀ w' s', Inv X pins σ H s' → RelV (o.getD d) w' → Q w' s') :
    wpAny (model X.prog X.w) A (call (.builtin "dict.get") [.ref a, u, r]) Q E s := by
  rcases g with ⟨kvs, k, e, ey, l⟩ | ⟨kvs, k, b, e, ey, eb, l⟩
  · subst ey
    obtain ⟨z, hd, vs, rel, dd⟩ := dk_rd I.hok e
    refine call_meetsIn PySem.F.slot_dict_get dd.typeIs PySem.F.entry_dict_get (PySem.F.args_dict_get_3 _ _ _) (meets_dict_get_default (mixKind X.prog X.w) a (kV_is ry) hd r) ⟨_, dd.mapOf, h _ _ (I.tok _) ?_⟩
    rw [l]
    exact (rel.val k).getD rd
  · subst ey
    cases (show u = Value.ref b from ry)
    obtain ⟨z, hd, xs, rel, dd⟩ := dt_rd I.hok e
    refine call_meetsIn PySem.F.slot_dict_get dd.typeIs PySem.F.entry_dict_get (PySem.F.args_dict_get_3 _ _ _) (meetsH_dict_get_default (tupleKind (mixKind X.prog X.w)) a b hd r) ⟨tupleKind_room_in1 hu, k, xs, key_of I.hok eb, dd, h _ _ (I.tok _) ?_⟩
    rw [l]
    exact (rel.val k).getD rd
end

def tDGet2 (td ty tx : TE) : TE := fun σ H Q => td σ H fun x H1 => ∃ a, x = .ref a ∧ IsD H1 a ∧ ty σ H1 fun y H2 => tx σ H2 fun z H3 => ∃ o, DGet H3 a y o ∧ Q (o.getD z) H3
def tDPop2 (td ty tx : TE) : TE := fun σ H Q => td σ H fun x H1 => ∃ a, x = .ref a ∧ IsD H1 a ∧ ty σ H1 fun y H2 => tx σ H2 fun z H3 => ∃ kvs k, H3 a = some (.dK kvs) ∧ y = kV k ∧
  (∀ v, valV kvs k = some v → Q v (upd H3 a (.dK (dropK kvs k)))) ∧ (valV kvs k = none → Q z H3)
section
variable {X : Cx} {o e f : Expr} {apos cpos : Pos} {td ty tx : TE}
theorem pe_dget2 (hu : X.A.units + 1 < cLine) (ho : PE X o td) (he : PE X e ty) (hf : PE X f tx) (m : M2 X o "get" apos e f cpos) : PE X (.Call (.Attribute o "get" apos) [e, f] [] cpos) (tDGet2 td ty tx) := by
  intro pins s σ H Q I h
  refine wpAny_Call_method m.base m.few m.line PySem.F.plainAttrs_dict PySem.F.slot_dict_get PySem.F.type_dict_get (thn (ho pins s σ H _ I h) fun u s1 ⟨x, H1, I1, rx, a, ex, d, q1⟩ => ?_)
  subst ex
  obtain rfl : u = Value.ref a := rx
  obtain ⟨t1, t2, _⟩ := isD_at I1 d
  refine ⟨t1, t2, ?_⟩
  rw [m.trees]
  refine Calls.callWith_builtin rfl (Calls.evalArgs_plain (Calls.spliced_cons (thn (he pins s1 σ H1 _ I1 q1) fun iv s2 ⟨y, H2, I2, ry, q2⟩ =>
    Calls.spliced_cons (thn (hf pins s2 σ H2 _ I2 q2) fun fv s3 ⟨z, H3, I3, rz, ov, g, q3⟩ => Calls.spliced_nil ?_))))
  exact d_get2 hu I3 g ry rz fun w' s4 I4 rw' => ⟨_, H3, I4, rw', q3⟩
theorem pe_dpop2 (ho : PE X o td) (he : PE X e ty) (hf : PE X f tx) (m : M2 X o "pop" apos e f cpos) : PE X (.Call (.Attribute o "pop" apos) [e, f] [] cpos) (tDPop2 td ty tx) := by
  intro pins s σ H Q I h
  refine wpAny_Call_method m.base m.few m.line PySem.F.plainAttrs_dict PySem.F.slot_dict_pop PySem.F.type_dict_pop (thn (ho pins s σ H _ I h) fun u s1 ⟨x, H1, I1, rx, a, ex, d, q1⟩ => ?_)
  subst ex
  obtain rfl : u = Value.ref a := rx
  obtain ⟨t1, t2, _⟩ := isD_at I1 d
  refine ⟨t1, t2, ?_⟩
  rw [m.trees]
  refine Calls.callWith_builtin rfl (Calls.evalArgs_plain (Calls.spliced_cons (thn (he pins s1 σ H1 _ I1 q1) fun iv s2 ⟨y, H2, I2, ry, q2⟩ =>
    Calls.spliced_cons (thn (hf pins s2 σ H2 _ I2 q2) fun fv s3 ⟨z, H3, I3, rz, kvs, k, ea, ey, q3, q4⟩ => Calls.spliced_nil ?_))))
  subst ey
  cases l : valV kvs k with
  | some v => exact d_pop I3 ea ry l (.inr ⟨fv, rfl⟩) fun w' s4 I4 rw' => ⟨v, _, I4, rw', q3 v l⟩
  | none => exact d_popD I3 ea ry l fun s4 I4 => ⟨z, H3, I4, rz, q4 l⟩
end

/-! ### dict(d): a copy -/
section
variable {X : Cx} {pins : List (Addr × Obj)} {σ : St} {H : Hp} {s : Shared} {a : Addr} {kvs : List (Key × V)} {A : Around} {E : Value → Shared → Prop}
theorem d_copyOf {Q : Value → Shared → Prop} (I : Inv X pins σ H s) (e : Rd H a (.dK kvs)) (h : ∀ p s', H p = none → Inv X pins σ (upd H p (.dK kvs)) s' → Q (.ref p) s') : wpAny (model X.prog X.w) A (call (.type "dict") [.ref a]) Q E s := by
  obtain ⟨z, hd, vs, rel, dd⟩ := dk_rd I.hok e
  refine kt_call_dict hd dd (by rw [← rel.length]; exact z) fun h' dd' hs => ?_
  refine h _ _ (I.hok.fresh (Nat.le_refl _)) (I.laid (a := s.heap.objs.size) (o := .dK kvs) (t' := s.toks) (fun b q hq => ?_) (Nat.le_refl _) (dk_new z (beq_eq_false_iff_ne.mpr (Ne.symm (Nat.ne_of_lt I.big))) rel dd'))
  exact (hs.2 b (Nat.ne_of_lt (Heap.lt_size hq))).trans (Heap.get?_push_of_some _ hq)
end


section
variable {X : Cx} {pins : List (Addr × Obj)} {σ : St} {H : Hp} {s : Shared} {a : Addr} {y : V} {u : Value} {A : Around} {E : Value → Shared → Prop}
end
end L2
namespace L2
open PySem PySem.Spec PyProof.Rows
section
variable {X : Cx}
end

/-! ### a dict's pairs: keys that differ -/
section
variable {κ : Type} [DecidableEq κ]
theorem valV_not {kvs : List (κ × V)} {k : κ} (h : valV kvs k = none) : ¬ k ∈ kvs.map (·.1) := by
  intro m
  obtain ⟨p, hp, e⟩ := List.mem_map.mp m
  have q : (kvs.any fun kv => decide (kv.1 = k)) = true := List.any_eq_true.mpr ⟨p, hp, decide_eq_true e⟩
  rw [valV_any, h] at q
  exact absurd q (by simp)
theorem valV_in {kvs : List (κ × V)} {k : κ} {v : V} (h : valV kvs k = some v) : k ∈ kvs.map (·.1) := by
  have q : (kvs.any fun kv => decide (kv.1 = k)) = true := by
    rw [valV_any, h]
    all_goals rfl
  obtain ⟨p, hp, e⟩ := List.any_eq_true.mp q
  exact List.mem_map.mpr ⟨p, hp, of_decide_eq_true e⟩
theorem nd_snoc : ∀ {l : List κ} {k : κ}, l.Nodup → ¬ k ∈ l → (l ++ [k]).Nodup
  | [], k, _, _ => by simp
  | a :: r, k, h, hk => by
    obtain ⟨h1, h2⟩ := List.nodup_cons.mp h
    show (a :: (r ++ [k])).Nodup
    refine List.nodup_cons.mpr ⟨fun m => ?_, nd_snoc h2 fun m => hk (List.mem_cons.mpr (Or.inr m))⟩
    rcases List.mem_append.mp m with q | q
    · exact h1 q
    · exact hk (List.mem_cons.mpr (Or.inl (List.mem_singleton.mp q).symm))
theorem nd_putK {kvs : List (κ × V)} {k : κ} (v : V) (hn : (kvs.map (·.1)).Nodup) (h : valV kvs k = none) : ((putK kvs k v).map (·.1)).Nodup := by
  rw [putK_new v h, List.map_append]
  exact nd_snoc hn (valV_not h)
theorem dropK_pos {p : κ × V} {r : List (κ × V)} {k : κ} (e : p.1 = k) : dropK (p :: r) k = dropK r k := by
  unfold dropK
  rw [List.filter_cons, if_neg (by simp [e])]
theorem dropK_neg {p : κ × V} {r : List (κ × V)} {k : κ} (e : ¬ p.1 = k) : dropK (p :: r) k = p :: dropK r k := by
  unfold dropK
  rw [List.filter_cons, if_pos (by simp [e])]
theorem dropK_mem {kvs : List (κ × V)} {k : κ} {p : κ × V} (h : p ∈ dropK kvs k) : p ∈ kvs := (List.mem_filter.mp h).1
theorem nd_dropK : ∀ {kvs : List (κ × V)} {k : κ}, (kvs.map (·.1)).Nodup → ((dropK kvs k).map (·.1)).Nodup
  | [], _, _ => List.nodup_nil
  | p :: r, k, h => by
    have h : (p.1 :: r.map (·.1)).Nodup := h
    obtain ⟨h1, h2⟩ := List.nodup_cons.mp h
    by_cases e : p.1 = k
    · rw [dropK_pos e]
      exact nd_dropK h2
    · rw [dropK_neg e]
      show (p.1 :: (dropK r k).map (·.1)).Nodup
      refine List.nodup_cons.mpr ⟨fun m => h1 ?_, nd_dropK h2⟩
      obtain ⟨q, hq, eq⟩ := List.mem_map.mp m
      exact List.mem_map.mpr ⟨q, dropK_mem hq, eq⟩
end
end L2

set_option Elab.async false
set_option maxRecDepth 100000
set_option maxHeartbeats 4000000
namespace L2
open PySem PySem.Spec PyProof.Rows
theorem closure_go {env : Env} : ∀ (names : List (Str × NameKind)) (acc : List (Str × Addr)), (∀ y ∈ names, y.2 = .free → ∃ c, env.cells.lookup y.1 = some c) → (∀ n c, acc.lookup n = some c → env.cells.lookup n = some c) →
    ∃ cl, (forIn names acc (fun (p : Str × NameKind) (cs : List (Str × Addr)) => (match p with | (name, kind) => if (kind == NameKind.free) = true then do let c ← cellOf env name; pure (ForInStep.yield ((name, c) :: cs)) else pure (ForInStep.yield cs) : Sem (ForInStep (List (Str × Addr)))))) = pure cl ∧
      (∀ n c, cl.lookup n = some c → env.cells.lookup n = some c) ∧ (∀ n, (acc.lookup n).isSome = true → (cl.lookup n).isSome = true) ∧ (∀ y ∈ names, y.2 = .free → (cl.lookup y.1).isSome = true)
  | [], acc, _, ha => ⟨acc, rfl, ha, fun _ h => h, fun _ h => nomatch h⟩
  | (n, k) :: r, acc, hf, ha => by
    by_cases hk : k = .free
    · subst hk
      obtain ⟨c, hc⟩ := hf (n, .free) List.mem_cons_self rfl
      obtain ⟨cl, e, h1, h2, h3⟩ := closure_go (env := env) r ((n, c) :: acc) (fun y hy => hf y (List.mem_cons_of_mem _ hy)) (fun m d hd => by
        rw [List.lookup_cons] at hd
        split at hd
        · rename_i he
          rw [← hd, ← hc, eq_of_beq he]
        · exact ha m d hd)
      refine ⟨cl, ?_, h1, fun m hm => h2 m ?_, fun y hy hyk => ?_⟩
      · rw [List.forIn_cons]
        show ((if (NameKind.free == NameKind.free) = true then do let c ← cellOf env n; pure (ForInStep.yield ((n, c) :: acc)) else pure (ForInStep.yield acc)) >>= _) = _
        rw [if_pos (show (NameKind.free == NameKind.free) = true from rfl)]
        have ec : cellOf env n = pure c := by unfold cellOf; rw [hc]
        rw [ec, pure_bind, pure_bind]
        exact e
      · rw [List.lookup_cons]; split
        · rfl
        · exact hm
      · rcases List.mem_cons.mp hy with rfl | hy
        · exact h2 n (by rw [List.lookup_cons]; simp)
        · exact h3 y hy hyk
    · obtain ⟨cl, e, h1, h2, h3⟩ := closure_go (env := env) r acc (fun y hy => hf y (List.mem_cons_of_mem _ hy)) ha
      refine ⟨cl, ?_, h1, h2, fun y hy hyk => ?_⟩
      · rw [List.forIn_cons]
        show ((if (k == NameKind.free) = true then do let c ← cellOf env n; pure (ForInStep.yield ((n, c) :: acc)) else pure (ForInStep.yield acc)) >>= _) = _
        rw [if_neg (by simpa using hk), pure_bind]
        exact e
      · rcases List.mem_cons.mp hy with rfl | hy
        · exact absurd hyk hk
        · exact h3 y hy hyk
theorem closure_ok {env : Env} {scope : Scope} (h : ∀ y ∈ scope.names, y.2 = .free → ∃ c, env.cells.lookup y.1 = some c) : ∃ cl, closureFor scope env = pure cl ∧
      (∀ n c, cl.lookup n = some c → env.cells.lookup n = some c) ∧ (∀ y ∈ scope.names, y.2 = .free → ∃ c, cl.lookup y.1 = some c) := by
  obtain ⟨cl, e, h1, _, h3⟩ := closure_go (env := env) scope.names [] h (fun _ _ z => by cases z)
  refine ⟨cl, ?_, h1, fun y hy hk => Option.isSome_iff_exists.mp (h3 y hy hk)⟩
  unfold closureFor
  show (forIn scope.names ([] : List (Str × Addr)) _ >>= _) = _
  refine (congrArg (fun m => m >>= fun (cs : List (Str × Addr)) => (pure cs : Sem _)) e).trans ?_
  exact pure_bind _ _
end L2

set_option Elab.async false
set_option linter.all false
set_option maxRecDepth 100000
set_option maxHeartbeats 4000000
namespace L2
open PySem PySem.Spec PyProof.Rows

/-! ### a comprehension's loop, no exception -/
section
variable {prog : Program} {w : World} {A : Around} {R : Result → Shared → Prop} {s : Shared}
abbrev FF : Value → Shared → Prop := fun _ _ => False
theorem toF {α : Type} {M : Model} {A : Around} {t : Sem α} {Q Q' : α → Shared → Prop} {E : Value → Shared → Prop} {s : Shared} (h : wpAny M A t Q FF s) (hQ : ∀ a s, Q a s → Q' a s) : wpAny M A t Q' E s := wpAny_mono h hQ fun _ _ x => x.elim
theorem comp_loop {elt target iter : Expr} {ifs : List Expr} {scope : Scope} {pos : Pos} {it acc : Value} {env : Env} (I : Nat → Shared → Prop)
    (turn : ∀ n s, I n s → wpAny (model prog w) A (pyNext it) (fun r s₁ => match r with
      | none => R (.ok .next) s₁
      | some v => wpAny (model prog w) A (letOwnedTupleGo target it v) (fun _ s₁' => wpAny (model prog w) A (assign target env v) (fun _ s₂ =>
          wpAny (model prog w) A (forIn ifs true fun c r => if r = true then do let ok ← isTrue c env (eval c env); pure (ForInStep.yield ok) else pure (ForInStep.yield r)) (fun ok s₃ =>
            if ok = true then wpAny (model prog w) A (eval elt env) (fun x s₄ =>
              wpAny (model prog w) A (call (.builtin "list.append") [acc, x]) (fun _ s₅ => ∃ m, m < n ∧ I m s₅) FF s₄) FF s₃
            else ∃ m, m < n ∧ I m s₃) FF s₂) FF s₁') FF s₁) FF s)
    (n : Nat) (h : I n s) : codeAny (model prog w) A (.compLoop (.ListComp elt [⟨target, iter, ifs, 0⟩] scope pos) 0 it acc env) R s := by
  refine codeAny_loop rfl I (fun n s hI => ?_) n h
  show wpAny _ A ((compTurn (.ListComp elt [⟨target, iter, ifs, 0⟩] scope pos) 0 it acc env).onRaise (fun x => do noteFrame x env; theTreesLotGoes x)) _ _ s
  refine wpAny_noted ?_
  rw [compTurn_list]
  refine wpAny_bind (wpAny_standAt (wpAny_bind (toF (turn n s hI) fun r s₁ h₁ => ?_)))
  cases r with
  | none => exact wpAny_pure h₁
  | some v =>
    refine wpAny_bind (toF h₁ fun _ s₁' h₁' => ?_)
    refine wpAny_bind (toF h₁' fun _ s₂ h₂ => wpAny_bind (toF h₂ fun ok s₃ h₃ => ?_))
    cases ok with
    | false => exact wpAny_pure ⟨rfl, h₃⟩
    | true =>
      exact wpAny_bind (wpAny_bind (toF h₃ fun x s₄ h₄ => wpAny_bind (toF h₄ fun _ s₅ h₅ => wpAny_pure (wpAny_pure ⟨rfl, h₅⟩))))
end

/-! ### the block's context -/
/-- the captured names: place in the frame, name -/
def CapOk (X : Cx) (scope : Scope) : List (Nat × Str) → Prop
  | [] => True
  | p :: r => (X.N[p.1]? = some p.2 ∧ X.env.scope.names.lookup p.2 = some .cell ∧ scope.names.lookup p.2 = some .free) ∧ CapOk X scope r
structure CompScope (X : Cx) (scope : Scope) (x : Str) (cp : List (Nat × Str)) : Prop where
  kind : scope.kind = .function
  hx : scope.names.lookup x = some .local
  nd : (x :: cp.map (·.2)).Nodup
  names : ∀ y ∈ scope.names, y.2 = .local → scope.names.lookup y.1 = some .local
  nocell : ∀ y ∈ scope.names, y.2 ≠ .cell
  free : ∀ y ∈ scope.names, y.2 = .free → X.env.scope.names.lookup y.1 = some .cell
  cap : CapOk X scope cp
def compCx (X : Cx) (scope : Scope) (cl : List (Str × Addr)) (C : Addr) (N : List Str) (s : Shared) (H : Hp) (fp : List Addr) : Cx where
  prog := X.prog
  w := X.w
  K := X.K
  mg := X.mg
  base := X.base
  A := X.A
  N := N
  s₀ := s
  H₀ := H
  env := compEnvC scope cl C X.env
  outer := X.stack
  stack := X.stack
  ex := fp
  fn := fun _ => false
  calm := X.calm
  pn := []
  xe := FF
def capV (σ : St) (cp : List (Nat × Str)) : St := cp.map fun p => (σ[p.1]?).join
theorem capV_len (σ : St) (cp : List (Nat × Str)) : (capV σ cp).length = cp.length := List.length_map _
theorem CapOk.get {X : Cx} {scope : Scope} : ∀ {cp : List (Nat × Str)} {i : Nat} {p : Nat × Str}, CapOk X scope cp → cp[i]? = some p → X.N[p.1]? = some p.2 ∧ X.env.scope.names.lookup p.2 = some .cell ∧ scope.names.lookup p.2 = some .free
  | [], _, _, _, h => by simp at h
  | _ :: _, 0, _, hc, h => by simp at h; subst h; exact hc.1
  | _ :: r, i + 1, p, hc, h => CapOk.get (cp := r) (i := i) hc.2 (by simpa using h)
theorem relabel_look {scope : Scope} {env : Env} {y : Str} {k : NameKind} : (relabel scope env).names.lookup y = some k → ∃ k0, scope.names.lookup y = some k0 ∧ (k = k0 ∨ (k0 = .free ∧ k = .cell)) := by
  unfold relabel
  show (scope.names.map _).lookup y = some k → _
  generalize scope.names = l
  induction l with
  | nil => intro h; cases h
  | cons p r ih =>
    obtain ⟨n, q⟩ := p
    intro h
    by_cases hc : (q == NameKind.free && env.scope.kind == .function && env.kindOf n == some .cell) = true
    · have e : (List.map (fun (x : Str × NameKind) => if (x.2 == NameKind.free && env.scope.kind == .function && env.kindOf x.1 == some .cell) = true then (x.1, NameKind.cell) else (x.1, x.2)) ((n, q) :: r)) = (n, .cell) :: List.map (fun (x : Str × NameKind) => if (x.2 == NameKind.free && env.scope.kind == .function && env.kindOf x.1 == some .cell) = true then (x.1, NameKind.cell) else (x.1, x.2)) r := by
        rw [List.map_cons]; dsimp only; rw [if_pos hc]
      have h' := e ▸ h
      rw [List.lookup_cons] at h' ⊢
      split at h'
      · rename_i he
        simp only [Bool.and_eq_true, beq_iff_eq] at hc
        exact ⟨q, rfl, .inr ⟨hc.1.1, (Option.some.inj h').symm⟩⟩
      · rename_i he
        exact ih h'
    · have e : (List.map (fun (x : Str × NameKind) => if (x.2 == NameKind.free && env.scope.kind == .function && env.kindOf x.1 == some .cell) = true then (x.1, NameKind.cell) else (x.1, x.2)) ((n, q) :: r)) = (n, q) :: List.map (fun (x : Str × NameKind) => if (x.2 == NameKind.free && env.scope.kind == .function && env.kindOf x.1 == some .cell) = true then (x.1, NameKind.cell) else (x.1, x.2)) r := by
        rw [List.map_cons]; dsimp only; rw [if_neg hc]
      have h' := e ▸ h
      rw [List.lookup_cons] at h' ⊢
      split at h'
      · rename_i he
        exact ⟨q, rfl, .inl (Option.some.inj h').symm⟩
      · rename_i he
        exact ih h'

section
variable {X : Cx} {pins : List (Addr × Obj)} {σ : St} {H : Hp} {s : Shared}
/-- an untracked record of ours becomes tracked -/
theorem Inv.adopt {D : Addr} {o : HO} (I : Inv X pins σ H s) (hn : H D = none) (hL : D ≠ X.env.locals) (h1 : X.s₀.heap.objs.size ≤ D) (h2 : ∀ x c, X.env.cells.lookup x = some c → c ≠ D) (h3 : ∀ p ∈ X.pn ++ pins, p.1 ≠ D)
    (new : ObjOk X.prog X.w (upd H D o) s.heap D o) : Inv X pins σ (upd H D o) s := by
  have nit : ∀ b u, H b = some u → b ≠ D := fun b u e z => by rw [z, hn] at e; cases e
  have := I.step (h' := s.heap) (H' := upd H D o) (g' := s.gens) (d' := s.drawn) (t' := s.toks) (ch := [D]) (fun b hb => ?_) (fun b o _ _ hc e _ => e) (fun b o _ _ hc e _ => ⟨o.slots, e⟩)
    (fun b o hc e n => by rw [upd_ne (fun z => hc (by simp [z]))]; exact n) (fun b o hc e => ⟨o, e⟩) (fun b xs e => by rw [upd_ne (nit b _ e)]; exact e) (fun b o u e => by rw [upd_ne (nit b _ e)]; exact e)
    (fun b ps e => ⟨#[], by rw [upd_ne (nit b _ e), e]; simp⟩) (fun m hm => hm) (fun b u e => ?_) I.bare
  · exact this
  · have e : b = D := by simpa using hb
    subst e
    exact ⟨.inr h1, hL, h2, h3⟩
  · by_cases hb : b = D
    · subst hb; rw [upd_same] at e; cases e; exact new
    · rw [upd_ne hb] at e
      exact (I.hok b u e).stay (fun _ _ _ q => q) (fun c q => by rw [upd_ne (nit c _ q)]; exact q) fun c xs q => by rw [upd_ne (nit c _ q)]; exact q

/-- the state at the block's entry -/
theorem comp_enter {scope : Scope} {x : Str} {cp : List (Nat × Str)} {cl : List (Str × Addr)} {C : Addr} {h1 : Heap} {fp : List Addr} {m : Str → Option Value} {tk : Nat}
    (S : CompScope X scope x cp) (I : Inv X pins σ H s) (hcl : ∀ n c, cl.lookup n = some c → X.env.cells.lookup n = some c) (hfr : ∀ y ∈ scope.names, y.2 = .free → ∃ c, cl.lookup y.1 = some c)
    (hf : ∀ b ∈ fp, FpOk X pins H b) (hC : s.heap.objs.size ≤ C) (hfp : ∀ b ∈ fp, b < s.heap.objs.size) (hns : h1.Ns C m) (hk : ∀ b o, s.heap.get? b = some o → h1.get? b = some o) :
    Inv (compCx X scope cl C (x :: cp.map (·.2)) s H fp) pins (none :: capV σ cp) H { s with heap := h1, toks := tk } := by
  have lt : ∀ n c, cl.lookup n = some c → c < s.heap.objs.size := fun n c e => by
    obtain ⟨v, q⟩ := I.cell n c (hcl n c e)
    exact q.lt
  refine ⟨⟨I.ok.mod, S.kind, I.ok.glob, I.ok.blt, hC, fun y z c e1 e2 => I.ok.inj y z c (hcl y c e1) (hcl z c e2), fun y hy => ?_, (fun y c z => by cases z), I.ok.hd, I.ok.frames, .inl rfl, fun b hb => ⟨?_, fun y c e => ?_⟩, I.bs,
      Nat.le_trans I.ok.bsz I.sz, fun b o e hb => ?_, fun b hb => ?_, I.stack, I.stkFree⟩, rfl, I.bare, Un.kept hk, ⟨m, hns, fun i y v e1 e2 e3 => ?_⟩, fun y c e => ?_, ?_, fun y c e => ?_, fun p hp => ?_, I.hok.kept hk, ?_⟩
  · have hy' : (relabel scope X.env).names.lookup y = some .cell ∨ (relabel scope X.env).names.lookup y = some .free := hy
    rcases hy' with q | q
    · obtain ⟨k0, e, z | ⟨z, _⟩⟩ := relabel_look q
      · exact absurd z.symm (S.nocell (y, k0) (PySem.mem_of_lookup e))
      · exact hfr (y, k0) (PySem.mem_of_lookup e) z
    · obtain ⟨k0, e, z | ⟨_, z⟩⟩ := relabel_look q
      · exact hfr (y, k0) (PySem.mem_of_lookup e) z.symm
      · cases z
  · exact Nat.ne_of_lt (Nat.lt_of_lt_of_le (hfp b hb) hC)
  · obtain ⟨_, _, _, _, q, _⟩ := hf b hb
    exact q y c (hcl y c e)
  · obtain ⟨_, _, _, q, _⟩ := hf b hb
    rcases q with q | q
    · exact I.ok.noex b o e q
    · exact absurd (Nat.lt_of_lt_of_le (Heap.lt_size (I.ok.bs b o e).1) q) (Nat.lt_irrefl _)
  · obtain ⟨_, q1, q2, _⟩ := hf b hb
    intro z
    rcases List.mem_cons.mp (I.stkSub b z) with e | e
    · exact q1 e
    · exact q2 e
  · cases i with
    | zero => cases e2
    | succ i =>
      have e1' : (cp.map (·.2))[i]? = some y := e1
      have e2' : (capV σ cp)[i]? = some (some v) := e2
      unfold capV at e2'
      rw [List.getElem?_map] at e1' e2'
      cases ep : cp[i]? with
      | none => rw [ep] at e1'; cases e1'
      | some p =>
        rw [ep] at e1' e2'
        have ey : p.2 = y := Option.some.inj e1'
        have ev : (σ[p.1]?).join = some v := Option.some.inj e2'
        obtain ⟨c1, c2, c3⟩ := S.cap.get ep
        subst ey
        have eσ : σ[p.1]? = some (some v) := by
          cases q : σ[p.1]? with
          | none => rw [q] at ev; cases ev
          | some z => rw [q] at ev; have : z = some v := ev; rw [this]
        obtain ⟨mm, _, hl⟩ := I.loc
        obtain ⟨u, r, l⟩ := hl p.1 p.2 v c1 eσ (.inr (.inl c2))
        refine ⟨u, r, ?_⟩
        rcases l with ⟨z, _⟩ | ⟨_, c, ec, hc⟩
        · have z' : X.env.scope.names.lookup p.2 = some .local := z
          rw [c2] at z'; cases z'
        · obtain ⟨c', ec'⟩ := hfr (p.2, .free) (PySem.mem_of_lookup c3) rfl
          have := hcl _ _ ec'
          rw [ec] at this; cases this
          have k : (compEnvC scope cl C X.env).kindOf p.2 = some .cell ∨ (compEnvC scope cl C X.env).kindOf p.2 = some .free := by
            rcases e3 with z | z | z
            · have z' : (relabel scope X.env).names.lookup p.2 = some .local := z
              obtain ⟨k0, e, zz | ⟨_, zz⟩⟩ := relabel_look z'
              · rw [c3] at e; cases e; cases zz
              · cases zz
            · exact .inl z
            · exact .inr z
          obtain ⟨oc, hoc, hod⟩ := hc
          exact .inr ⟨k, c, ec', oc, hk c oc hoc, hod⟩
  · obtain ⟨v, oc, hoc, hod⟩ := I.cell y c (hcl y c e)
    exact ⟨v, oc, hk c oc hoc, hod⟩
  · exact I.hok.fresh hC
  · exact I.freeC y c (hcl y c e)
  · have hp' : p ∈ pins := hp
    obtain ⟨e, n, n1, n2, d⟩ := I.pin p (List.mem_append_right _ hp')
    refine ⟨hk _ _ e, n, Nat.ne_of_lt (Nat.lt_of_lt_of_le (Heap.lt_size e) hC), fun z => ?_, d⟩
    rcases List.mem_cons.mp (I.stkSub _ z) with q | q
    · exact n1 q
    · exact n2 q
  · show (none :: capV σ cp).length = (x :: cp.map (·.2)).length
    rw [List.length_cons, List.length_cons, capV_len, List.length_map]
end
end L2

set_option Elab.async false
set_option linter.all false
set_option maxRecDepth 100000
set_option maxHeartbeats 4000000
namespace L2
open PySem PySem.Spec PyProof.Rows

/-- a comprehension's tests -/
def PTs (X : Cx) (ifs : List Expr) (t : TT) : Prop :=
  ∀ (pins : List (Addr × Obj)) (s : Shared) (σ : St) (H : Hp) (Q : Bool → Hp → Prop), Inv X pins σ H s → t σ H Q →
    wpAny (model X.prog X.w) X.A (forIn ifs true fun c r => if r = true then do let ok ← isTrue c X.env (eval c X.env); pure (ForInStep.yield ok) else pure (ForInStep.yield r)) (TP X pins σ Q) X.xe s
def tAlways : TT := fun _ H Q => Q true H
theorem pts_nil {X : Cx} : PTs X [] tAlways := fun _ _ _ H _ I h => wpAny_tests_nil ⟨H, I, h⟩
theorem pts_one {X : Cx} {c : Expr} {t : TT} (h : PT X c t) : PTs X [c] t := fun pins s σ H Q I q => wpAny_tests_one (h pins s σ H Q I q)

/-- W: by the turn, a measure, the items so far; END: what is wanted of the items and the heap -/
def compW (J : It) (cv : St) (tt : TT) (te : TE) (END : List V → Hp → Prop) (H1 : Hp) : Prop :=
  ∃ W : Nat → Nat → List V → Hp → Prop, (∃ m, W 0 m [] H1) ∧ ∀ i m ys H2, W i m ys H2 →
    (J.stop i H2 ∧ ys.length ≤ sizeLine ∧ END ys H2) ∨
    (J.go i H2 ∧ ys.length < sizeLine ∧ ∀ v H3, J.yld i H2 v H3 → ∃ (N : V → Hp → Prop) (N' : Hp → Prop), (∀ y H5, N y H5 → ∃ m', m' < m ∧ W (i + 1) m' (ys ++ [y]) H5) ∧ (∀ H4, N' H4 → ∃ m', m' < m ∧ W (i + 1) m' ys H4) ∧
      tt (some v :: cv) H3 fun b H4 => if b = true then te (some v :: cv) H4 N else N' H4)

section
variable {X : Cx} {pins : List (Addr × Obj)} {σ : St} {H : Hp} {s : Shared} {scope : Scope} {x : Str} {cp : List (Nat × Str)} {px pos : Pos} {elt iter : Expr} {ifs : List Expr} {tt : TT} {te : TE}
theorem comp_block {cl : List (Str × Addr)} {it : Addr} {fp : List Addr} {tn : Nat → Heap → Prop} {J : It} {END : List V → Hp → Prop} {E : Value → Shared → Prop} {RR : Value → Addr → Result → Shared → Prop}
    (S : CompScope X scope x cp) (hc : X.calm = true) (I : Inv X pins σ H s) (hcl : ∀ n c, cl.lookup n = some c → X.env.cells.lookup n = some c) (hfr : ∀ y ∈ scope.names, y.2 = .free → ∃ c, cl.lookup y.1 = some c)
    (T : Turn X.prog X.w X.K (.Name x px) J fp it tn) (st : tn 0 s.heap) (hf : ∀ b ∈ fp, FpOk X pins H b)
    (ht : ∀ cl C s H fp, PTs (compCx X scope cl C (x :: cp.map (·.2)) s H fp) ifs tt) (he : ∀ cl C s H fp, PE (compCx X scope cl C (x :: cp.map (·.2)) s H fp) elt te)
    (hw : compW J (capV σ cp) tt te END H)
    (hRR : ∀ D C s' ys H2 o, Inv X (pins ++ [(C, o)]) σ (upd H2 D (.lst ys)) s' → (∃ m, ∀ h : Heap, h.get? C = some o → h.Ns C m) → H2 D = none → END ys H2 → (∀ H', H' C = none → FpOk X pins H' C) → RR (.ref D) C (.ok .next) s') :
    wpAny (model X.prog X.w) X.A (newList []) (fun acc s₃ => wpAny (model X.prog X.w) X.A (newFunctionEnv scope X.env.globals cl [] X.env.qual none .none (some X.env)) (fun cenv s₄ =>
      codeAny (model X.prog X.w) X.A (.compStart (.ListComp elt [⟨.Name x px, iter, ifs, 0⟩] scope pos) 0 (.ref it) acc { cenv with scope := relabel scope X.env }) (RR acc cenv.locals) s₄) E s₃) E s := by
  refine wpAny_newObj_type (wpAny_newFunctionEnv S.nocell (by intro y hy; simp at hy) (fun h₁ hns₁ hsb₁ => ?_) S.kind)
  dsimp only at hns₁ hsb₁ ⊢
  generalize hH2 : s.heap.push { cls := .type "list", dict := none, data := .seq ([] : List Value).toArray } = G at hns₁ hsb₁ ⊢
  have hC : G.objs.size = s.heap.objs.size + 1 := by rw [← hH2, Heap.size_push]
  have hDC : s.heap.objs.size ≠ G.objs.size := by rw [hC]; exact Nat.ne_of_lt (Nat.lt_succ_self _)
  have hCle : s.heap.objs.size ≤ G.objs.size := by rw [hC]; exact Nat.le_succ _
  have below : ∀ b, b < s.heap.objs.size → b ≠ G.objs.size := fun b hb => by rw [hC]; exact Nat.ne_of_lt (Nat.lt_succ_of_lt hb)
  have old : ∀ b o, s.heap.get? b = some o → h₁.get? b = some o := fun b o e => hsb₁.extBut b o (below b (Heap.lt_size e)) (Heap.get?_push_of_some _ (hH2 ▸ Heap.get?_push_of_some _ e))
  have hacc : h₁.PlainList s.heap.objs.size #[] := ⟨_, hsb₁.extBut _ _ hDC (Heap.get?_push_of_some _ (hH2 ▸ Heap.get?_push_size _ rfl))⟩
  have hfp : ∀ b ∈ fp, b < s.heap.objs.size := fun b hb => by
    obtain ⟨o, e, _⟩ := T.obj 0 s.heap st b hb
    exact Heap.lt_size e
  have st₁ : tn 0 h₁ := T.keep _ _ _ st fun b _ o e => old b o e
  generalize hDe : s.heap.objs.size = D at *
  generalize hCe : G.objs.size = C at *
  have I₁ := comp_enter (tk := s.toks + ([] : List (Str × Value)).length) (C := C) S I hcl hfr hf (by rw [hDe]; exact hCle) (by rw [hDe]; exact hfp) hns₁ old
  generalize hX' : compCx X scope cl C (x :: cp.map (·.2)) s H fp = X' at I₁
  have eP : X'.prog = X.prog := by rw [← hX']; rfl
  have eW : X'.w = X.w := by rw [← hX']; rfl
  have eK : X'.K = X.K := by rw [← hX']; rfl
  have eA : X'.A = X.A := by rw [← hX']; rfl
  have eV : X'.env = compEnvC scope cl C X.env := by rw [← hX']; rfl
  have eX : X'.xe = FF := by rw [← hX']; rfl
  have eC : X'.calm = true := by rw [← hX']; exact hc
  have ht' := ht cl C s H fp
  have he' := he cl C s H fp
  rw [hX'] at ht' he'
  have hN : X'.N.Nodup := by rw [← hX']; exact S.nd
  have hg : PG X' (.Name x px) (gName 0) := pg_name hN (by rw [← hX']; rfl) (by rw [← hX']; exact .inl (lookup_relabel_local S.hx)) (.inr (by rw [← hX']; exact lookup_relabel_local S.hx))
  have fL : X'.env.locals = C := by rw [eV]; rfl
  have fpD : ∀ H' : Hp, H' D = none → FpOk X' pins H' D := fun H' hn => by
    refine ⟨hn, by rw [fL]; exact hDC, fun z => ?_, .inr (by rw [← hX', ← hDe]; exact Nat.le_refl _), fun y c e z => ?_, fun p hp z => ?_⟩
    · rw [← hX'] at z
      obtain ⟨_, o, ho, _⟩ := I.stack.mem z
      exact absurd (Heap.lt_size ho) (by rw [hDe]; exact Nat.lt_irrefl _)
    · rw [eV] at e
      obtain ⟨v, q⟩ := I.cell y c (hcl y c e)
      exact absurd q.lt (by rw [z, hDe]; exact Nat.lt_irrefl _)
    · have hp' : p ∈ pins := by rw [← hX'] at hp; exact hp
      exact absurd (Heap.lt_size (I.pin p (List.mem_append_right _ hp')).1) (by rw [z, hDe]; exact Nat.lt_irrefl _)
  have fpF : ∀ (pl : List (Addr × Obj)) (H' : Hp), (∀ b ∈ fp, H' b = none) → (∀ p ∈ pl, p ∈ pins ∨ p.1 = D) → ∀ b ∈ fp, FpOk X' pl H' b := fun pl H' hn hpl b hb => by
    obtain ⟨_, f1, f2, f3, f4, f5⟩ := hf b hb
    refine ⟨hn b hb, by rw [fL]; exact below b (hfp b hb), fun z => ?_, .inl (by rw [← hX']; exact hb), fun y c e => f4 y c (hcl y c (by rw [eV] at e; exact e)), fun p hp z => ?_⟩
    · rw [← hX'] at z
      rcases List.mem_cons.mp (I.stkSub b z) with q | q
      · exact f1 q
      · exact f2 q
    · have hp' : p ∈ pl := by rw [← hX'] at hp; exact hp
      rcases hpl p hp' with q | q
      · exact f5 p (List.mem_append_right _ q) z
      · have := hfp b hb
        rw [← z, q] at this
        exact absurd this (Nat.lt_irrefl _)
  obtain ⟨W, ⟨m0, w0⟩, turn⟩ := hw
  have loop : ∀ s₃ : Shared, s₃ = { s with heap := h₁, toks := s.toks + ([] : List (Str × Value)).length } →
      codeAny (model X.prog X.w) X.A (.compLoop (.ListComp elt [⟨.Name x px, iter, ifs, 0⟩] scope pos) 0 (.ref it) (.ref D) (compEnvC scope cl C X.env)) (RR (.ref D) C) s₃ := by
    rintro s₃ rfl
    refine comp_loop (fun n s' => ∃ i ys us ox H', Inv X' pins (ox :: capV σ cp) H' s' ∧ tn i s'.heap ∧ (∀ b ∈ fp, H' b = none) ∧ s'.heap.PlainList D us.toArray ∧ Vals ys us ∧ H' D = none ∧ W i n ys H') ?_ m0
      ⟨0, [], [], none, H, I₁, st₁, fun b hb => (hf b hb).1, hacc, .nil, I.hok.fresh (by rw [hDe]; exact Nat.le_refl _), w0⟩
    rintro n s3 ⟨i, ys, us, ox, H3, I3, st3, fr3, pl3, v3, n3, w3⟩
    obtain ⟨nD, oD⟩ := pl3
    -- the list is pinned
    have I3p : Inv X' (pins ++ [((D, { cls := .type "list", data := .seq us.toArray nD }) : Addr × Obj)]) (ox :: capV σ cp) H3 s3 := I3.pins_of fun p hp => by
      rcases List.mem_append.mp hp with z | z
      · exact I3.pin p (List.mem_append_right _ z)
      · have e : p = ((D, { cls := .type "list", data := .seq us.toArray nD }) : Addr × Obj) := by simpa using z
        subst e
        obtain ⟨f0, f1, f2, _⟩ := fpD H3 n3
        exact ⟨oD, f0, f1, f2, fun v z => by cases z⟩
    have plOk : ∀ p ∈ pins ++ [((D, { cls := .type "list", data := .seq us.toArray nD }) : Addr × Obj)], p ∈ pins ∨ p.1 = D := fun p hp => by
      rcases List.mem_append.mp hp with z | z
      · exact .inl z
      · have e : p = ((D, { cls := .type "list", data := .seq us.toArray nD }) : Addr × Obj) := by simpa using z
        subst e
        exact .inr rfl
    have dPin : ∀ {pl : List (Addr × Obj)} {σ' : St} {H' : Hp} {s' : Shared}, Inv X' ((pins ++ [((D, { cls := .type "list", data := .seq us.toArray nD }) : Addr × Obj)]) ++ pl) σ' H' s' → s'.heap.get? D = some { cls := .type "list", data := .seq us.toArray nD } ∧ H' D = none := fun I' => by
      obtain ⟨e, n, _⟩ := I'.pin (D, _) (List.mem_append_right _ (List.mem_append_left _ (List.mem_append_right _ (List.mem_singleton.mpr rfl))))
      exact ⟨e, n⟩
    rcases turn i n ys H3 w3 with ⟨stop, hl, hend⟩ | ⟨go, hl, step⟩
    · refine thn (eA ▸ T.done X' eP eW eK eC i _ s3 _ H3 FF I3p (fpF _ H3 fr3 plOk) st3 stop) fun r s4 ⟨hr, I4⟩ => ?_
      subst hr
      obtain ⟨e4, n4⟩ := dPin (pl := []) (by rw [List.append_nil]; exact I4)
      have I4' : Inv X' pins (ox :: capV σ cp) H3 s4 := I4.unpinned
      -- back to X
      have un : Un (frs X.stack) fp H H3 s.heap s4.heap := by
        have := I4'.base
        rw [← hX'] at this
        exact this
      have os4 : s4.os = s.os := by
        have := I4'.os
        rw [← hX'] at this
        exact this
      have J4 : Inv X pins σ H3 s4 := I.call' (ch := fp) os4 un (by have := I4'.hok; rw [eP, eW] at this; exact this) I4'.bare fun b hb => by
        obtain ⟨_, f1, f2, f3, f4, f5⟩ := hf b hb
        exact ⟨f3, f1, f4, f5⟩
      obtain ⟨mC, hnsC, _⟩ := I4'.loc
      rw [fL] at hnsC
      obtain ⟨oC, esC, epC, hoC, hdC, rC⟩ := hnsC
      have fpC : ∀ H', H' C = none → FpOk X pins H' C := fun H' hn => I.fpOk (by rw [hDe]; exact hCle) hn
      have nC : H3 C = none := by have := I4'.free; rw [fL] at this; exact this
      have J5 : Inv X (pins ++ [(C, oC)]) σ H3 s4 := J4.pins_of fun p hp => by
        rcases List.mem_append.mp hp with z | z
        · exact J4.pin p (List.mem_append_right _ z)
        · have e : p = (C, oC) := by simpa using z
          subst e
          obtain ⟨f0, f1, f2, _⟩ := fpC H3 nC
          exact ⟨hoC, f0, f1, f2, fun v z => by rw [hdC] at z; cases z⟩
      have fD : FpOk X pins H3 D := I.fpOk (by rw [hDe]; exact Nat.le_refl _) n4
      refine hRR D C s4 ys H3 oC (J5.adopt n4 fD.2.1 (Nat.le_trans I.sz (by rw [hDe]; exact Nat.le_refl _)) fD.2.2.2.2.1 (fun p hp => ?_) ⟨hl, us, nD, v3, e4⟩) ⟨mC, fun h q => ⟨oC, esC, epC, q, hdC, rC⟩⟩ n4 hend fpC
      rcases List.mem_append.mp hp with z | z
      · exact fD.2.2.2.2.2 p (List.mem_append_left _ z)
      · rcases List.mem_append.mp z with z | z
        · exact fD.2.2.2.2.2 p (List.mem_append_right _ z)
        · have e : p = (C, oC) := by simpa using z
          subst e
          exact Ne.symm hDC
    · refine thn (eA ▸ T.item X' eP eW eK eC i _ s3 _ H3 FF I3p (fpF _ H3 fr3 plOk) st3 go) fun r s4 ⟨u, hr, h4⟩ => ?_
      subst hr
      refine thn h4 fun _ s5 ⟨v, H5, I5, r5, y5, st5, fr5⟩ => ?_
      have I5' := I5.pinned (fpF _ H5 fr5 plOk) (T.obj _ _ st5)
      obtain ⟨N, N', hNn, hNn', q5⟩ := step v H5 y5
      have hgo := hg _ s5 _ H5 v u (fun σ' H' => σ' = some v :: capV σ cp ∧ H' = H5) I5' r5 ⟨rfl, rfl⟩
      rw [eP, eW, eA, eX, eV] at hgo
      refine thn hgo fun _ s6 ⟨σ6, H6, I6, e6, e6'⟩ => ?_
      subst e6 e6'
      have hto := ht' _ s6 _ H6 _ I6 q5
      rw [eP, eW, eA, eX, eV] at hto
      refine thn hto fun b s7 ⟨H7, I7, q7⟩ => ?_
      have keepTn : ∀ {σ' : St} {H' : Hp} {s' : Shared}, Inv X' ((pins ++ [((D, { cls := .type "list", data := .seq us.toArray nD }) : Addr × Obj)]) ++ pinsAt fp s5.heap) σ' H' s' → tn (i + 1) s'.heap ∧ ∀ b ∈ fp, H' b = none := fun I' =>
        ⟨T.keep _ _ _ st5 fun b hb o e => (I'.pin (b, o) (List.mem_append_right _ (List.mem_append_right _ (mem_pinsAt hb e)))).1, fun b hb => by
          obtain ⟨o, e, d⟩ := T.obj _ _ st5 b hb
          exact (I'.pin (b, o) (List.mem_append_right _ (List.mem_append_right _ (mem_pinsAt hb e)))).2.1⟩
      cases b with
      | false =>
        rw [if_neg (by decide)] at q7 ⊢
        obtain ⟨m', hm, w7⟩ := hNn' _ q7
        obtain ⟨e7, n7⟩ := dPin I7
        obtain ⟨t7, f7⟩ := keepTn I7
        exact ⟨m', hm, i + 1, ys, us, some v, H7, I7.unpinned.unpinned, t7, f7, ⟨nD, e7⟩, v3, n7, w7⟩
      | true =>
        rw [if_pos rfl] at q7 ⊢
        have heo := he' _ s7 _ H7 _ I7 q7
        rw [eP, eW, eA, eX, eV] at heo
        refine thn heo fun y s8 ⟨y8, H8, I8, r8, q8⟩ => ?_
        obtain ⟨e8, n8⟩ := dPin I8
        obtain ⟨t8, f8⟩ := keepTn I8
        obtain ⟨m', hm, w8⟩ := hNn _ _ q8
        refine wpAny_list_append_plain ⟨nD, e8⟩ (fun h9 p9 sb9 => ?_) (by rw [List.size_toArray, ← v3.length]; exact Nat.le_of_lt hl)
        obtain ⟨g0, g1, g2, g3, g4, g5⟩ := fpD H8 n8
        have I9 : Inv X' pins (some v :: capV σ cp) H8 { s8 with heap := h9 } := I8.unpinned.unpinned.turned (t' := s8.toks) (fun b o hb e => (sb9.2 b hb).trans e) g0 g1 g3 g4 g5
        refine ⟨m', hm, i + 1, ys ++ [y8], us ++ [y], some v, H8, I9, T.keep _ _ _ t8 fun b hb o e => ?_, f8, ?_, v3.snoc r8, n8, w8⟩
        · refine (sb9.2 b ?_).trans e
          have := hfp b hb
          intro z
          rw [z] at this
          exact absurd this (Nat.lt_irrefl _)
        · have : (us ++ [y]).toArray = us.toArray.push y := by simp
          rw [this]
          exact p9
  exact codeAny_compStart_list (loop _ rfl) (T.self _ 0 _ _ _ st₁ (loop _ rfl))
end
end L2

set_option Elab.async false
set_option linter.all false
set_option maxRecDepth 100000
set_option maxHeartbeats 4000000
namespace L2
open PySem PySem.Spec PyProof.Rows
section
variable {X : Cx} {scope : Scope} {x : Str} {cp : List (Nat × Str)} {px pos : Pos} {elt iter : Expr} {ifs : List Expr} {tt : TT} {te : TE} {wi : TI}
def tComp (wi : TI) (cp : List (Nat × Str)) (tt : TT) (te : TE) : TE := fun σ H Q => wi σ H fun J H1 => compW J (capV σ cp) tt te (fun ys H2 => ∀ p, H2 p = none → Q (.ref p) (upd H2 p (.lst ys))) H1
/-- [elt for x in iter if ..] -/
theorem pe_comp (S : CompScope X scope x cp) (hc : X.calm = true) (hi : PI X (.Name x px) iter wi)
    (ht : ∀ cl C s H fp, PTs (compCx X scope cl C (x :: cp.map (·.2)) s H fp) ifs tt) (he : ∀ cl C s H fp, PE (compCx X scope cl C (x :: cp.map (·.2)) s H fp) elt te)
    (hs : ∀ v, foldedSetIterable iter X.env v = pure v := by intro _; rfl) : PE X (.ListComp elt [⟨.Name x px, iter, ifs, 0⟩] scope pos) (tComp wi cp tt te) := by
  intro pins s σ H Q I h
  rw [eval_ListComp]
  obtain ⟨cl, ec, hcl, hfr⟩ := closure_ok (env := X.env) (scope := scope) fun y hy hk => I.ok.has y.1 (.inl (S.free y hy hk))
  refine wpAny_comprehension_free (use := none) rfl hs ec S.kind S.names (thn (hi pins s σ H _ I h) fun v s1 h1 => thn h1 fun itv s2 h2 => ?_)
  obtain ⟨it, fp, tn, J, H2, e, I2, T, st2, f2, hw⟩ := h2
  subst e
  refine comp_block (RR := fun acc C => compPost (model X.prog X.w) X.A X.xe none (EP X pins σ Q) acc C) S hc I2 hcl hfr T st2 f2 ht he hw ?_
  intro D C s' ys H3 o I3 hm nD hend fC
  obtain ⟨m, hm⟩ := hm
  obtain ⟨e3, n3, _⟩ := I3.pin (C, o) (List.mem_append_right _ (List.mem_append_right _ (List.mem_singleton.mpr rfl)))
  refine ⟨m, hm _ e3, fun h' sb => ?_⟩
  obtain ⟨f0, f1, f2', f3, f4, f5⟩ := fC _ n3
  exact ⟨.ref D, upd H3 D (.lst ys), I3.unpinned.turned (t' := s'.toks) (fun b o hb e => (sb.2 b hb).trans e) f0 f1 f3 f4 f5, rfl, hend D nD⟩
/-- y = [elt for x in iter if ..], y a plain local -/
theorem ps_setComp {i : Nat} {y : Str} {py spos : Pos} (hN : X.N.Nodup) (hi' : X.N[i]? = some y) (hy : X.env.scope.names.lookup y = some .local) (S : CompScope X scope x cp) (hc : X.calm = true) (hi : PI X (.Name x px) iter wi)
    (ht : ∀ cl C s H fp, PTs (compCx X scope cl C (x :: cp.map (·.2)) s H fp) ifs tt) (he : ∀ cl C s H fp, PE (compCx X scope cl C (x :: cp.map (·.2)) s H fp) elt te)
    (hsw : swapsWith (.ListComp elt [⟨.Name x px, iter, ifs, 0⟩] scope pos) (some (.Name y py)) spos.line X.env = pure true := by rfl)
    (hs : ∀ v, foldedSetIterable iter X.env v = pure v := by intro _; rfl) : PS X (.Assign [.Name y py] (.ListComp elt [⟨.Name x px, iter, ifs, 0⟩] scope pos) spos) (tAsg (tComp wi cp tt te) (gName i)) := by
  intro pins s σ H D I h
  rw [exec_Assign_Name_used _ _ _ _ hsw]
  refine wpAny_bind (wpAny_standAt (wpAny_bind ?_))
  show wpAny _ X.A (do let _ ← comprehension (.ListComp elt [⟨.Name x px, iter, ifs, 0⟩] scope pos) scope X.env _ (newList []) false (eval iter X.env) (some (assign (.Name y py) X.env))) _ _ s
  obtain ⟨cl, ec, hcl, hfr⟩ := closure_ok (env := X.env) (scope := scope) fun y hy hk => I.ok.has y.1 (.inl (S.free y hy hk))
  refine wpAny_bind (wpAny_mono (wpAny_comprehension_free (use := some (assign (.Name y py) X.env)) (Q := fun _ s' => SP X pins D .next s') rfl hs ec S.kind S.names
    (thn (hi pins s σ H _ I h) fun v s1 h1 => thn h1 fun itv s2 h2 => ?_)) (fun _ s' hq => wpAny_pure (wpAny_pure hq)) fun _ _ e => e)
  obtain ⟨it, fp, tn, J, H2, e, I2, T, st2, f2, hw⟩ := h2
  subst e
  refine comp_block (RR := fun acc C => compPost (model X.prog X.w) X.A X.xe (some (assign (.Name y py) X.env)) (fun _ s' => SP X pins D .next s') acc C) S hc I2 hcl hfr T st2 f2 ht he hw ?_
  intro D' C s' ys H3 o I3 hm nD hend fC
  obtain ⟨m, hm⟩ := hm
  show wpAny _ X.A (assign (.Name y py) X.env (.ref D')) _ _ _
  refine wpAny_assign_Name (store_ok I3 hN hi' (.inl hy) (v := .ref D') rfl (fun s4 I4 => ?_) (.inr hy))
  obtain ⟨e3, n3, _⟩ := I4.pin (C, o) (List.mem_append_right _ (List.mem_append_right _ (List.mem_singleton.mpr rfl)))
  refine ⟨m, hm _ e3, fun h' sb => ?_⟩
  obtain ⟨f0, f1, f2', f3, f4, f5⟩ := fC _ n3
  exact ⟨_, upd H3 D' (.lst ys), I4.unpinned.turned (t' := s4.toks) (fun b o hb e => (sb.2 b hb).trans e) f0 f1 f3 f4 f5, hend D' nD⟩

/-! ### the forms one uses: every item, by a list, a range; with a test, by a list -/
/-- the items ys grow with the places; Pv: what holds behind i items -/
theorem comp_list {K : PySem.W.Frag} {a : Addr} {xs : List V} {cv : St} {te : TE} {END : List V → Hp → Prop} {H : Hp} (Pv : Nat → List V → Hp → Prop) (h0 : Pv 0 [] H) (hl : ∀ i ys H, i ≤ xs.length → Pv i ys H → SqL K H a xs ∧ ys.length ≤ i) (hz : xs.length ≤ sizeLine)
    (hs : ∀ i x ys H, xs[i]? = some x → Pv i ys H → te (some x :: cv) H fun y H5 => Pv (i + 1) (ys ++ [y]) H5) (hd : ∀ ys H, Pv xs.length ys H → END ys H) : compW (Itl K a) cv tAlways te END H := by
  refine ⟨fun i m ys H => m = xs.length - i ∧ i ≤ xs.length ∧ Pv i ys H, ⟨xs.length, by simp, Nat.zero_le _, h0⟩, ?_⟩
  rintro i m ys H ⟨rfl, hi, p⟩
  obtain ⟨q, hy⟩ := hl i ys H hi p
  by_cases hlt : i < xs.length
  · refine .inr ⟨⟨xs, xs[i], q, by simp [hlt]⟩, by omega, fun v H' y => ?_⟩
    obtain ⟨e, y⟩ := y
    subst e
    refine ⟨fun v' H1 => Pv (i + 1) (ys ++ [v']) H1, fun _ => False, fun v' H1 p' => ⟨xs.length - (i + 1), by omega, rfl, hlt, p'⟩, fun _ z => z.elim, ?_⟩
    exact iteT (B := False) (hs i v ys _ (y xs q) p)
  · have e : i = xs.length := by omega
    subst e
    exact .inl ⟨⟨xs, q, Nat.le_refl _⟩, by omega, hd ys H p⟩
theorem comp_listT {K : PySem.W.Frag} {a : Addr} {xs : List V} {cv : St} {tt : TT} {te : TE} {END : List V → Hp → Prop} {H : Hp} (Pv : Nat → List V → Hp → Prop) (h0 : Pv 0 [] H) (hl : ∀ i ys H, i ≤ xs.length → Pv i ys H → SqL K H a xs ∧ ys.length ≤ i) (hz : xs.length ≤ sizeLine)
    (hs : ∀ i x ys H, xs[i]? = some x → Pv i ys H → tt (some x :: cv) H fun b H4 => if b = true then te (some x :: cv) H4 (fun y H5 => Pv (i + 1) (ys ++ [y]) H5) else Pv (i + 1) ys H4) (hd : ∀ ys H, Pv xs.length ys H → END ys H) : compW (Itl K a) cv tt te END H := by
  refine ⟨fun i m ys H => m = xs.length - i ∧ i ≤ xs.length ∧ Pv i ys H, ⟨xs.length, by simp, Nat.zero_le _, h0⟩, ?_⟩
  rintro i m ys H ⟨rfl, hi, p⟩
  obtain ⟨q, hy⟩ := hl i ys H hi p
  by_cases hlt : i < xs.length
  · refine .inr ⟨⟨xs, xs[i], q, by simp [hlt]⟩, by omega, fun v H' y => ?_⟩
    obtain ⟨e, y⟩ := y
    subst e
    exact ⟨fun v' H1 => Pv (i + 1) (ys ++ [v']) H1, fun H1 => Pv (i + 1) ys H1, fun v' H1 p' => ⟨xs.length - (i + 1), by omega, rfl, hlt, p'⟩, fun H1 p' => ⟨xs.length - (i + 1), by omega, rfl, hlt, p'⟩, hs i v ys _ (y xs q) p⟩
  · have e : i = xs.length := by omega
    subst e
    exact .inl ⟨⟨xs, q, Nat.le_refl _⟩, by omega, hd ys H p⟩
theorem comp_range {lo : Int} {n : Nat} {cv : St} {te : TE} {END : List V → Hp → Prop} {H : Hp} (Pv : Nat → List V → Hp → Prop) (h0 : Pv 0 [] H) (hl : ∀ i ys H, i ≤ n → Pv i ys H → ys.length ≤ i) (hz : n ≤ sizeLine)
    (hs : ∀ i ys H, i < n → Pv i ys H → te (some (.int (lo + i)) :: cv) H fun y H5 => Pv (i + 1) (ys ++ [y]) H5) (hd : ∀ ys H, Pv n ys H → END ys H) : compW (Itr lo n) cv tAlways te END H := by
  refine ⟨fun i m ys H => m = n - i ∧ i ≤ n ∧ Pv i ys H, ⟨n, by simp, Nat.zero_le _, h0⟩, ?_⟩
  rintro i m ys H ⟨rfl, hi, p⟩
  have hy := hl i ys H hi p
  by_cases hlt : i < n
  · refine .inr ⟨hlt, by omega, fun v H' y => ?_⟩
    obtain ⟨e, y⟩ := y
    subst e y
    refine ⟨fun v' H1 => Pv (i + 1) (ys ++ [v']) H1, fun _ => False, fun v' H1 p' => ⟨n - (i + 1), by omega, rfl, hlt, p'⟩, fun _ z => z.elim, ?_⟩
    exact iteT (B := False) (hs i ys _ hlt p)
  · have e : i = n := by omega
    subst e
    exact .inl ⟨Nat.le_refl _, by omega, hd ys H p⟩
end
end L2

set_option Elab.async false
set_option linter.all false
set_option maxRecDepth 100000
set_option maxHeartbeats 4000000
namespace L2
open PySem PySem.Spec PyProof.Rows

/-! ### the signs of a text -/
def Its (z : Str) : It := ⟨fun i _ => i < z.cps.size, fun i H x H' => H' = H ∧ ∃ c, z.cps[i]? = some c ∧ x = .str ⟨#[c]⟩, fun i _ => z.cps.size ≤ i⟩
theorem turn_str {P : Program} {w : World} {K : PySem.W.Frag} {x : Str} {px : Pos} {ty : String} (z : Str) (t : Tok) (it : Addr)
    (W : ∀ A : Around, A.handled = none → Walks P w A it [it] [it] z.cps.size (SignAt z) (fun i h => h.IsStrIter it ty z t i))
    (hs : ∀ (A : Around) (i : Nat) (s : Shared) (Q : Value → Shared → Prop) (E : Value → Shared → Prop), s.heap.IsStrIter it ty z t i → Q (.ref it) s → wpAny (model P w) A (pyIter (.ref it)) Q E s) : Turn P w K (.Name x px) (Its z) [it] it (fun i h => i ≤ z.cps.size ∧ h.IsStrIter it ty z t i) where
  mem := by simp
  obj := fun i h st b hb => by
    have e : b = it := by simpa using hb
    subst e
    obtain ⟨_, o, e, c, d⟩ := st
    exact ⟨o, e, fun v z => by rw [d] at z; cases z⟩
  keep := fun i h h' st k => ⟨st.1, let ⟨o, ho, r⟩ := st.2; ⟨o, k it (by simp) o ho, r⟩⟩
  item := by
    intro X hP hw hK hc i pins s σ H E I hf st hg
    subst hP hw hK
    obtain ⟨f0, f1, f2, f3, f4, f5⟩ := hf it (by simp)
    have hi : i < z.cps.size := hg
    refine (W X.A (I.ok.hd hc)).item i s _ _ hi st.2 fun v h' tk hv st' kk => ?_
    obtain ⟨c, u, hcu, rfl⟩ := hv
    have I1 : Inv X pins σ H { s with heap := h', toks := tk } := I.turned (fun b o hb e => kk b o (by simpa using hb) e) f0 f1 f3 f4 f5
    exact ⟨_, rfl, wpAny_pure ⟨.str ⟨#[c]⟩, H, I1, ⟨u, rfl⟩, ⟨rfl, c, hcu, rfl⟩, ⟨hi, st'⟩, fun b hb => (hf b hb).1⟩⟩
  done := by
    intro X hP hw hK hc i pins s σ H E I hf st hg
    subst hP hw hK
    obtain ⟨f0, f1, f2, f3, f4, f5⟩ := hf it (by simp)
    have hi : i = z.cps.size := Nat.le_antisymm st.1 hg
    refine (W X.A (I.ok.hd hc)).done s _ _ (hi ▸ st.2) fun h' tk kk => ?_
    exact ⟨rfl, I.turned (fun b o hb e => kk b o (by simpa using hb) e) f0 f1 f3 f4 f5⟩
  self := fun A i s Q E st h => hs A i s Q E st.2 h
section
variable {X : Cx} {x : Str} {px : Pos}
def iStr (tl : TE) : TI := fun σ H R => tl σ H fun x H1 => ∃ z, x = .str z ∧ R (Its z) H1
theorem pi_str {l : Expr} {tl : TE} (hl : PE X l tl) : PI X (.Name x px) l (iStr tl) := by
  intro pins s σ H R I h
  refine thn (hl pins s σ H _ I h) fun v s1 ⟨xv, H1, I1, r1, q1⟩ => ?_
  obtain ⟨z, e, q⟩ := q1
  subst e
  obtain ⟨t, rfl⟩ := r1
  have fin : ∀ (o : Obj) (ty : String), o.cls = .type ty → o.data = .fields #[.str z t, .int 0 0] → o.isFreed = false → (∀ A : Around, A.handled = none → Walks X.prog X.w A s1.heap.objs.size [s1.heap.objs.size] [s1.heap.objs.size] z.cps.size (SignAt z) (fun i h => h.IsStrIter s1.heap.objs.size ty z t i)) →
      (∀ (A : Around) (i : Nat) (s : Shared) (Q : Value → Shared → Prop) (E : Value → Shared → Prop), s.heap.IsStrIter s1.heap.objs.size ty z t i → Q (.ref s1.heap.objs.size) s → wpAny (model X.prog X.w) A (pyIter (.ref s1.heap.objs.size)) Q E s) →
      PIE X pins σ (.Name x px) R (.ref s1.heap.objs.size) { s1 with heap := s1.heap.push o } := fun o ty h1 h2 h3 W hs => by
    refine ⟨s1.heap.objs.size, [s1.heap.objs.size], _, _, H1, rfl, I1.kept (t' := s1.toks) fun b o e => Heap.get?_push_of_some _ e, turn_str z t _ W hs, ⟨Nat.zero_le _, o, Heap.get?_push_size _ h3, h1, h2⟩, fun b hb => ?_, q⟩
    have e : b = s1.heap.objs.size := by simpa using hb
    subst e
    exact I1.fpOk (Nat.le_refl _) (I1.hok.fresh (Nat.le_refl _))
  cases ha : z.cps.all (· < 128)
  · exact wpAny_pyIter_wide ha (fin { cls := .type "str_iterator", data := .fields #[.str z t, .int 0 0] } "str_iterator" rfl rfl rfl (fun A' hA => Walks.strWide hA _ z t) fun A i s Q E st h => wpAny_pyIter_striter_wide st h)
  · exact wpAny_pyIter_ascii ha (fin { cls := .type "str_ascii_iterator", data := .fields #[.str z t, .int 0 0] } "str_ascii_iterator" rfl rfl rfl (fun A' hA => Walks.strAscii hA _ z t) fun A i s Q E st h => wpAny_pyIter_striter_ascii st h)
end
theorem for_str {z : Str} {g : TG} {tb : TS} {D : Ends} {σ : St} {H : Hp} (Pv : Nat → St → Hp → Prop) (h0 : Pv 0 σ H)
    (hs : ∀ i c σ H, z.cps[i]? = some c → Pv i σ H → g (.str ⟨#[c]⟩) σ H fun σ2 H2 => tb { D with nx := Pv (i + 1), ct := Pv (i + 1), bk := D.nx } σ2 H2) (hd : ∀ σ H, Pv z.cps.size σ H → D.nx σ H) :
    ∃ W : Nat → Nat → St → Hp → Prop, (∃ m, W 0 m σ H) ∧ ∀ i m σ H, W i m σ H →
      ((Its z).stop i H ∧ D.nx σ H) ∨ ((Its z).go i H ∧ ∃ N : St → Hp → Prop, (∀ σ' H', N σ' H' → ∃ m', m' < m ∧ W (i + 1) m' σ' H') ∧ ∀ x H', (Its z).yld i H x H' → g x σ H' fun σ2 H2 => tb { D with nx := N, ct := N, bk := D.nx } σ2 H2) := by
  refine ⟨fun i m σ H => m = z.cps.size - i ∧ i ≤ z.cps.size ∧ Pv i σ H, ⟨z.cps.size, by simp, Nat.zero_le _, h0⟩, ?_⟩
  rintro i m σ H ⟨rfl, hi, p⟩
  by_cases hlt : i < z.cps.size
  · refine .inr ⟨hlt, Pv (i + 1), fun σ' H' p' => ⟨z.cps.size - (i + 1), by omega, rfl, hlt, p'⟩, fun x H' y => ?_⟩
    obtain ⟨e, c, hc, y⟩ := y
    subst e y
    exact hs i c σ _ hc p
  · have e : i = z.cps.size := by omega
    subst e
    exact .inl ⟨Nat.le_refl _, hd σ H p⟩
theorem comp_str {z : Str} {cv : St} {te : TE} {END : List V → Hp → Prop} {H : Hp} (Pv : Nat → List V → Hp → Prop) (h0 : Pv 0 [] H) (hl : ∀ i ys H, i ≤ z.cps.size → Pv i ys H → ys.length ≤ i) (hz : z.cps.size ≤ sizeLine)
    (hs : ∀ i c ys H, z.cps[i]? = some c → Pv i ys H → te (some (.str ⟨#[c]⟩) :: cv) H fun y H5 => Pv (i + 1) (ys ++ [y]) H5) (hd : ∀ ys H, Pv z.cps.size ys H → END ys H) : compW (Its z) cv tAlways te END H := by
  refine ⟨fun i m ys H => m = z.cps.size - i ∧ i ≤ z.cps.size ∧ Pv i ys H, ⟨z.cps.size, by simp, Nat.zero_le _, h0⟩, ?_⟩
  rintro i m ys H ⟨rfl, hi, p⟩
  have hy := hl i ys H hi p
  by_cases hlt : i < z.cps.size
  · refine .inr ⟨hlt, by omega, fun v H' y => ?_⟩
    obtain ⟨e, c, hc, y⟩ := y
    subst e y
    refine ⟨fun v' H1 => Pv (i + 1) (ys ++ [v']) H1, fun _ => False, fun v' H1 p' => ⟨z.cps.size - (i + 1), by omega, rfl, hlt, p'⟩, fun _ z => z.elim, ?_⟩
    exact iteT (B := False) (hs i c ys _ hc p)
  · have e : i = z.cps.size := by omega
    subst e
    exact .inl ⟨Nat.le_refl _, by omega, hd ys H p⟩

/-! ### the keys of a dict, which stands frozen meanwhile -/
section
variable {X : Cx} {pins : List (Addr × Obj)} {σ : St} {H : Hp} {s : Shared} {d : Addr} {o : Obj}
theorem HOk.swap {P : Program} {w : World} {h : Heap} {u u' : HO} (ok : HOk P w H h) (e : H d = some u) (nown : ∀ y, u ≠ .own y) (ntup : ∀ xs, u ≠ .tup xs) (new : ObjOk P w (upd H d u') h d u') : HOk P w (upd H d u') h := fun b v q => by
  by_cases hb : b = d
  · subst hb; rw [upd_same] at q; cases q; exact new
  · rw [upd_ne hb] at q
    refine (ok b v q).stay (fun _ _ _ r => r) (fun c r => ?_) fun c xs r => ?_
    · rw [upd_ne (fun z => by rw [z, e] at r; cases r; exact nown _ rfl)]; exact r
    · rw [upd_ne (fun z => by rw [z, e] at r; cases r; exact ntup _ rfl)]; exact r
theorem Inv.swap {u u' : HO} (I : Inv X pins σ H s) (e : H d = some u) (nown : ∀ y, u ≠ .own y) (ntup : ∀ xs, u ≠ .tup xs) (ntbl : ∀ ps, u ≠ .tbl ps) (nf : ∀ o v, X.H₀ d ≠ some (.frz o v)) (new : ObjOk X.prog X.w (upd H d u') s.heap d u') : Inv X pins σ (upd H d u') s := by
  have nn : ∀ b, H b = none → b ≠ d := fun b n z => by rw [z, e] at n; cases n
  have hl : ∀ b v, H b = some v → v ≠ u → b ≠ d := fun b v q nv z => by rw [z, e] at q; cases q; exact nv rfl
  refine ⟨I.ok, I.os, I.bare, ⟨I.base.keep, I.base.slot, fun b o q n hx => ?_, I.base.there, fun b xs q => ?_, fun b o v q => ?_, fun b ps q => ?_⟩, I.loc, I.cell, ?_, fun x c q => ?_, fun p hp => ?_, I.hok.swap e nown ntup new, I.len⟩
  · have := I.base.free b o q n hx
    rw [upd_ne (nn b this)]; exact this
  · have := I.base.tups b xs q
    rw [upd_ne (hl b _ this fun z => ntup _ z.symm)]; exact this
  · have := I.base.frzs b o v q
    rw [upd_ne (fun z : b = d => nf o v (by rw [← z]; exact q))]; exact this
  · obtain ⟨more, this⟩ := I.base.tbls b ps q
    exact ⟨more, by rw [upd_ne (hl b _ this fun z => ntbl _ z.symm)]; exact this⟩
  · rw [upd_ne (nn _ I.free)]; exact I.free
  · have := I.freeC x c q
    rw [upd_ne (nn _ this)]; exact this
  · obtain ⟨a1, a2, a3⟩ := I.pin p hp
    exact ⟨a1, by rw [upd_ne (nn _ a2)]; exact a2, a3⟩
/-- a dict is frozen -/
theorem Inv.freeze {kvs : List (Key × V)} (I : Inv X pins σ H s) (e : H d = some (.dK kvs)) : ∃ o, s.heap.get? d = some o ∧ (∀ o v, X.H₀ d ≠ some (.frz o v)) ∧ Inv X pins σ (upd H d (.frz o (.dK kvs))) s := by
  have nf : ∀ o v, X.H₀ d ≠ some (.frz o v) := fun o v q => by
    have := I.base.frzs d o v q
    rw [e] at this; cases this
  obtain ⟨z, y, vs, r, o, es, ep, ho, rr⟩ := I.hok d _ e
  exact ⟨o, ho, nf, I.swap e (fun _ => by intro z; cases z) (fun _ => by intro z; cases z) (fun _ => by intro z; cases z) nf ⟨ho, z, y, vs, r, o, es, ep, ho, rr⟩⟩
theorem Inv.thaw {kvs : List (Key × V)} (I : Inv X pins σ H s) (e : H d = some (.frz o (.dK kvs))) (nf : ∀ o v, X.H₀ d ≠ some (.frz o v)) : Inv X pins σ (upd H d (.dK kvs)) s := by
  obtain ⟨ho, z, y, vs, r, rr⟩ := I.hok d _ e
  exact I.swap e (fun _ => by intro z; cases z) (fun _ => by intro z; cases z) (fun _ => by intro z; cases z) nf ⟨z, y, vs, r, rr⟩
end
def Itd (d : Addr) (o : Obj) (kvs : List (Key × V)) : It := ⟨fun i H => i < kvs.length ∧ H d = some (.frz o (.dK kvs)), fun i H x H' => H' = H ∧ ∃ k v, kvs[i]? = some (k, v) ∧ x = kV k, fun i H => kvs.length ≤ i ∧ H d = some (.frz o (.dK kvs))⟩
theorem kv_get : ∀ {kvs : List (Key × V)} {vs : List (Key × Value)} {i : Nat} {q : Key × V}, KV kvs vs → kvs[i]? = some q → ∃ u, vs[i]? = some u ∧ q.1 = u.1 ∧ RelV q.2 u.2
  | _, _, _, _, .nil, e => by simp at e
  | _, _, 0, _, .cons r _, e => by simp at e; subst e; exact ⟨_, rfl, r⟩
  | _, _, i + 1, q, .cons _ t, e => by
    obtain ⟨u, h1, h2⟩ := kv_get (i := i) (q := q) t (by simpa using e)
    exact ⟨u, by simpa using h1, h2⟩
theorem turn_dict {P : Program} {w : World} {K : PySem.W.Frag} {x : Str} {px : Pos} {d it : Addr} {o : Obj} {kvs : List (Key × V)} {vs : List (Key × Value)} {ep : Nat} (hne : d ≠ it) (kv : KV kvs vs)
    (hd : ∀ h : Heap, h.get? d = some o → h.DictAt (mixKind P w) d vs ep) : Turn P w K (.Name x px) (Itd d o kvs) [it] it (fun i h => i ≤ kvs.length ∧ h.IsKeyIter it d i vs.length ep) where
  mem := by simp
  obj := fun i h st b hb => by
    have e : b = it := by simpa using hb
    subst e
    obtain ⟨_, o, e, c, dd⟩ := st
    exact ⟨o, e, fun v z => by rw [dd] at z; cases z⟩
  keep := fun i h h' st k => ⟨st.1, st.2.at fun o e => k it (by simp) o e⟩
  item := by
    intro X hP hw hK hc i pins s σ H E I hf st hg
    subst hP hw hK
    obtain ⟨f0, f1, f2, f3, f4, f5⟩ := hf it (by simp)
    obtain ⟨hi, hz⟩ := hg
    have ho : s.heap.get? d = some o := (I.hok d _ hz).1
    have hl : kvs.length = vs.length := kv.length
    refine (Walks.dictKeys (prog := X.prog) (w := X.w) (knd := mixKind X.prog X.w) (I.ok.hd hc) it d hne vs ep).item i s _ _ (by omega) ⟨st.2, hd _ ho⟩ fun v h' tk hv st' kk => ?_
    obtain ⟨k, y, hky, hkv⟩ := hv
    have I1 : Inv X pins σ H { s with heap := h', toks := tk } := I.turned (fun b o hb e => kk b o (by simpa using hb) e) f0 f1 f3 f4 f5
    obtain ⟨q, hq⟩ : ∃ q, kvs[i]? = some q := ⟨kvs[i], by simp [hi]⟩
    have ek : q.1 = k := by
      obtain ⟨u, hu, e1, _⟩ := kv_get kv hq
      rw [hky] at hu; cases hu; exact e1
    have rv : RelV (kV k) v := by
      rcases keyIs_shape hkv with ⟨i, t, rfl, rfl⟩ | ⟨x, t, rfl, rfl⟩
      · exact ⟨t, rfl⟩
      · exact ⟨t, rfl⟩
    exact ⟨_, rfl, wpAny_pure ⟨kV k, H, I1, rv, ⟨rfl, k, q.2, by rw [hq, ← ek], rfl⟩, ⟨hi, st'.1⟩, fun b hb => (hf b hb).1⟩⟩
  done := by
    intro X hP hw hK hc i pins s σ H E I hf st hg
    subst hP hw hK
    obtain ⟨f0, f1, f2, f3, f4, f5⟩ := hf it (by simp)
    obtain ⟨hi, hz⟩ := hg
    have ho : s.heap.get? d = some o := (I.hok d _ hz).1
    have hl : kvs.length = vs.length := kv.length
    have e : i = vs.length := by have := st.1; omega
    subst e
    refine (Walks.dictKeys (prog := X.prog) (w := X.w) (knd := mixKind X.prog X.w) (I.ok.hd hc) it d hne vs ep).done s _ _ ⟨st.2, hd _ ho⟩ fun h' tk kk => ?_
    exact ⟨rfl, I.turned (fun b o hb e => kk b o (by simpa using hb) e) f0 f1 f3 f4 f5⟩
  self := fun A i s Q E st h => wpAny_pyIter_keyiter st.2 h
section
variable {X : Cx} {x : Str} {px pos : Pos}
def iDict (X : Cx) (tl : TE) : TI := fun σ H R => tl σ H fun x H1 => ∃ d kvs, x = .ref d ∧ H1 d = some (.dK kvs) ∧ ∀ o, (∀ o v, X.H₀ d ≠ some (.frz o v)) → R (Itd d o kvs) (upd H1 d (.frz o (.dK kvs)))
theorem pi_dict {l : Expr} {tl : TE} (hl : PE X l tl) : PI X (.Name x px) l (iDict X tl) := by
  intro pins s σ H R I h
  refine thn (hl pins s σ H _ I h) fun v s1 ⟨xv, H1, I1, r1, q1⟩ => ?_
  obtain ⟨d, kvs, e, hd, q⟩ := q1
  subst e
  cases r1
  obtain ⟨o, ho, nf, I2⟩ := I1.freeze hd
  obtain ⟨z, y, vs, r, dd⟩ := (show ObjOk X.prog X.w H1 s1.heap d (.dK kvs) from I1.hok d _ hd)
  obtain ⟨ep, da⟩ := dd.dictAt
  have hd' : ∀ h : Heap, h.get? d = some o → h.DictAt (mixKind X.prog X.w) d vs ep := fun h e => da.at' fun o' e' => by rw [ho] at e'; cases e'; exact e
  refine wpAny_pyIter_dict y da ?_
  refine ⟨s1.heap.objs.size, [s1.heap.objs.size], _, _, upd H1 d (.frz o (.dK kvs)), rfl, I2.kept (t' := s1.toks) fun b o e => Heap.get?_push_of_some _ e, turn_dict (Nat.ne_of_lt (Heap.lt_size ho)) r hd',
    ⟨Nat.zero_le _, _, Heap.get?_push_size _ rfl, rfl, rfl⟩, fun b hb => ?_, q o nf⟩
  have e : b = s1.heap.objs.size := by simpa using hb
  subst e
  exact I2.fpOk (Nat.le_refl _) (I2.hok.fresh (Nat.le_refl _))
/-- a reading, made monotone -/
theorem PE.clo {e : Expr} {t : TE} (h : PE X e t) : PE X e (fun σ H Q => ∃ Q0 : VK, t σ H Q0 ∧ ∀ v H, Q0 v H → Q v H) := fun pins s σ H Q I ⟨Q0, h0, hq⟩ =>
  thn (h pins s σ H Q0 I h0) fun _ _ ⟨v, H', I', r, q⟩ => ⟨v, H', I', r, hq v H' q⟩
/-- for x in d: ..; no return within -/
def tForD (tl : TE) (g : TG) (tb : TS) : TS := fun D σ H => tl σ H fun x H1 => ∃ d kvs, x = .ref d ∧ H1 d = some (.dK kvs) ∧ ∀ o, ∃ W : Nat → St → Hp → Prop, W 0 σ (upd H1 d (.frz o (.dK kvs))) ∧
  (∀ i σ H, W i σ H → H d = some (.frz o (.dK kvs))) ∧ (∀ i σ H k u (B : St → Hp → Prop), W i σ H → kvs[i]? = some (k, u) → g (kV k) σ H fun σ2 H2 => tb { nx := W (i + 1), ct := W (i + 1), bk := B, rt := fun _ _ => False } σ2 H2) ∧
  ∀ σ H, W kvs.length σ H → D.nx σ (upd H d (.dK kvs))
theorem ps_forD {iter : Expr} {body : List Stmt} {tl : TE} {g : TG} {tb : TS} (hp : PassesOwn (model X.prog X.w) X.A X.env X.xe) (hc : X.calm = true) (hl : PE X iter tl) (hg : PG X (.Name x px) g) (hb : PSs X body tb)
    (hs : ∀ x, foldedSetIterable iter X.env x = pure x := by intro _; rfl) : PS X (.For (.Name x px) iter body [] pos) (tForD tl g tb) := by
  intro pins s σ H D I h
  refine thn (ps_for hp hc (pi_dict hl.clo) hg hb hs pins s σ H { nx := fun σ H => ∃ d kvs o, H d = some (.frz o (.dK kvs)) ∧ (∀ o v, X.H₀ d ≠ some (.frz o v)) ∧ D.nx σ (upd H d (.dK kvs)), rt := fun _ _ => False } I ?_) fun f s' q => ?_
  · refine ⟨_, h, fun v H1 q => ?_⟩
    obtain ⟨d, kvs, e, hd, q⟩ := q
    refine ⟨d, kvs, e, hd, fun o nf => ?_⟩
    obtain ⟨W, w0, wf, ws, we⟩ := q o
    refine ⟨fun i m σ H => m = kvs.length - i ∧ i ≤ kvs.length ∧ W i σ H, ⟨kvs.length, by simp, Nat.zero_le _, w0⟩, ?_⟩
    rintro i m σ1 H2 ⟨rfl, hi, wi⟩
    by_cases hlt : i < kvs.length
    · refine .inr ⟨⟨hlt, wf _ _ _ wi⟩, W (i + 1), fun σ' H' p' => ⟨kvs.length - (i + 1), by omega, rfl, hlt, p'⟩, fun x H' y => ?_⟩
      obtain ⟨e, k, u, hk, y⟩ := y
      subst e y
      exact ws i σ1 _ k u _ wi hk
    · have e : i = kvs.length := by omega
      subst e
      exact .inl ⟨⟨Nat.le_refl _, wf _ _ _ wi⟩, d, kvs, o, wf _ _ _ wi, nf, we _ _ wi⟩
  · cases f with
    | next =>
      obtain ⟨σ', H', I', d, kvs, o, e, nf, q⟩ := q
      exact ⟨σ', _, I'.thaw e nf, q⟩
    | brk => obtain ⟨_, _, _, z⟩ := q; exact z.elim
    | cont => obtain ⟨_, _, _, z⟩ := q; exact z.elim
    | ret u => obtain ⟨_, _, _, _, _, z⟩ := q; exact z.elim
end
end L2

set_option Elab.async false
set_option linter.all false
set_option maxRecDepth 100000
set_option maxHeartbeats 4000000
namespace L2
open PySem PySem.Spec PyProof.Rows

/-! ### the texts that differ -/
def addOne (l : List Str) (x : Str) : List Str := if x ∈ l then l else l ++ [x]
def dd (ts : List Str) : List Str := ts.foldl addOne []
theorem dd_snoc (ts : List Str) (x : Str) : dd (ts ++ [x]) = addOne (dd ts) x := by unfold dd; rw [List.foldl_append]; rfl
theorem addOne_len (l : List Str) (x : Str) : (addOne l x).length ≤ l.length + 1 := by
  unfold addOne; split
  · omega
  · rw [List.length_append]; exact Nat.le_refl _
theorem fold_len (ts : List Str) : ∀ l : List Str, (ts.foldl addOne l).length ≤ l.length + ts.length := by
  induction ts with
  | nil => intro l; exact Nat.le_refl _
  | cons x r ih =>
    intro l
    have h1 := ih (addOne l x)
    have h2 := addOne_len l x
    rw [List.foldl_cons, List.length_cons]; omega
theorem dd_len (ts : List Str) : (dd ts).length ≤ ts.length := by have := fold_len ts []; rw [List.length_nil] at this; unfold dd; omega
theorem fold_nd : ∀ (ts l : List Str), (∀ x ∈ ts, x ∉ l) → ts.Nodup → ts.foldl addOne l = l ++ ts
  | [], l, _, _ => by simp
  | x :: r, l, h, nd => by
    have hx : x ∉ l := h x List.mem_cons_self
    have e : addOne l x = l ++ [x] := by unfold addOne; rw [if_neg hx]
    rw [List.foldl_cons, e, fold_nd r (l ++ [x]) (fun y hy hm => ?_) (List.nodup_cons.mp nd).2, List.append_assoc]
    · rfl
    · rcases List.mem_append.mp hm with z | z
      · exact h y (List.mem_cons_of_mem _ hy) z
      · have : y = x := by simpa using z
        subst this
        exact (List.nodup_cons.mp nd).1 hy
theorem dd_nodup {ts : List Str} (h : ts.Nodup) : dd ts = ts := by
  unfold dd; rw [fold_nd ts [] (fun _ _ z => by cases z) h]; rfl
section
variable {prog : Program} {w : World} {A : Around} {R : Result → Shared → Prop} {I : Addr} {fp wr : List Addr} {P : Nat → Value → Prop} {St : Nat → Heap → Prop}
abbrev SetS (prog : Program) (w : World) (h : Heap) (S : Addr) (l : List Str) : Prop := h.SetOf (strKind prog w) S (fun x => decide (x ∈ l)) l.length
theorem SetS.add {h : Heap} {S : Addr} {l : List Str} {x : Str} (q : h.SetOf (strKind prog w) S (fun k => decide (k ∈ l) || decide (k = x)) (if decide (x ∈ l) = true then l.length else l.length + 1)) : SetS prog w h S (addOne l x) := by
  have e1 : (fun k => decide (k ∈ l) || decide (k = x)) = fun k => decide (k ∈ addOne l x) := by
    funext k
    unfold addOne
    split
    · rename_i hx
      by_cases e : k = x
      · subst e; simp [hx]
      · simp [e]
    · simp
  have e2 : (if decide (x ∈ l) = true then l.length else l.length + 1) = (addOne l x).length := by
    unfold addOne
    by_cases hx : x ∈ l
    · simp [hx]
    · simp [hx]
  rw [e1, e2] at q
  exact q
theorem SetS.at {h h' : Heap} {S : Addr} {l : List Str} (q : SetS prog w h S l) (k : ∀ o, h.get? S = some o → h'.get? S = some o) : SetS prog w h' S l := by
  obtain ⟨o, es, ep, t, ho, r⟩ := q
  exact ⟨o, es, ep, t, k o ho, r⟩
theorem set_loop {vals : List Str} (W : Walks prog w A.in1 I fp wr vals.length P St) (S : Addr) (hSf : S ∉ fp) (hval : ∀ i v, P i v → ∃ x t, vals[i]? = some x ∧ v = .str x t) (hb : vals.length + 1 < scanBound) :
    ∀ (k i : Nat) (s : Shared), vals.length - i = k → i ≤ vals.length → St i s.heap → SetS prog w s.heap S (dd (vals.take i)) →
      (∀ h' tk, (∀ b o, b ≠ S → b ∉ wr → s.heap.get? b = some o → h'.get? b = some o) → SetS prog w h' S (dd vals) → R (.ok (.ret .none)) { s with heap := h', toks := tk }) →
      codeAny (model prog w) A (.builtin "set.update.loop" ⟨[.ref S, .ref I], []⟩) R s := by
  have hSw : S ∉ wr := fun z => hSf (W.sub _ z)
  intro k
  induction k with
  | zero =>
    intro i s hk hi st hS hR
    have e : i = vals.length := by omega
    subst e
    rw [List.take_length] at hS
    refine codeAny_builtin PyProof.Rows.F.entry_set_update_loop ?_
    rw [Around.under_plainId PyProof.Rows.F.plain_set_update_loop _]
    show wpAny _ A.in1 (pyNext (.ref I) >>= _) _ _ s
    exact wpAny_bind (W.done s _ _ st fun h' tk kk => wpAny_pure (hR h' tk (fun b o _ hb e => kk b o hb e) (hS.at fun o e => kk S o hSw e)))
  | succ k ih =>
    intro i s hk hi st hS hR
    have hlt : i < vals.length := by omega
    refine codeAny_builtin PyProof.Rows.F.entry_set_update_loop ?_
    rw [Around.under_plainId PyProof.Rows.F.plain_set_update_loop _]
    show wpAny _ A.in1 (pyNext (.ref I) >>= _) _ _ s
    refine wpAny_bind (W.item i s _ _ hlt st fun v h1 tk hP st' kk => ?_)
    obtain ⟨x, t, hx, rfl⟩ := hval i v hP
    have hS1 : SetS prog w h1 S (dd (vals.take i)) := hS.at fun o e => kk S o hSw e
    show wpAny _ A.in1 (holding [Value.str x t] (setAdd S (.str x t)) >>= _) _ _ _
    refine wpAny_bind (wpAny_holding ?_)
    unfold setAdd
    refine wpAny_holding (wpAny_bind ((strKind prog w).pyHash (k := x) (strKind_is _ _ _ _) ?_))
    have hlen := dd_len (vals.take i)
    rw [List.length_take] at hlen
    refine wpAny_setAddHashed_of (knd := strKind prog w) (s := { s with heap := h1, toks := tk + 1 }) (strKind_is _ _ _ _) rfl hS1 (by omega) fun h2 sb hS2 => ?_
    have hS3 := SetS.add hS2
    rw [← dd_snoc] at hS3
    have et : vals.take i ++ [x] = vals.take (i + 1) := by
      rw [List.take_add_one, hx]
      rfl
    rw [et] at hS3
    refine wpAny_pure ⟨plainId_quiet PyProof.Rows.F.plain_set_update_loop _, ih (i + 1) _ (by omega) hlt (W.frame _ _ _ st' fun b hb o e => ?_) hS3 fun h3 tk3 k3 q3 => ?_⟩
    · rw [sb.2 b (fun z : b = S => hSf (by rw [← z]; exact hb))]; exact e
    · refine hR h3 tk3 (fun b o hb hw e => k3 b o hb hw ?_) q3
      show h2.get? b = some o
      rw [sb.2 b hb]
      exact kk b o hw e
end
end L2

set_option Elab.async false
set_option linter.all false
set_option maxRecDepth 100000
set_option maxHeartbeats 4000000
namespace L2
open PySem PySem.Spec PyProof.Rows
theorem sub_str_set : isSubtype (.type "str") (.type "set") = pure false := by rw [isSubtype_type]; kernel_rfl
theorem sub_str_frozenset : isSubtype (.type "str") (.type "frozenset") = pure false := by rw [isSubtype_type]; kernel_rfl
section
variable {prog : Program} {w : World} {A : Around} {E : Value → Shared → Prop} {s : Shared}
abbrev freshSet (led : Bool) : Obj := { cls := .type "set", dict := none, data := .set #[] 0 (.fresh 0 0 led) }
/-- set(v): v's own iterator is walked -/
theorem make_set {v : Value} {T : String} {vals : List Str} {Q : Value → Shared → Prop} (hh : A.handled = none) (hT : ∀ led, Shared.TypeIs { s with heap := s.heap.push (freshSet led) } v T)
    (h1 : isSubtype (.type T) (.type "set") = pure false) (h2 : isSubtype (.type T) (.type "frozenset") = pure false) (h3 : (Value.type T == Value.type "dict") = false) (hb : vals.length + 1 < scanBound)
    (hit : ∀ led (A' : Around) (E' : Value → Shared → Prop) (Q' : Value → Shared → Prop), (∀ (I : Addr) (fp wr : List Addr) (P : Nat → Value → Prop) (St : Nat → Heap → Prop) (o : Obj), (∀ A'' : Around, A''.handled = none → Walks prog w A'' I fp wr vals.length P St) → s.heap.objs.size ∉ fp →
        (∀ b ∈ wr, s.heap.objs.size < b) → (∀ i v, P i v → ∃ x t, vals[i]? = some x ∧ v = .str x t) → St 0 ((s.heap.push (freshSet led)).push o) → Q' (.ref I) { s with heap := (s.heap.push (freshSet led)).push o }) →
      wpAny (model prog w) A' (pyIter v) Q' E' { s with heap := s.heap.push (freshSet led) })
    (h : ∀ (h' : Heap) (tk : Nat), SetS prog w h' s.heap.objs.size (dd vals) → (∀ b o, s.heap.get? b = some o → h'.get? b = some o) → Q (.ref s.heap.objs.size) { s with heap := h', toks := tk }) :
    wpAny (model prog w) A (call (.type "set") [v]) Q E s := by
  obtain ⟨c, tl, hmro⟩ := F.called_set.mro
  have hmade := F.called_set.made
  have hsub := F.called_set.sub
  refine wpAny_call (codeAny_of_tree ?_)
  show wpAny _ _ (callAny (.type "set") _) _ _ _
  refine wpAny_pure ⟨Code.quiet_builtin _ (by decide +kernel), codeAny_builtin F.entry_type_call ?_⟩
  rw [Around.under_plain (weight_type_call_type "set" [v] []) rfl]
  have g1 := F.called_set.notType
  have g2 := F.called_set.canCreate
  have g3 := F.typeCall_set_1 v
  repeat (any_goals (first | assumption | wp_step))
  refine codeAny_mono (code_set_new_1 v (E := E) (Q₁ := fun obj s₁ => ∃ led : Bool, obj = .ref s.heap.objs.size ∧ s₁ = { s with heap := s.heap.push (freshSet led) }) fun led => ⟨led, rfl, rfl⟩) fun r s₁ hr => ?_
  cases r with
  | error e => exact hr
  | ok fl =>
    cases fl with
    | ret obj =>
      obtain ⟨led, rfl, rfl⟩ := hr
      have hS : (s.heap.push (freshSet led)).get? s.heap.objs.size = some (freshSet led) := Heap.get?_push_size _ rfl
      have hTs : Shared.TypeIs { s with heap := s.heap.push (freshSet led) } (.ref s.heap.objs.size) "set" := ⟨_, hS, rfl⟩
      have hli := F.called_set.init.lookup
      have hbi := F.called_set.init.bind (.ref s.heap.objs.size)
      repeat (any_goals (first | assumption | wp_step))
      refine codeAny_mono (codeAny_call_builtin (R := wants (fun r s₂ => r = .none ∧ ∃ h' tk, s₂ = { s with heap := h', toks := tk } ∧ SetS prog w h' s.heap.objs.size (dd vals) ∧ (∀ b o, s.heap.get? b = some o → h'.get? b = some o)) E)
        F.called_set.init.plain F.entry_set_init (check_set_init_1 hTs ?_)) fun r₂ s₂ hr₂ => ?_
      · have hTv := hT led
        unfold Builtin.«set.__init__» noKeywords Builtin.Frozenset.updateFrom
        generalize hPI : pyIter = PI
        wp_walk
        subst hPI
        refine hit led _ _ _ fun I fp wr P St o W hnf hwr hP st => ?_
        refine wpAny_bind (wpAny_runValue ?_)
        refine set_loop (W _ (by simp [hh])) s.heap.objs.size hnf hP hb (vals.length - 0) 0 _ (by omega) (Nat.zero_le _) st ?_ fun h' tk kk q => ?_
        · have hget : ((s.heap.push (freshSet led)).push o).get? s.heap.objs.size = some (freshSet led) := Heap.get?_push_of_some _ hS
          have q := (setObjOf_fresh (knd := strKind prog w) led).setOf hget (by unfold scanBound; omega)
          exact SetOf_congr q (fun k => by simp [dd]) rfl
        · refine wpAny_pure (wpAny_pure ⟨rfl, h', tk, rfl, q, fun b o' e => ?_⟩)
          refine kk b o' (Nat.ne_of_lt (Heap.lt_size e)) (fun z => ?_) (Heap.get?_push_of_some _ (Heap.get?_push_of_some _ e))
          exact absurd (Nat.lt_trans (hwr b z) (Heap.lt_size e)) (Nat.lt_irrefl _)
      · cases r₂ with
        | error e => exact hr₂
        | ok fl₂ =>
          cases fl₂ with
          | ret r =>
            obtain ⟨rfl, h', tk, rfl, hS', hk'⟩ := hr₂
            repeat (any_goals (first | assumption | wp_step))
            exact h _ _ hS' hk'
          | _ => exact hr₂.elim
    | _ => exact hr.elim
theorem mkset_list {l : Addr} {items : Array Value} {ts : List Str} {Q : Value → Shared → Prop} (hh : A.handled = none) (hl : s.heap.IsList l items) (hv : Vals (ts.map V.str) items.toList) (hb : ts.length + 1 < scanBound)
    (h : ∀ (h' : Heap) (tk : Nat), SetS prog w h' s.heap.objs.size (dd ts) → (∀ b o, s.heap.get? b = some o → h'.get? b = some o) → Q (.ref s.heap.objs.size) { s with heap := h', toks := tk }) :
    wpAny (model prog w) A (call (.type "set") [.ref l]) Q E s := by
  have hlt : l < s.heap.objs.size := by obtain ⟨o, ho, _⟩ := hl; exact Heap.lt_size ho
  have hlen : items.size = ts.length := by have := hv.length; simpa using this.symm
  refine make_set (T := "list") hh (fun led => (hl.push _).typeIs) F.sub_list_set F.sub_list_frozenset (by decide) hb (fun led A' E' Q' hQ => ?_) h
  refine wpAny_pyIter_list (hl.push (freshSet led)) ?_
  have hne : l ≠ (s.heap.push (freshSet led)).objs.size := by rw [Heap.size_push]; exact Nat.ne_of_lt (Nat.lt_succ_of_lt hlt)
  refine hQ _ _ _ (fun i v => items[i]? = some v) (fun i h => h.IsListIter (s.heap.push (freshSet led)).objs.size l i ∧ h.IsList l items) _ (fun A'' hA => hlen ▸ Walks.list hA _ l hne items) ?_ ?_ ?_ ⟨⟨_, Heap.get?_push_size _ rfl, rfl, rfl⟩, (hl.push _).push _⟩
  · rw [Heap.size_push]
    intro z
    rcases List.mem_cons.mp z with z | z
    · exact absurd z (Nat.ne_of_lt (Nat.lt_succ_self _))
    · have e : s.heap.objs.size = l := by simpa using z
      rw [← e] at hlt
      exact absurd hlt (Nat.lt_irrefl _)
  · intro b hb
    rw [Heap.size_push] at hb
    have e : b = s.heap.objs.size + 1 := by simpa using hb
    rw [e]
    exact Nat.lt_succ_self _
  · intro i v hv'
    have hi : items.toList[i]? = some v := by rw [Array.getElem?_toList]; exact hv'
    have hlt' : i < ts.length := by
      rw [← hlen]
      exact (Array.getElem?_eq_some_iff.mp hv').1
    have e : (ts.map V.str)[i]? = some (V.str ts[i]) := by rw [List.getElem?_map, List.getElem?_eq_getElem hlt']; rfl
    obtain ⟨u, hu, r⟩ := hv.get e
    rw [hi] at hu; cases hu
    obtain ⟨t, rfl⟩ := r
    exact ⟨_, t, List.getElem?_eq_getElem hlt', rfl⟩
/-- the signs of a text, each a text -/
def sgn (z : Str) : List Str := z.cps.toList.map fun c => ⟨#[c]⟩
theorem mkset_text {z : Str} {t : Tok} {Q : Value → Shared → Prop} (hh : A.handled = none) (hb : z.cps.size + 1 < scanBound)
    (h : ∀ (h' : Heap) (tk : Nat), SetS prog w h' s.heap.objs.size (dd (sgn z)) → (∀ b o, s.heap.get? b = some o → h'.get? b = some o) → Q (.ref s.heap.objs.size) { s with heap := h', toks := tk }) :
    wpAny (model prog w) A (call (.type "set") [.str z t]) Q E s := by
  have hlen : (sgn z).length = z.cps.size := by unfold sgn; simp
  refine make_set (T := "str") hh (fun led => typeIs_str _ z t) sub_str_set sub_str_frozenset (by decide) (by rw [hlen]; exact hb) (fun led A' E' Q' hQ => ?_) h
  refine wpAny_pyIter_str fun o St W st => ?_
  refine hQ _ _ _ (SignAt z) St o (fun A'' hA => hlen ▸ W A'' hA) ?_ ?_ ?_ st
  · rw [Heap.size_push]; simp
  · intro b hb
    rw [Heap.size_push] at hb
    have e : b = s.heap.objs.size + 1 := by simpa using hb
    rw [e]
    exact Nat.lt_succ_self _
  · rintro i v ⟨c, u, hc, rfl⟩
    refine ⟨⟨#[c]⟩, u, ?_, rfl⟩
    unfold sgn
    rw [List.getElem?_map, Array.getElem?_toList, hc]
    rfl
end
/-- a set of texts, tracked -/
def SetO (P : Program) (w : World) (a : Addr) (l : List Str) : HO := .ext fun h => SetS P w h a l
section
variable {X : Cx}
theorem SetO.ok {H : Hp} {h : Heap} {a : Addr} {l : List Str} (q : SetS X.prog X.w h a l) : ObjOk X.prog X.w H h a (SetO X.prog X.w a l) := by
  refine ⟨q, ?_, fun h1 h2 p k => p.at k⟩
  obtain ⟨o, _, _, _, ho, _⟩ := q
  exact ⟨o, ho⟩
theorem call_set_listS (hc : X.calm = true) : CallR X (.type "set") (fun xs H Q => ∃ p ts, xs = [.ref p] ∧ SqL X.K H p (ts.map V.str) ∧ ts.length + 1 < scanBound ∧ ∀ l, H l = none → Q (.ref l) (upd H l (SetO X.prog X.w l (dd ts)))) := by
  intro pins s σ H xs us Q I r h
  obtain ⟨p, ts, rfl, hq, hb, q⟩ := h
  obtain ⟨u, rfl, ru⟩ := vals1 r
  cases ru
  obtain ⟨its, rv, pl, _⟩ := I.list hq
  refine mkset_list (I.ok.hd hc) pl.isList (by simpa using rv) hb fun h' tk qs kk => ?_
  exact ⟨.ref s.heap.objs.size, _, I.laid (a := s.heap.objs.size) kk (Nat.le_refl _) (SetO.ok qs), rfl, q _ (I.hok.fresh (Nat.le_refl _))⟩
theorem call_set_textS (hc : X.calm = true) : CallR X (.type "set") (fun xs H Q => ∃ z, xs = [.str z] ∧ z.cps.size + 1 < scanBound ∧ ∀ l, H l = none → Q (.ref l) (upd H l (SetO X.prog X.w l (dd (sgn z))))) := by
  intro pins s σ H xs us Q I r h
  obtain ⟨z, rfl, hb, q⟩ := h
  obtain ⟨u, rfl, ru⟩ := vals1 r
  obtain ⟨t, rfl⟩ := ru
  refine mkset_text (I.ok.hd hc) hb fun h' tk qs kk => ?_
  exact ⟨.ref s.heap.objs.size, _, I.laid (a := s.heap.objs.size) kk (Nat.le_refl _) (SetO.ok qs), rfl, q _ (I.hok.fresh (Nat.le_refl _))⟩
theorem call_len_setS : CallR X (.builtin "len") (fun xs H Q => ∃ p l, xs = [.ref p] ∧ H p = some (SetO X.prog X.w p l) ∧ Q (.int l.length) H) := by
  intro pins s σ H xs us Q I r h
  obtain ⟨p, l, rfl, hp, q⟩ := h
  obtain ⟨u, rfl, ru⟩ := vals1 r
  cases ru
  obtain ⟨⟨o, es, ep, t, ho, hex, hd, hel, hm, hbd, hf, hn⟩, _⟩ := (show ObjOk X.prog X.w H s.heap p (SetO X.prog X.w p l) from I.hok p _ hp)
  refine call_len_set ho hex hd hf (by unfold scanBound at hbd; omega) ?_
  rw [hn]
  exact ⟨.int l.length, H, I.tok _, ⟨_, rfl⟩, q⟩
end
end L2

set_option Elab.async false
set_option linter.all false
set_option maxRecDepth 100000
set_option maxHeartbeats 4000000
namespace L2
open PySem PySem.Spec PyProof.Rows
section
variable {X : Cx} {a b c d : Expr} {ta tb tc td : TE} {pos : Pos}

/-! ### one sign in a text -/
def rInSign (neg : Bool) : R2 := fun x y H Q => ∃ k j, x = .str ⟨#[k]⟩ ∧ y = .str j ∧ Q (.bl (if neg then !decide (k ∈ j.cps.toList) else decide (k ∈ j.cps.toList))) H
theorem op_inSign : OpR X (compareOp .In) (rInSign false) := by
  intro pins s σ H x y v u Q I rx ry h
  obtain ⟨k, j, rfl, rfl, q⟩ := h
  refine op_in_str pins s σ H _ _ v u Q I rx ry ⟨_, _, rfl, rfl, ?_⟩
  rw [StrLaws.found_one]
  exact q
theorem op_notInSign : OpR X (compareOp .NotIn) (rInSign true) := by
  intro pins s σ H x y v u Q I rx ry h
  obtain ⟨k, j, rfl, rfl, q⟩ := h
  refine op_notIn_str pins s σ H _ _ v u Q I rx ry ⟨_, _, rfl, rfl, ?_⟩
  rw [StrLaws.found_one]
  exact q

/-! ### sep.join(list of texts) -/
theorem str_vals : ∀ {ts : List Str} {us : List Value}, Vals (ts.map V.str) us → ∃ l : List (Str × Tok), us = strValues l ∧ l.map (·.1) = ts
  | [], _, .nil => ⟨[], rfl, rfl⟩
  | x :: r, _, .cons q t => by
    obtain ⟨tk, rfl⟩ := q
    obtain ⟨l, e1, e2⟩ := str_vals (ts := r) t
    exact ⟨(x, tk) :: l, by rw [e1]; rfl, by rw [List.map_cons, e2]⟩
def rJoin (K : PySem.W.Frag) : V → List V → Hp → VK → Prop := fun x xs H Q => ∃ sep p ts, x = .str sep ∧ xs = [.ref p] ∧ SqL K H p (ts.map V.str) ∧ JoinOk sep ts = true ∧ Q (.str (Str.join sep ts)) H
theorem mt_join : MtR X "str.join" (rJoin X.K) := by
  intro pins s σ H x xs v us Q I rx rs h
  obtain ⟨sep, p, ts, rfl, rfl, hq, hok, q⟩ := h
  obtain ⟨t, rfl⟩ := rx
  obtain ⟨u, rfl, ru⟩ := vals1 rs
  cases ru
  obtain ⟨its, rv, pl, _⟩ := I.list hq
  obtain ⟨l, e1, e2⟩ := str_vals rv
  subst e1
  refine SC.join pl.isList e2 hok fun t' k => ?_
  rw [show Txt.join sep ts = Str.join sep ts from StrLaws.glued_eq_join sep ts]
  exact ⟨.str (Str.join sep ts), H, I.tok _, ⟨t', rfl⟩, q⟩
/-- a bound for join -/
theorem joinOk_of {sep : Str} : ∀ {ts : List Str} {n : Nat}, (∀ t ∈ ts, t.length + sep.length ≤ n) → ts.length * n ≤ sizeLine → JoinOk sep ts = true := by
  intro ts n h hz
  have e : ∀ (l : List Str) (k : Nat), (∀ t ∈ l, t.length + sep.length ≤ n) → l.foldl (fun x1 x2 => x1 + x2.length + sep.length) k ≤ k + l.length * n := by
    intro l
    induction l with
    | nil => intro k _; simp
    | cons t r ih =>
      intro k hk
      have h1 := ih (k + t.length + sep.length) fun u hu => hk u (List.mem_cons_of_mem _ hu)
      have h2 := hk t List.mem_cons_self
      rw [List.foldl_cons, List.length_cons, Nat.succ_mul]
      omega
  unfold JoinOk Builtin.Str.tooLong
  have := e ts 0 h
  rw [List.foldl_toArray]
  simp only [Bool.not_eq_true', decide_eq_false_iff_not]
  omega

/-! ### isinstance -/
def rIsInst (K : PySem.W.Frag) : List V → Hp → VK → Prop := fun xs H Q => ∃ x t k, ((∃ C, xs = [x, .ref C] ∧ PySem.W.kitOne K t (.ref C) = some k) ∨ ∃ T, xs = [x, .ty T] ∧ PySem.W.kitOne K t (.type T) = some k) ∧ TyOf K H x t ∧ Q (.bl k) H
theorem call_isinst : CallR X (.builtin "isinstance") (rIsInst X.K) := by
  intro pins s σ H xs us Q I r h
  obtain ⟨x, t, k, hx, ty, q⟩ := h
  rcases hx with ⟨C, rfl, e⟩ | ⟨T, rfl, e⟩
  · obtain ⟨u, u', rfl, ru, ru'⟩ := vals2 r
    cases ru'
    exact isinst_ok I ru ty e fun tk => ⟨.bl k, H, I.tok _, rfl, q⟩
  · obtain ⟨u, u', rfl, ru, ru'⟩ := vals2 r
    cases ru'
    exact isinst_ok I ru ty e fun tk => ⟨.bl k, H, I.tok _, rfl, q⟩

/-! ### all(list of bools) -/
theorem all_bl {bs : List Bool} {its : List Value} (r : Vals (bs.map V.bl) its) : ∀ (i : Nat) (v : Value), its[i]? = some v → ∃ k, bs[i]? = some k ∧ v = Value.bool k := by
  intro i v e
  have hl : i < bs.length := by
    have := r.length
    rw [List.length_map] at this
    rw [this]
    exact (List.getElem?_eq_some_iff.mp e).1
  obtain ⟨u, hu, ru⟩ := r.get (i := i) (x := V.bl bs[i]) (by rw [List.getElem?_map, List.getElem?_eq_getElem hl]; rfl)
  rw [e] at hu; cases hu
  exact ⟨bs[i], List.getElem?_eq_getElem hl, ru⟩
theorem range_all (bs : List Bool) : (List.range bs.length).all (fun i => bs[i]?.getD false) = bs.all id := by
  rw [Bool.eq_iff_iff, List.all_eq_true, List.all_eq_true]
  constructor
  · intro h x hx
    obtain ⟨i, hi, e⟩ := List.mem_iff_getElem.mp hx
    have := h i (List.mem_range.mpr hi)
    rw [List.getElem?_eq_getElem hi, e] at this
    exact this
  · intro h i hi
    have hi' := List.mem_range.mp hi
    rw [List.getElem?_eq_getElem hi']
    exact h _ (List.getElem_mem hi')
theorem call_all (hc : X.calm = true) : CallR X (.builtin "all") (fun xs H Q => ∃ (p : Addr) (bs : List Bool), xs = [.ref p] ∧ SqL X.K H p (bs.map V.bl) ∧ Q (.bl (bs.all id)) H) := by
  intro pins s σ H xs us Q I r h
  obtain ⟨p, bs, rfl, hq, q⟩ := h
  obtain ⟨u, rfl, ru⟩ := vals1 r
  cases ru
  obtain ⟨its, rv, pl, _⟩ := I.list hq
  have hlen : its.toArray.size = bs.length := by have := rv.length; rw [List.length_map] at this; rw [List.size_toArray, this]
  have hlt : p < s.heap.objs.size := by obtain ⟨o, _, ho, _⟩ := pl; exact Heap.lt_size ho
  refine call_function_tree F.kind_all F.plain_all F.entry_all (F.args_all1 _) ?_
  unfold Builtin.«all»
  refine wpAny_bind (wpAny_pure (wpAny_bind (wpAny_pyIter_list pl.isList ?_)))
  refine wpAny_pure ⟨plainId_quiet F.plain_all_loop _, ?_⟩
  have W := Walks.list (prog := X.prog) (w := X.w) (A := X.A.in1) (by simp [I.ok.hd hc]) s.heap.objs.size p (Nat.ne_of_lt hlt) its.toArray
  refine codeAny_all_loop W (fun i => bs[i]?.getD false) (fun i v s Q E hP hQ => ?_) (its.toArray.size - 0) 0 _ (by omega) (Nat.zero_le _) ⟨⟨_, Heap.get?_push_size _ rfl, rfl, rfl⟩, pl.isList.push _⟩ fun h' tk kk => ?_
  · obtain ⟨k, e1, rfl⟩ := all_bl rv i v (by simpa using hP)
    have hQ' : Q k s := by simpa [e1] using hQ
    exact wpAny_truthy_bool hQ'
  · rw [List.drop_zero, hlen, range_all]
    refine ⟨.bl (bs.all id), H, ?_, rfl, q⟩
    exact I.kept (h' := h') (t' := tk) fun b o e => kk b o (by have := Heap.lt_size e; simp; exact Nat.ne_of_lt this) (Heap.get?_push_of_some _ e)

/-! ### f"{x}.." of a text -/
theorem pe_fstr {v : Expr} {tv : TE} {y : Str} {j : Nat} {p1 p2 : Pos} (hv : PE X v tv) : PE X (.JoinedStr [.FormattedValue v (-1) none p1, .Constant (.str y) j p2] pos)
    (fun σ H Q => tv σ H fun x H1 => ∃ z, x = .str z ∧ z.length + y.length ≤ sizeLine ∧ Q (.str (z ++ y)) H1) := by
  intro pins s σ H Q I h
  refine JoinedStr_many (joinParts_cons (FormattedValue_plain (thn (hv pins s σ H _ I h) fun u s1 ⟨x, H1, I1, r1, z, e, hz, q⟩ => ?_)))
  subst e
  obtain ⟨t, rfl⟩ := r1
  refine formatField_str (fun t' tk => ?_) (by omega)
  have e0 : Str.empty ++ z = z := Str.empty_append z
  show (Str.empty ++ z).length ≤ sizeLine ∧ _
  rw [e0]
  refine ⟨by omega, joinParts_cons (Calls.Constant_str ?_)⟩
  show (z ++ y).length ≤ sizeLine ∧ _
  rw [strLen_append]
  exact ⟨hz, joinParts_nil ⟨.str (z ++ y), H1, (I1.tok _).tok _, ⟨_, rfl⟩, q⟩ (by rw [strLen_append]; exact hz)⟩

/-! ### a op1 b op2 c op3 d -/
def tChain3 (r r' r'' : R2) (ta tb tc td : TE) : TE := fun σ H Q => ta σ H fun x H1 => tb σ H1 fun y H2 => r x y H2 fun z H3 => ∃ k, z = .bl k ∧
  (if k = true then tc σ H3 fun w' H4 => r' y w' H4 fun z2 H5 => ∃ k2, z2 = .bl k2 ∧ (if k2 = true then td σ H5 fun v' H6 => r'' w' v' H6 Q else Q (.bl false) H5) else Q (.bl false) H3)
theorem pe_chain3 {op op' op'' : CmpOp} {r r' r'' : R2} (ho : OpR X (compareOp op) r) (ho' : OpR X (compareOp op') r') (ho'' : OpR X (compareOp op'') r'') (ha : PE X a ta) (hb : PE X b tb) (hc : PE X c tc) (hd : PE X d td)
    (hm : lastMarks [op, op', op''] [b, c, d] = false := by with_unfolding_all rfl) : PE X (.Compare a [op, op', op''] [b, c, d] pos) (tChain3 r r' r'' ta tb tc td) := by
  intro pins s σ H Q I h
  refine Compare_chain (thn (ha pins s σ H _ I h) fun v s1 ⟨x, H1, I1, r1, q1⟩ => chain_link (thn (hb pins s1 σ H1 _ I1 q1) fun u s2 ⟨y, H2, I2, r2, q2⟩ =>
    thn (ho pins s2 σ H2 x y v u _ I2 r1 r2 q2) fun d s3 ⟨z, H3, I3, r3, k, e, q3⟩ => ?_)) hm
  subst e
  cases r3
  refine wpAny_truthy_bool ?_
  cases k with
  | false => exact ite_ff ⟨.bl false, H3, I3, rfl, q3⟩
  | true =>
    refine ite_tt (chain_link (thn (hc pins s3 σ H3 _ I3 q3) fun u4 s4 ⟨z', H4, I4, r4, q4⟩ => thn (ho' pins s4 σ H4 y z' u u4 _ I4 r2 r4 q4) fun d5 s5 ⟨z5, H5, I5, r5, k5, e5, q5⟩ => ?_))
    subst e5
    cases r5
    refine wpAny_truthy_bool ?_
    cases k5 with
    | false => exact ite_ff ⟨.bl false, H5, I5, rfl, q5⟩
    | true => exact ite_tt (chain_last (thn (hd pins s5 σ H5 _ I5 q5) fun w6 s6 ⟨z6, H6, I6, r6, q6⟩ => ho'' pins s6 σ H6 z' z6 u4 w6 Q I6 r4 r6 q6))
end
end L2

set_option Elab.async false
set_option linter.all false
set_option maxRecDepth 100000
set_option maxHeartbeats 4000000
namespace L2
open PySem PySem.Spec PyProof.Rows
open AutoSeq1 (wpAny_loadPart')
open MeetsSeq MeetsSeq2 MeetsSeq3 SeqRoads2

/-! ### two values are equal, in this world -/
def EqI (prog : Program) (w : World) (A : Around) (s : Shared) (y x : Value) : Prop := ∀ (E : Value → Shared → Prop) (Q : Bool → Shared → Prop), Q true s → wpAny (model prog w) A (eqBool y x) Q E s
def RcI (prog : Program) (w : World) (op : CmpOp) (A : Around) (s : Shared) (y x : Value) (k : Bool) : Prop := ∀ (E : Value → Shared → Prop) (Q : Value → Shared → Prop), Q (.bool k) s → wpAny (model prog w) A (richCompare op y x) Q E s
section
variable {prog : Program} {w : World} {A : Around} {s : Shared}
theorem EqI.of {y x : Value} (h : SeqAt.EqAt A s y x true) : EqI prog w A s y x := fun E Q q => h prog w E Q q
theorem EqI.refs {l b : Addr} (h : l ≠ b → RcI prog w .Eq A s (.ref l) (.ref b) true) : EqI prog w A s (.ref l) (.ref b) := fun E Q q => by
  by_cases e : l = b
  · subst e; exact SeqAt.EqAt.same _ prog w E Q q
  · unfold eqBool
    refine wpAny_holding (wpAny_ite_split (fun hab => absurd (by have := eq_of_beq hab; injection this) e) (fun _ => ?_))
    exact wpAny_bind (h e E _ (wpAny_truthy_bool q))

/-- the loop of two lists of one length whose items are equal -/
theorem eqi_loop (l b : Addr) (xs ys : Array Value) (n n2 : Nat) (dd dd2 : Option Addr) (sl sl2 : Array (Option Value)) (hsz : xs.size = ys.size) (c : Int) (k0 : Bool) (hc0 : (c = 2 ∧ k0 = true) ∨ (c = 3 ∧ k0 = false)) (k : Nat) :
    ∀ i : Nat, xs.size - i = k → MeetsIn prog w (Builtin.«list.__eq__.loop» ⟨[.ref l, .ref b, rawInt i, rawInt c], []⟩)
      (fun A R s => s.heap.get? l = some ⟨.type "list", dd, .seq xs n, sl⟩ ∧ s.heap.get? b = some ⟨.type "list", dd2, .seq ys n2, sl2⟩ ∧ (∀ j (h1 : j < xs.size) (h2 : j < ys.size), EqI prog w A.in1 s xs[j] ys[j]) ∧ R (.ok (.ret (.bool k0))) s) := by
  induction k with
  | zero =>
    intro i hk A R s h
    obtain ⟨hp, g, d, tk, os⟩ := s
    obtain ⟨hl, hb, he, h⟩ := h
    have i1 : xs[((i : Nat) : Int).toNat]? = none := by simp; omega
    have i2 : ys[((i : Nat) : Int).toNat]? = none := by simp; omega
    rcases hc0 with ⟨rfl, rfl⟩ | ⟨rfl, rfl⟩
    · wp_walk using wpAny_loadPart' hl, wpAny_loadPart' hb
      rw [i1, i2]
      wp_walk using wpAny_loadPart' hl, wpAny_loadPart' hb
      show R (.ok (.ret (.bool (xs.size == ys.size)))) _
      rw [hsz]
      simpa using h
    · wp_walk using wpAny_loadPart' hl, wpAny_loadPart' hb
      rw [i1, i2]
      wp_walk using wpAny_loadPart' hl, wpAny_loadPart' hb
      show R (.ok (.ret (.bool (xs.size != ys.size)))) _
      rw [hsz]
      simpa using h
  | succ k ih =>
    intro i hk A R s h
    obtain ⟨hp, g, d, tk, os⟩ := s
    obtain ⟨hl, hb, he, h⟩ := h
    have hlt : i < xs.size := by omega
    have hlt2 : i < ys.size := by omega
    have i1 : xs[((i : Nat) : Int).toNat]? = some xs[i] := by simp [hlt]
    have i2 : ys[((i : Nat) : Int).toNat]? = some ys[i] := by simp [hlt2]
    have hc : ((i : Int) + 1) = ((i + 1 : Nat) : Int) := by push_cast; rfl
    rcases hc0 with ⟨rfl, rfl⟩ | ⟨rfl, rfl⟩
    all_goals
      wp_walk using wpAny_loadPart' hl, wpAny_loadPart' hb
      rw [i1, i2]
      refine wpAny_bind (he i hlt hlt2 _ _ ?_)
      wp_walk
      rw [hc]
      refine ⟨plainId_quiet plain_eq_loop _, codeAny_builtin entry_eq_loop ?_⟩
      rw [Around.under_plainId plain_eq_loop _]
      exact ih (i + 1) (by omega) A R _ ⟨hl, hb, he, h⟩
theorem eqi_lists {l b : Addr} {xs ys : Array Value} (hl : s.heap.IsList l xs) (hb : s.heap.IsList b ys) (hsz : xs.size = ys.size) (hu : A.units < cLine) (he : ∀ j (h1 : j < xs.size) (h2 : j < ys.size), EqI prog w A.in1 s xs[j] ys[j]) :
    RcI prog w .Eq A s (.ref l) (.ref b) true ∧ RcI prog w .NotEq A s (.ref l) (.ref b) false := by
  obtain ⟨⟨cls, dd, data, sl⟩, ho, hc, n, hd⟩ := id hl
  obtain ⟨⟨cls2, dd2, data2, sl2⟩, ho2, hc2, n2, hd2⟩ := id hb
  simp only at hc hd hc2 hd2
  subst hc hd hc2 hd2
  have f3 := AutoSeq1.sub_list_list
  have hne : ¬ (xs.size != ys.size) = true := by simp [hsz]
  constructor
  · intro E Q q
    refine wpAny_richCompare_same_room (op := .Eq) ⟨_, ho, rfl⟩ ⟨_, ho2, rfl⟩ PySem.F.slot_list_eq (call_meetsIn PySem.F.slot_list_eq ⟨_, ho, rfl⟩ PySem.F.entry_list_eq (PySem.F.args_list_eq_2 _ _) (S := fun A R s => s.heap.get? l = some ⟨.type "list", dd, .seq xs n, sl⟩ ∧ s.heap.get? b = some ⟨.type "list", dd2, .seq ys n2, sl2⟩ ∧ (∀ j (h1 : j < xs.size) (h2 : j < ys.size), EqI prog w A.in1 s xs[j] ys[j]) ∧ R (.ok (.ret (.bool true))) s) (fun A R s h => ?_) ⟨ho, ho2, he, (show Value.bool true ≠ Value.notImplemented ∧ Q (.bool true) s from ⟨(fun x => nomatch x), q⟩)⟩) hu
    obtain ⟨hp, g, d, tk, os⟩ := s
    obtain ⟨hl, hb, he, h⟩ := h
    wp_walk using wpAny_loadPart' hl, wpAny_loadPart' hb
    refine ⟨plainId_quiet plain_eq_loop _, codeAny_builtin entry_eq_loop ?_⟩
    rw [Around.under_plainId plain_eq_loop _]
    exact eqi_loop l b xs ys n n2 dd dd2 sl sl2 hsz 2 true (.inl ⟨rfl, rfl⟩) _ 0 rfl A R _ ⟨hl, hb, he, h⟩
  · intro E Q q
    refine wpAny_richCompare_same_room (op := .NotEq) ⟨_, ho, rfl⟩ ⟨_, ho2, rfl⟩ PySem.F.slot_list_ne (call_meetsIn PySem.F.slot_list_ne ⟨_, ho, rfl⟩ PySem.F.entry_list_ne (PySem.F.args_list_ne_2 _ _) (S := fun A R s => s.heap.get? l = some ⟨.type "list", dd, .seq xs n, sl⟩ ∧ s.heap.get? b = some ⟨.type "list", dd2, .seq ys n2, sl2⟩ ∧ (∀ j (h1 : j < xs.size) (h2 : j < ys.size), EqI prog w A.in1 s xs[j] ys[j]) ∧ R (.ok (.ret (.bool false))) s) (fun A R s h => ?_) ⟨ho, ho2, he, (show Value.bool false ≠ Value.notImplemented ∧ Q (.bool false) s from ⟨(fun x => nomatch x), q⟩)⟩) hu
    obtain ⟨hp, g, d, tk, os⟩ := s
    obtain ⟨hl, hb, he, h⟩ := h
    wp_walk using wpAny_loadPart' hl, wpAny_loadPart' hb
    refine ⟨plainId_quiet plain_eq_loop _, codeAny_builtin entry_eq_loop ?_⟩
    rw [Around.under_plainId plain_eq_loop _]
    exact eqi_loop l b xs ys n n2 dd dd2 sl sl2 hsz 3 false (.inr ⟨rfl, rfl⟩) _ 0 rfl A R _ ⟨hl, hb, he, h⟩
/-- two dicts of one length: each pair of the first is met in the second -/
theorem eqi_pairs {K : Type} [DecidableEq K] {knd : KeyKind prog w K} {E : Value → Shared → Prop} {nm : String} {a b : Addr} {ka kb : List (K × Value)} {Q : Bool → Shared → Prop} (ha : (a == sysModules) = false) (hb : (b == sysModules) = false) (da : s.heap.DictOf knd a ka) (db : s.heap.DictOf knd b kb)
    (hlen : ka.length = kb.length) (hits : ∀ k v, (k, v) ∈ ka → ∃ y, valueAt kb k = some y ∧ EqI prog w A s v y) (h : Q true s) : wpAny (model prog w) A (Builtin.Dict.samePairs nm a b) Q E s := by
  obtain ⟨oa, es, ep, hoa, _, hda, hka, hpa, _⟩ := da
  obtain ⟨ob, es', ep', hob, _, hdb, hkb, hpb, _⟩ := db
  have la : ka.length = es.size := by rw [← hpa.length]; exact Array.length_toList
  have lb : kb.length = es'.size := by rw [← hpb.length]; exact Array.length_toList
  have hsz : es.size = es'.size := by rw [← la, ← lb]; exact hlen
  have hfind : ∀ k, findBy knd.is es' k = valueAt kb k := fun k => by
    rw [← hpb.find k]
    clear lb hpb hkb hdb hob hsz
    obtain ⟨l⟩ := es'
    simp [findBy]
  unfold Builtin.Dict.samePairs Builtin.Dict.showsAll
  rw [if_neg (show ¬ (a == sysModules) = true by rw [ha]; exact Bool.false_ne_true), if_neg (show ¬ (b == sysModules) = true by rw [hb]; exact Bool.false_ne_true)]
  refine wpAny_bind (wpAny_pure (wpAny_bind (wpAny_pure (wpAny_bind (wpAny_dictEntries hoa hda ?_)))))
  dsimp only
  refine wpAny_bind (wpAny_dictEntries hob hdb ?_)
  rw [if_neg (by rw [hsz]; simp)]
  refine wpAny_bind (wpAny_dictEpoch hoa hda (wpAny_bind ?_))
  rw [Std.Legacy.Range.forIn_eq_forIn_range']
  simp only [Std.Legacy.Range.size, Nat.sub_zero, Nat.add_sub_cancel, Nat.div_one]
  refine wpAny_forIn_list _ (fun rest q s' => s' = s ∧ q = (none, ()) ∧ ∃ i, rest = List.range' i (es.size - i) ∧ i ≤ es.size) _ ?_ ?_ _ _ ⟨rfl, rfl, 0, by simp, Nat.zero_le _⟩
  · rintro x rest q s' ⟨rfl, rfl, i, hr, hi⟩
    have hlt : i < es.size := by
      rcases Nat.lt_or_ge i es.size with z | z
      · exact z
      · rw [Nat.sub_eq_zero_of_le z] at hr; simp at hr
    obtain ⟨rfl, hrest⟩ : x = i ∧ rest = List.range' (i + 1) (es.size - (i + 1)) := by
      rw [show es.size - i = (es.size - (i + 1)) + 1 by omega, List.range'_succ] at hr
      injection hr with h1 h2
      exact ⟨h1, h2⟩
    refine wpAny_bind (wpAny_dictEntries hoa hda ?_)
    rw [Array.getElem?_eq_getElem hlt]
    have hlt' : x < ka.length := by rw [la]; exact hlt
    obtain ⟨k, v, hkv⟩ : ∃ k v, ka[x] = (k, v) := ⟨_, _, rfl⟩
    obtain ⟨hkey, hval⟩ := hpa.get? (i := x) (e := es[x]) (k := k) (v := v) (by rw [Array.getElem?_toList]; exact Array.getElem?_eq_getElem hlt) (by rw [List.getElem?_eq_getElem hlt', hkv])
    obtain ⟨k', hk', hh⟩ := hka es[x] (Array.getElem_mem hlt)
    have ekk : k' = k := knd.inj _ _ _ hk' hkey
    rw [ekk] at hh
    obtain ⟨y, hy, he⟩ := hits k v (by rw [← hkv]; exact List.getElem_mem hlt')
    show wpAny _ _ (holding [es[x].key, es[x].val] _ >>= _) _ _ _
    rw [hh]
    refine wpAny_bind (wpAny_holding (wpAny_bind (wpAny_dictFind_of hkey hob hdb hkb ?_)))
    cases hj : es'.findIdx? fun e => knd.is k e.key with
    | none =>
      have hn : valueAt kb k = none := by rw [← hfind k, findBy_of_findIdx?, hj]
      rw [hn] at hy
      cases hy
    | some j =>
      obtain ⟨hjlt, _, _⟩ := Array.findIdx?_eq_some_iff_getElem.mp hj
      have hv' : valueAt kb k = some es'[j].val := by
        rw [← hfind k, findBy_of_findIdx?, hj]
        simp [Array.getElem?_eq_getElem hjlt]
      refine wpAny_bind (wpAny_dictEntries hob hdb ?_)
      rw [Array.getElem?_eq_getElem hjlt]
      have ey : es'[j].val = y := Option.some.inj (hv'.symm.trans hy)
      rw [← ey, ← hval] at he
      refine wpAny_holding (he _ _ ?_)
      show wpAny _ _ (if (!true) = true then _ else _) _ _ _
      rw [if_neg (by decide)]
      refine wpAny_bind (wpAny_dictEpoch hoa hda ?_)
      rw [if_neg (by simp)]
      exact wpAny_pure ⟨rfl, rfl, x + 1, hrest, hlt⟩
  · rintro q s' ⟨rfl, rfl, i, hr, hi⟩
    exact wpAny_pure h
theorem eqi_dicts {K : Type} [DecidableEq K] {knd : KeyKind prog w K} {a b : Addr} {ka kb : List (K × Value)} (ha : (a == sysModules) = false) (hb : (b == sysModules) = false) (da : s.heap.DictOf knd a ka) (db : s.heap.DictOf knd b kb)
    (hlen : ka.length = kb.length) (hu : A.units < cLine) (hits : ∀ k v, (k, v) ∈ ka → ∃ y, valueAt kb k = some y ∧ EqI prog w A.in1 s v y) : RcI prog w .Eq A s (.ref a) (.ref b) true ∧ RcI prog w .NotEq A s (.ref a) (.ref b) false := by
  constructor
  · intro E Q q
    refine wpAny_richCompare_same_room (op := .Eq) da.typeIs db.typeIs PySem.F.slot_dict_eq (wpAny_call_entry PySem.F.slot_dict_eq da.typeIs PySem.F.entry_dict_eq ?_ (PySem.F.args_dict_eq_2 _ _)) hu
    show wpAny _ _ (Builtin.Dict.dictSlotArgs "__eq__" ⟨[.ref a, .ref b], []⟩ >>= _) _ _ s
    refine wpAny_bind ?_
    unfold Builtin.Dict.dictSlotArgs
    refine wpAny_bind (wpAny_notOrdered_dict da.typeIs ?_)
    show wpAny _ _ (pure (Value.ref a, Value.ref b)) _ _ s
    refine wpAny_pure (wpAny_bind (wpAny_isInstance (T := "dict") db.typeIs PySem.F.sub_dict_dict ?_))
    simp only [Bool.not_true, Bool.false_eq_true, if_false]
    refine wpAny_bind (wpAny_pure (wpAny_bind (wpAny_pure (wpAny_bind (eqi_pairs ha hb da db hlen hits ?_)))))
    exact wpAny_pure ⟨_, rfl, (fun x => nomatch x), q⟩
  · intro E Q q
    refine wpAny_richCompare_same_room (op := .NotEq) da.typeIs db.typeIs PySem.F.slot_dict_ne (wpAny_call_entry PySem.F.slot_dict_ne da.typeIs PySem.F.entry_dict_ne ?_ (PySem.F.args_dict_ne_2 _ _)) hu
    show wpAny _ _ (Builtin.Dict.dictSlotArgs "__ne__" ⟨[.ref a, .ref b], []⟩ >>= _) _ _ s
    refine wpAny_bind ?_
    unfold Builtin.Dict.dictSlotArgs
    refine wpAny_bind (wpAny_notOrdered_dict da.typeIs ?_)
    show wpAny _ _ (pure (Value.ref a, Value.ref b)) _ _ s
    refine wpAny_pure (wpAny_bind (wpAny_isInstance (T := "dict") db.typeIs PySem.F.sub_dict_dict ?_))
    simp only [Bool.not_true, Bool.false_eq_true, if_false]
    refine wpAny_bind (wpAny_pure (wpAny_bind (wpAny_pure (wpAny_bind (eqi_pairs ha hb da db hlen hits ?_)))))
    exact wpAny_pure ⟨_, rfl, (fun x => nomatch x), q⟩
end

/-! ### equal by the abstract heap, to a depth -/
def plainV : V → Prop
  | .byt _ => False
  | .flt _ => False
  | .ty _ => False
  | _ => True
/-- texts, numbers, lists and tuples of them -/
def EqT (K : PySem.W.Frag) (H : Hp) : Nat → V → V → Prop
  | 0, x, y => x = y ∧ plainV x
  | n + 1, x, y => EqT K H n x y ∨ (∃ a b xs ys, x = .ref a ∧ y = .ref b ∧ SqL K H a xs ∧ SqL K H b ys ∧ Paired (EqT K H n) xs ys) ∨
      (∃ a b xs ys, x = .ref a ∧ y = .ref b ∧ SqT K H a xs ∧ SqT K H b ys ∧ Paired (EqT K H n) xs ys)
/-- dicts too, and lists of dicts -/
def EqD (K : PySem.W.Frag) (H : Hp) : Nat → V → V → Prop
  | 0, x, y => EqT K H 0 x y
  | n + 1, x, y => EqT K H (n + 1) x y ∨ (∃ a b xs ys, x = .ref a ∧ y = .ref b ∧ SqL K H a xs ∧ SqL K H b ys ∧ Paired (EqD K H n) xs ys) ∨
      (∃ a b ka kb, x = .ref a ∧ y = .ref b ∧ Rd H a (.dK ka) ∧ Rd H b (.dK kb) ∧ ka.length = kb.length ∧ ∀ k v, (k, v) ∈ ka → ∃ v', valV kb k = some v' ∧ EqD K H n v v')
theorem paired_get {α β : Type} {F : α → β → Prop} : ∀ {l₁ : List α} {l₂ : List β} {i : Nat} {x : α} {y : β}, Paired F l₁ l₂ → l₁[i]? = some x → l₂[i]? = some y → F x y
  | _, _, _, _, _, .nil, e, _ => by simp at e
  | _, _, 0, _, _, .cons r _, e, e' => by simp at e e'; subst e e'; exact r
  | _, _, i + 1, _, _, .cons _ t, e, e' => paired_get (i := i) t (by simpa using e) (by simpa using e')
section
variable {X : Cx} {pins : List (Addr × Obj)} {σ : St} {H : Hp} {s : Shared}
theorem all_tt (n : Nat) : (List.range n).all (fun _ => true) = true := by simp
theorem eqT_at (I : Inv X pins σ H s) : ∀ (n : Nat) {x y : V} {u v : Value} {A : Around}, EqT X.K H n x y → RelV x u → RelV y v → A.units + n < cLine → SeqAt.EqAt A s u v true
  | 0, x, y, u, v, A, h, rx, ry, hu => by
    obtain ⟨e, p⟩ := h
    subst e
    cases x with
    | non => cases rx; cases ry; exact SeqAt.EqAt.same _
    | bl b => cases rx; cases ry; exact SeqAt.EqAt.same _
    | int i =>
      obtain ⟨t, rfl⟩ := rx
      obtain ⟨t', rfl⟩ := ry
      have := SeqAt.EqAt.int_int (A := A) (s := s) i t i t'
      rw [beq_self_eq_true] at this
      exact this
    | str z =>
      obtain ⟨t, rfl⟩ := rx
      obtain ⟨t', rfl⟩ := ry
      have := SeqAt.EqAt.str_str (A := A) (s := s) z t z t'
      rw [beq_self_eq_true] at this
      exact this
    | ref a => cases rx; cases ry; exact SeqAt.EqAt.same _
    | _ => exact False.elim p
  | n + 1, x, y, u, v, A, h, rx, ry, hu => by
    rcases h with h | ⟨a, b, xs, ys, rfl, rfl, ha, hb, hp⟩ | ⟨a, b, xs, ys, rfl, rfl, ha, hb, hp⟩
    · exact eqT_at I n h rx ry (by omega)
    · cases rx; cases ry
      obtain ⟨ia, ra, pa, _⟩ := I.list ha
      obtain ⟨ib, rb, pb, _⟩ := I.list hb
      by_cases e : a = b
      · subst e; exact SeqAt.EqAt.same _
      · have hsz : ia.toArray.size = ib.toArray.size := by rw [List.size_toArray, List.size_toArray, ← ra.length, ← rb.length]; exact hp.length
        have q := SeqAt.RcAt.lists (A := A) (e := fun _ => true) pa.isList pb.isList hsz (by omega) fun j j1 j2 => by
          have j1' : j < ia.length := by simpa using j1
          have j2' : j < ib.length := by simpa using j2
          have k1 : j < xs.length := by rw [ra.length]; exact j1'
          have k2 : j < ys.length := by rw [rb.length]; exact j2'
          obtain ⟨u1, e1, r1⟩ := ra.get (List.getElem?_eq_getElem k1)
          obtain ⟨u2, e2, r2⟩ := rb.get (List.getElem?_eq_getElem k2)
          have g1 : ia.toArray[j] = u1 := by
            have : ia[j]? = some ia[j] := List.getElem?_eq_getElem j1'
            rw [e1] at this
            simpa using (Option.some.inj this).symm
          have g2 : ib.toArray[j] = u2 := by
            have : ib[j]? = some ib[j] := List.getElem?_eq_getElem j2'
            rw [e2] at this
            simpa using (Option.some.inj this).symm
          rw [g1, g2]
          exact eqT_at I n (paired_get hp (List.getElem?_eq_getElem k1) (List.getElem?_eq_getElem k2)) r1 r2 (by show A.units + 1 + n < cLine; omega)
        rw [all_tt] at q
        exact SeqAt.EqAt.of_refs e q
    · cases rx; cases ry
      obtain ⟨ia, ra, pa, _⟩ := I.tuple ha
      obtain ⟨ib, rb, pb, _⟩ := I.tuple hb
      by_cases e : a = b
      · subst e; exact SeqAt.EqAt.same _
      · have hsz : ia.toArray.size = ib.toArray.size := by rw [List.size_toArray, List.size_toArray, ← ra.length, ← rb.length]; exact hp.length
        have q := SeqAt.RcAt.tuples (A := A) (e := fun _ => true) (show s.heap.IsTuple a ia.toArray from pa) (show s.heap.IsTuple b ib.toArray from pb) (by omega) fun j j1 j2 => by
          have j1' : j < ia.length := by simpa using j1
          have j2' : j < ib.length := by simpa using j2
          have k1 : j < xs.length := by rw [ra.length]; exact j1'
          have k2 : j < ys.length := by rw [rb.length]; exact j2'
          obtain ⟨u1, e1, r1⟩ := ra.get (List.getElem?_eq_getElem k1)
          obtain ⟨u2, e2, r2⟩ := rb.get (List.getElem?_eq_getElem k2)
          have g1 : ia.toArray[j] = u1 := by
            have : ia[j]? = some ia[j] := List.getElem?_eq_getElem j1'
            rw [e1] at this
            simpa using (Option.some.inj this).symm
          have g2 : ib.toArray[j] = u2 := by
            have : ib[j]? = some ib[j] := List.getElem?_eq_getElem j2'
            rw [e2] at this
            simpa using (Option.some.inj this).symm
          rw [g1, g2]
          exact eqT_at I n (paired_get hp (List.getElem?_eq_getElem k1) (List.getElem?_eq_getElem k2)) r1 r2 (by show A.units + 1 + n < cLine; omega)
        rw [all_tt, hsz] at q
        exact SeqAt.EqAt.of_refs e (by simpa using q)
/-- the items of two lists -/
theorem eqI_items {n : Nat} {A : Around} {xs ys : List V} {ia ib : List Value} (ra : Vals xs ia) (rb : Vals ys ib) (hp : Paired (EqD X.K H n) xs ys)
    (ih : ∀ {x y : V} {u v : Value}, EqD X.K H n x y → RelV x u → RelV y v → EqI X.prog X.w A s u v) (j : Nat) (j1 : j < ia.toArray.size) (j2 : j < ib.toArray.size) : EqI X.prog X.w A s ia.toArray[j] ib.toArray[j] := by
  have j1' : j < ia.length := by simpa using j1
  have j2' : j < ib.length := by simpa using j2
  have k1 : j < xs.length := by rw [ra.length]; exact j1'
  have k2 : j < ys.length := by rw [rb.length]; exact j2'
  obtain ⟨u1, e1, r1⟩ := ra.get (List.getElem?_eq_getElem k1)
  obtain ⟨u2, e2, r2⟩ := rb.get (List.getElem?_eq_getElem k2)
  have g1 : ia.toArray[j] = u1 := by
    have : ia[j]? = some ia[j] := List.getElem?_eq_getElem j1'
    rw [e1] at this
    simpa using (Option.some.inj this).symm
  have g2 : ib.toArray[j] = u2 := by
    have : ib[j]? = some ib[j] := List.getElem?_eq_getElem j2'
    rw [e2] at this
    simpa using (Option.some.inj this).symm
  rw [g1, g2]
  exact ih (paired_get hp (List.getElem?_eq_getElem k1) (List.getElem?_eq_getElem k2)) r1 r2
theorem kv_mem : ∀ {kvs : List (Key × V)} {vs : List (Key × Value)} {k : Key} {u : Value}, KV kvs vs → (k, u) ∈ vs → ∃ v, (k, v) ∈ kvs ∧ RelV v u
  | _, _, _, _, .nil, h => by cases h
  | _, _, k, u, .cons (a := p) (b := q) r t, h => by
    rcases List.mem_cons.mp h with e | h
    · subst e
      exact ⟨p.2, by rw [show (k, p.2) = p from by rw [← show p.1 = k from r.1]]; exact List.mem_cons_self, r.2⟩
    · obtain ⟨v, h1, h2⟩ := kv_mem t h
      exact ⟨v, List.mem_cons_of_mem _ h1, h2⟩
theorem eqD_dict {n : Nat} {A : Around} {a b : Addr} {ka kb : List (Key × V)} (I : Inv X pins σ H s) (ha : Rd H a (.dK ka)) (hb : Rd H b (.dK kb)) (hl : ka.length = kb.length) (hits : ∀ k v, (k, v) ∈ ka → ∃ v', valV kb k = some v' ∧ EqD X.K H n v v') (hu : A.units < cLine)
    (ih : ∀ {x y : V} {u v : Value}, EqD X.K H n x y → RelV x u → RelV y v → EqI X.prog X.w A.in1 s u v) : RcI X.prog X.w .Eq A s (.ref a) (.ref b) true ∧ RcI X.prog X.w .NotEq A s (.ref a) (.ref b) false := by
  obtain ⟨za, ma, va, qa, da⟩ := dk_rd I.hok ha
  obtain ⟨zb, mb, vb, qb, db⟩ := dk_rd I.hok hb
  refine eqi_dicts ma mb da db (by rw [← qa.length, ← qb.length]; exact hl) hu fun k u hm => ?_
  obtain ⟨v, hv, rv⟩ := kv_mem qa hm
  obtain ⟨v', e', q⟩ := hits k v hv
  obtain ⟨y, ey, ry⟩ := RelO.some_of (v := v') (o := valueAt vb k) (by rw [← e']; exact qb.val k)
  exact ⟨y, ey, ih q rv ry⟩
theorem eqD_at (I : Inv X pins σ H s) : ∀ (n : Nat) {x y : V} {u v : Value} {A : Around}, EqD X.K H n x y → RelV x u → RelV y v → A.units + n < cLine → EqI X.prog X.w A s u v
  | 0, x, y, u, v, A, h, rx, ry, hu => EqI.of (eqT_at I 0 h rx ry hu)
  | n + 1, x, y, u, v, A, h, rx, ry, hu => by
    have ih : ∀ {x y : V} {u v : Value}, EqD X.K H n x y → RelV x u → RelV y v → EqI X.prog X.w A.in1 s u v := fun {x y u v} h rx ry => eqD_at I n h rx ry (by show A.units + 1 + n < cLine; omega)
    rcases h with h | ⟨a, b, xs, ys, rfl, rfl, ha, hb, hp⟩ | ⟨a, b, ka, kb, rfl, rfl, ha, hb, hl, hits⟩
    · exact EqI.of (eqT_at I (n + 1) h rx ry hu)
    · cases rx; cases ry
      obtain ⟨ia, ra, pa, _⟩ := I.list ha
      obtain ⟨ib, rb, pb, _⟩ := I.list hb
      have hsz : ia.toArray.size = ib.toArray.size := by rw [List.size_toArray, List.size_toArray, ← ra.length, ← rb.length]; exact hp.length
      exact EqI.refs fun _ => (eqi_lists pa.isList pb.isList hsz (by omega) (eqI_items ra rb hp ih)).1
    · cases rx; cases ry
      exact EqI.refs fun _ => (eqD_dict I ha hb hl hits (by omega) ih).1
/-- two lists, two dicts: ==, != -/
def rSame (X : Cx) (k : Bool) : R2 := fun x y H Q => ∃ n, X.A.units + n + 1 < cLine ∧ ((∃ a b xs ys, x = .ref a ∧ y = .ref b ∧ SqL X.K H a xs ∧ SqL X.K H b ys ∧ Paired (EqD X.K H n) xs ys) ∨
  (∃ a b ka kb, x = .ref a ∧ y = .ref b ∧ Rd H a (.dK ka) ∧ Rd H b (.dK kb) ∧ ka.length = kb.length ∧ ∀ k v, (k, v) ∈ ka → ∃ v', valV kb k = some v' ∧ EqD X.K H n v v')) ∧ Q (.bl k) H
theorem same_both {x y : V} {u v : Value} {Q : VK} {k : Bool} (I : Inv X pins σ H s) (rx : RelV x u) (ry : RelV y v) (h : rSame X k x y H Q) : (RcI X.prog X.w .Eq X.A s u v true ∧ RcI X.prog X.w .NotEq X.A s u v false) ∧ Q (.bl k) H := by
  obtain ⟨n, hu, h, q⟩ := h
  refine ⟨?_, q⟩
  have ih : ∀ {x y : V} {u v : Value}, EqD X.K H n x y → RelV x u → RelV y v → EqI X.prog X.w X.A.in1 s u v := fun {x y u v} h rx ry => eqD_at I n h rx ry (by show X.A.units + 1 + n < cLine; omega)
  rcases h with ⟨a, b, xs, ys, rfl, rfl, ha, hb, hp⟩ | ⟨a, b, ka, kb, rfl, rfl, ha, hb, hl, hits⟩
  · cases rx; cases ry
    obtain ⟨ia, ra, pa, _⟩ := I.list ha
    obtain ⟨ib, rb, pb, _⟩ := I.list hb
    have hsz : ia.toArray.size = ib.toArray.size := by rw [List.size_toArray, List.size_toArray, ← ra.length, ← rb.length]; exact hp.length
    exact eqi_lists pa.isList pb.isList hsz (by omega) (eqI_items ra rb hp ih)
  · cases rx; cases ry
    exact eqD_dict I ha hb hl hits (by omega) ih
theorem op_neSame : OpR X (compareOp .NotEq) (rSame X false) := by
  intro pins s σ H x y v u Q I rx ry h
  obtain ⟨⟨_, h1⟩, q⟩ := same_both I rx ry h
  exact h1 _ _ ⟨.bl false, H, I, rfl, q⟩
end
end L2

set_option Elab.async false
set_option linter.all false
set_option maxRecDepth 100000
set_option maxHeartbeats 4000000
namespace L2
open PySem PySem.Spec PyProof.Rows
/-- a comprehension's scope, decided -/
def compC (sc : Scope) (N : List Str) (scope : Scope) (x : Str) (cp : List (Nat × Str)) : Bool :=
  (scope.kind == .function) && (scope.names.lookup x == some .local) && decide ((x :: cp.map (·.2)).Nodup) && scope.names.all (fun y => !(y.2 == .local) || (scope.names.lookup y.1 == some .local)) &&
  scope.names.all (fun y => !(y.2 == .cell)) && scope.names.all (fun y => !(y.2 == .free) || (sc.names.lookup y.1 == some .cell)) &&
  cp.all (fun p => (N[p.1]? == some p.2) && (sc.names.lookup p.2 == some .cell) && (scope.names.lookup p.2 == some .free))
theorem CompScope.of {X : Cx} {scope : Scope} {x : Str} {cp : List (Nat × Str)} (sc : Scope) (N : List Str) (e1 : X.env.scope = sc) (e2 : X.N = N) (h : compC sc N scope x cp = true) : CompScope X scope x cp := by
  subst e1 e2
  unfold compC at h
  simp only [Bool.and_eq_true, beq_iff_eq, decide_eq_true_eq, List.all_eq_true, Bool.or_eq_true, Bool.not_eq_true', beq_eq_false_iff_ne] at h
  obtain ⟨⟨⟨⟨⟨⟨h1, h2⟩, h3⟩, h4⟩, h5⟩, h6⟩, h7⟩ := h
  refine ⟨h1, h2, h3, fun y hy hk => (h4 y hy).resolve_left fun z => z hk, fun y hy => h5 y hy, fun y hy hk => (h6 y hy).resolve_left fun z => z hk, ?_⟩
  have go : ∀ l : List (Nat × Str), (∀ p ∈ l, (X.N[p.1]? = some p.2 ∧ X.env.scope.names.lookup p.2 = some .cell) ∧ scope.names.lookup p.2 = some .free) → CapOk X scope l := by
    intro l
    induction l with
    | nil => intro _; trivial
    | cons p r ih =>
      intro hp
      obtain ⟨⟨a, b⟩, c⟩ := hp p List.mem_cons_self
      exact ⟨⟨a, b, c⟩, ih fun q hq => hp q (List.mem_cons_of_mem _ hq)⟩
  exact go cp h7
/-! a dict of the module, its keys texts -/
section
variable {X : Cx}
def tKGet (kvs : List (Key × V)) (ty : TE) : TE := fun σ H Q => ty σ H fun y H1 => ∃ k v, y = kV k ∧ valV kvs k = some v ∧ Q v H1
theorem pe_kget {x : Str} {a : Addr} {i : Expr} {ty : TE} {p pos : Pos} {kvs : List (Key × V)} (hg : Gl X x) (hm : X.mg x = some (.ref a)) (hd : ∀ h : Heap, X.K.In h → ∃ vs, KV kvs vs ∧ h.DictOf (mixKind X.prog X.w) a vs) (hi : PE X i ty) (hs : NoSl i)
    (hdb : (x == ("__debug__" : Str)) = false := by decide) : PE X (.Subscript (.Name x p) i pos) (tKGet kvs ty) := by
  intro pins s σ H Q I h
  have ho : PE X (.Name x p) (tC (.ref a)) := pe_glob hg hm rfl hdb
  refine subD_of PySem.F.slot_dict_getitem.lookup hs (thn (ho pins s σ H (fun v H' => v = .ref a ∧ H' = H) I ⟨rfl, rfl⟩) fun u s1 ⟨xv, H1, I1, rx, e1, e2⟩ => ?_)
  subst e1 e2
  obtain rfl : u = Value.ref a := rx
  refine thn (hi pins s1 σ H1 _ I1 h) fun iv s2 ⟨y, H2, I2, ry, k, v, ey, ev, q2⟩ => ?_
  subst ey
  obtain ⟨vs, rel, dd⟩ := hd s2.heap I2.kIn
  obtain ⟨w', hw, rw'⟩ := RelO.some_of (v := v) (o := valueAt vs k) (by rw [← ev]; exact rel.val k)
  exact ⟨dd.typeIs, wpAny_getItem_of (kV_is ry) dd.mapOf hw ⟨v, H2, I2.tok _, rw', q2⟩⟩
end
theorem upd_upd_same {H : Hp} {a : Addr} {o o' : HO} : upd (upd H a o) a o' = upd H a o' := by
  funext b; unfold upd; split <;> rfl
theorem same_new {H : Hp} {p : Addr} (h : H p = none) (o : HO) : Same H (upd H p o) := fun b u q => by rw [upd_ne (ne_of_none q h)]; exact q
theorem small {n : Nat} (h : n ≤ 1000) : n ≤ sizeLine := Nat.le_of_lt (small1000 h)
theorem iteD {c A B : Prop} [Decidable c] (hc : c) (h : A) : if decide c = true then A else B := by rw [decide_eq_true hc]; exact iteT h
theorem iteDF {c A B : Prop} [Decidable c] (hc : ¬ c) (h : B) : if decide c = true then A else B := by rw [decide_eq_false hc]; exact iteF h
theorem iteN {c A B : Prop} [Decidable c] (hc : ¬ c) (h : A) : if (!decide c) = true then A else B := by rw [decide_eq_false hc]; exact iteT h
/-- a value that is decided -/
theorem blT {c : Prop} [Decidable c] {Q : VK} {H : Hp} (hc : c) (h : Q (.bl true) H) : Q (.bl (decide c)) H := by rw [decide_eq_true hc]; exact h
theorem arr_mem {z : Array Nat} {i c : Nat} (h : z[i]? = some c) : c ∈ z.toList := by rw [← Array.getElem?_toList] at h; exact List.mem_of_getElem? h
theorem addSmall {a b : Nat} (ha : a ≤ 500) (hb : b ≤ 500) : a + b ≤ sizeLine := small (by omega)
/-! ### a display of written texts -/
def strsE : List Expr → Option (List Str)
  | [] => some []
  | .Constant (.str x) _ _ :: r => (strsE r).map (x :: ·)
  | _ => none
def tStrs (zs : List Str) : TA := fun _ H Q => Q (zs.map V.str) H
theorem pa_strs {X : Cx} : ∀ {es : List Expr} {zs : List Str}, strsE es = some zs → PA X es (tStrs zs)
  | [], zs, h => by
    have e : zs = [] := (Option.some.inj h).symm
    subst e
    exact fun pos pins s σ H Q I q => pa_nil pos pins s σ H Q I q
  | e :: r, zs, h => by
    cases e with
    | Constant c j pos =>
      cases c with
      | str x =>
        have h' : (strsE r).map (x :: ·) = some zs := h
        cases hr : strsE r with
        | none => rw [hr] at h'; cases h'
        | some ys =>
          rw [hr] at h'
          have e : zs = x :: ys := (Option.some.inj h').symm
          subst e
          exact fun pos pins s σ H Q I q => pa_cons (pe_str (X := X)) (pa_strs hr) rfl pos pins s σ H Q I q
      | _ => cases h
    | _ => cases h
theorem pe_strs {X : Cx} {es : List Expr} {pos : Pos} (zs : List Str) (h : strsE es = some zs) : PE X (.List es pos) (tLst (tStrs zs)) := pe_lst (pa_strs h)
end L2

set_option Elab.async false
set_option linter.all false
set_option maxRecDepth 100000
set_option maxHeartbeats 4000000
namespace Lf
open PySem L2
def SIGNS : Str := "abcdefghijklmnopqrstuvwxyzABCDEFGHIJKLMNOPQRSTUVWXYZ0123456789 .,:;-/()\n"
/-! ### pieces -/
inductive Pc where
  | say (t : Str)
  | ask (n sg : Str) (lo hi : Int)
inductive Pie where
  | one (p : Pc)
  | rows (n : Str) (inner : List Pc) (gap : Str) (lo hi : Int)
def Pc.tup : Pc → List V
  | .say t => [.str "say", .str t]
  | .ask n sg lo hi => [.str "ask", .str n, .str sg, .int lo, .int hi]
def Pc.At (H : Hp) (p : Pc) (v : V) : Prop := ∃ a, v = .ref a ∧ H a = some (.tup p.tup)
def Pie.At (H : Hp) : Pie → V → Prop
  | .one p, v => p.At H v
  | .rows n inner gap lo hi, v => ∃ a l vs, v = .ref a ∧ H a = some (.tup [.str "rows", .str n, .ref l, .str gap, .int lo, .int hi]) ∧ H l = some (.lst vs) ∧ Paired (Pc.At H) inner vs
theorem Pc.At.mono {H H' : Hp} (e : Same H H') {p : Pc} {v : V} (h : p.At H v) : p.At H' v := by
  obtain ⟨a, rfl, q⟩ := h
  exact ⟨a, rfl, e _ _ q⟩
theorem Pie.At.mono {H H' : Hp} (e : Same H H') : ∀ {p : Pie} {v : V}, p.At H v → p.At H' v
  | .one p, v, h => Pc.At.mono (p := p) e h
  | .rows .., v, ⟨a, l, vs, h1, h2, h3, h4⟩ => ⟨a, l, vs, h1, e _ _ h2, e _ _ h3, Paired.mapP h4 fun _ _ q => q.mono e⟩
/-! ### what is asked of them -/
structure SignsOk (z : Str) (lo hi : Nat) : Prop where
  lo : lo ≤ z.length
  hi : z.length ≤ hi
  all : ∀ c ∈ z.cps.toList, c ∈ SIGNS.cps.toList
def Pc.ok : Pc → Prop
  | .say t => SignsOk t 1 12
  | .ask n sg lo hi => n ≠ "" ∧ SignsOk sg 1 20 ∧ (sgn sg).Nodup ∧ 0 ≤ lo ∧ lo ≤ hi ∧ hi ≤ 4
def Pc.nm : Pc → List Str
  | .say _ => []
  | .ask n .. => [n]
structure PartsOk (ps : List Pc) : Prop where
  lo : 1 ≤ ps.length
  hi : ps.length ≤ 3
  all : ∀ p ∈ ps, p.ok
  nd : (ps.flatMap Pc.nm).Nodup
def Pie.ok : Pie → Prop
  | .one p => p.ok
  | .rows n inner gap lo hi => n ≠ "" ∧ PartsOk inner ∧ SignsOk gap 0 5 ∧ 0 ≤ lo ∧ lo ≤ hi ∧ hi ≤ 3
def Pie.nm : Pie → List Str
  | .one p => p.nm
  | .rows n .. => [n]
structure FormOk (ps : List Pie) : Prop where
  lo : 1 ≤ ps.length
  hi : ps.length ≤ 6
  all : ∀ p ∈ ps, p.ok
  nd : (ps.flatMap Pie.nm).Nodup
/-! ### the program's own objects -/
structure Cl where
  (say ask rows form : Addr)
def Fld (H : Hp) (a C : Addr) (fs : List (Str × V)) : Prop := ∃ dx l, H a = some (.ins C dx l) ∧ ∀ p ∈ fs, l.lookup p.1 = some p.2
def Pc.Obj (c : Cl) (H : Hp) : Pc → V → Prop
  | .say t, v => ∃ a, v = .ref a ∧ Fld H a c.say [("text", .str t)]
  | .ask n sg lo hi, v => ∃ a, v = .ref a ∧ Fld H a c.ask [("name", .str n), ("signs", .str sg), ("least", .int lo), ("most", .int hi)]
/-- lists are younger than H0 -/
def Pie.AtF (H0 H : Hp) : Pie → V → Prop
  | .one p, v => p.At H v
  | .rows n inner gap lo hi, v => ∃ a l vs, v = .ref a ∧ H a = some (.tup [.str "rows", .str n, .ref l, .str gap, .int lo, .int hi]) ∧ H l = some (.lst vs) ∧ H0 l = none ∧ Paired (Pc.At H) inner vs
def Pie.Obj (c : Cl) (H0 H : Hp) : Pie → V → Prop
  | .one p, v => p.Obj c H v
  | .rows n inner gap lo hi, v => ∃ a l vs, v = .ref a ∧ Fld H a c.rows [("name", .str n), ("parts", .ref l), ("gap", .str gap), ("least", .int lo), ("most", .int hi)] ∧ H l = some (.lst vs) ∧ H0 l = none ∧ Paired (Pc.Obj c H) inner vs
def FormAt (c : Cl) (H0 H : Hp) (ps : List Pie) (v : V) : Prop := ∃ a l vs m us, v = .ref a ∧ Fld H a c.form [("plan", .ref l), ("pieces", .ref m)] ∧ H l = some (.lst vs) ∧ H0 l = none ∧ Paired (Pie.Obj c H0 H) ps vs ∧ H m = some (.lst us) ∧ H0 m = none ∧ Paired (Pie.AtF H0 H) ps us
/-- all but lists that H0 knows are as they were -/
def Keep (H0 H H' : Hp) : Prop := ∀ b o, H b = some o → ((∃ xs, o = .lst xs) → H0 b = none) → H' b = some o
theorem keepOf {H0 H H' : Hp} (e : Same H H') : Keep H0 H H' := fun b o h _ => e b o h
theorem Pc.At.keep {H0 H H' : Hp} (e : Keep H0 H H') {p : Pc} {v : V} (h : p.At H v) : p.At H' v := by
  obtain ⟨a, rfl, q⟩ := h
  exact ⟨a, rfl, e _ _ q fun ⟨_, z⟩ => by cases z⟩
theorem Fld.keep {H0 H H' : Hp} (e : Keep H0 H H') {a C : Addr} {fs : List (Str × V)} (h : Fld H a C fs) : Fld H' a C fs := by
  obtain ⟨dx, l, h1, h2⟩ := h
  exact ⟨dx, l, e _ _ h1 (fun ⟨_, z⟩ => by cases z), h2⟩
theorem Fld.mono {H H' : Hp} (e : Same H H') {a C : Addr} {fs : List (Str × V)} (h : Fld H a C fs) : Fld H' a C fs := h.keep (H0 := H) (keepOf e)
theorem Pc.Obj.keep {c : Cl} {H0 H H' : Hp} (e : Keep H0 H H') : ∀ {p : Pc} {v : V}, p.Obj c H v → p.Obj c H' v
  | .say _, _, ⟨a, h1, h2⟩ => ⟨a, h1, h2.keep e⟩
  | .ask .., _, ⟨a, h1, h2⟩ => ⟨a, h1, h2.keep e⟩
theorem Pie.Obj.keep {c : Cl} {H0 H H' : Hp} (e : Keep H0 H H') : ∀ {p : Pie} {v : V}, p.Obj c H0 H v → p.Obj c H0 H' v
  | .one p, _, h => Pc.Obj.keep (p := p) e h
  | .rows .., _, ⟨a, l, vs, h1, h2, h3, h5, h4⟩ => ⟨a, l, vs, h1, h2.keep e, e _ _ h3 (fun _ => h5), h5, Paired.mapP h4 fun _ _ q => q.keep e⟩
theorem Pie.AtF.keep {H0 H H' : Hp} (e : Keep H0 H H') : ∀ {p : Pie} {v : V}, p.AtF H0 H v → p.AtF H0 H' v
  | .one p, _, h => Pc.At.keep (p := p) e h
  | .rows .., _, ⟨a, l, vs, h1, h2, h3, h5, h4⟩ => ⟨a, l, vs, h1, e _ _ h2 (fun ⟨_, z⟩ => by cases z), e _ _ h3 (fun _ => h5), h5, Paired.mapP h4 fun _ _ q => q.keep e⟩
theorem FormAt.keep {c : Cl} {H0 H H' : Hp} (e : Keep H0 H H') {ps : List Pie} {v : V} (h : FormAt c H0 H ps v) : FormAt c H0 H' ps v := by
  obtain ⟨a, l, vs, m, us, h1, h2, h3, hl, h4, h5, hm, h6⟩ := h
  exact ⟨a, l, vs, m, us, h1, h2.keep e, e _ _ h3 (fun _ => hl), hl, Paired.mapP h4 fun _ _ q => q.keep e, e _ _ h5 (fun _ => hm), hm, Paired.mapP h6 fun _ _ q => q.keep e⟩
theorem Pc.Obj.mono {c : Cl} {H H' : Hp} (e : Same H H') {p : Pc} {v : V} (h : p.Obj c H v) : p.Obj c H' v := h.keep (H0 := H) (keepOf e)
theorem Pie.Obj.mono {c : Cl} {H0 H H' : Hp} (e : Same H H') {p : Pie} {v : V} (h : p.Obj c H0 H v) : p.Obj c H0 H' v := h.keep (keepOf e)
theorem Pie.AtF.mono {H0 H H' : Hp} (e : Same H H') {p : Pie} {v : V} (h : p.AtF H0 H v) : p.AtF H0 H' v := h.keep (keepOf e)
theorem FormAt.mono {c : Cl} {H0 H H' : Hp} (e : Same H H') {ps : List Pie} {v : V} (h : FormAt c H0 H ps v) : FormAt c H0 H' ps v := h.keep (keepOf e)
theorem noneOf {H H' : Hp} (e : Same H H') {a : Addr} (h : H' a = none) : H a = none := e.free h
/-- younger than a later heap is younger than an earlier one -/
theorem Pie.Obj.older {c : Cl} {H0 H1 H : Hp} (e : Same H0 H1) : ∀ {p : Pie} {v : V}, p.Obj c H1 H v → p.Obj c H0 H v
  | .one p, _, h => h
  | .rows .., _, ⟨a, l, vs, h1, h2, h3, h5, h4⟩ => ⟨a, l, vs, h1, h2, h3, noneOf e h5, h4⟩
theorem Pie.AtF.older {H0 H1 H : Hp} (e : Same H0 H1) : ∀ {p : Pie} {v : V}, p.AtF H1 H v → p.AtF H0 H v
  | .one p, _, h => h
  | .rows .., _, ⟨a, l, vs, h1, h2, h3, h5, h4⟩ => ⟨a, l, vs, h1, h2, h3, noneOf e h5, h4⟩
/-! ### values and what is written -/
abbrev Row := Str → Option Str
inductive Val where
  | text (t : Str)
  | rows (rs : List Row)
abbrev Vs := Str → Option Val
def RowAt (H : Hp) (f : Row) (v : V) : Prop := ∃ a kvs, v = .ref a ∧ Rd H a (.dK kvs) ∧ ∀ n t, f n = some t → valV kvs (Sum.inr n) = some (.str t)
def ValAt (H : Hp) : Val → V → Prop
  | .text t, v => v = .str t
  | .rows rs, v => ∃ l vs, v = .ref l ∧ H l = some (.lst vs) ∧ Paired (RowAt H) rs vs
theorem Rd.mono {H H' : Hp} (e : Same H H') {a : Addr} {u : HO} (h : Rd H a u) : Rd H' a u := by
  rcases h with h | ⟨o, h⟩
  · exact .inl (e _ _ h)
  · exact .inr ⟨o, e _ _ h⟩
theorem RowAt.mono {H H' : Hp} (e : Same H H') {f : Row} {v : V} (h : RowAt H f v) : RowAt H' f v := by
  obtain ⟨a, kvs, h1, h2, h3⟩ := h
  exact ⟨a, kvs, h1, Rd.mono e h2, h3⟩
theorem ValAt.mono {H H' : Hp} (e : Same H H') : ∀ {x : Val} {v : V}, ValAt H x v → ValAt H' x v
  | .text _, _, h => h
  | .rows _, _, ⟨l, vs, h1, h2, h3⟩ => ⟨l, vs, h1, e _ _ h2, Paired.mapP h3 fun _ _ q => q.mono e⟩
/-- a text fits an ask -/
structure Fits (sg : Str) (lo hi : Int) (t : Str) : Prop where
  lo : lo ≤ t.length
  hi : (t.length : Int) ≤ hi
  all : ∀ c ∈ t.cps.toList, c ∈ sg.cps.toList
def FitPc (f : Row) : Pc → Prop
  | .say _ => True
  | .ask n sg lo hi => ∃ t, f n = some t ∧ Fits sg lo hi t
def FitRow (ps : List Pc) (f : Row) : Prop := ∀ p ∈ ps, FitPc f p
def FitPie (F : Vs) : Pie → Prop
  | .one (.say _) => True
  | .one (.ask n sg lo hi) => ∃ t, F n = some (.text t) ∧ Fits sg lo hi t
  | .rows n inner _ lo hi => ∃ rs, F n = some (.rows rs) ∧ lo ≤ (rs.length : Int) ∧ (rs.length : Int) ≤ hi ∧ ∀ f ∈ rs, FitRow inner f
def cat (l : List Str) : Str := Str.join Str.empty l
def wPc (f : Row) : Pc → Str
  | .say t => t
  | .ask n .. => (f n).getD Str.empty
def wRow (ps : List Pc) (f : Row) : Str := cat (ps.map (wPc f))
def wPie (F : Vs) : Pie → Str
  | .one (.say t) => t
  | .one (.ask n ..) => match F n with | some (.text t) => t | _ => Str.empty
  | .rows n inner gap .. => match F n with | some (.rows rs) => Str.join gap (rs.map (wRow inner)) | _ => Str.empty
def wForm (ps : List Pie) (F : Vs) : Str := cat (ps.map (wPie F))
end Lf

set_option Elab.async false
set_option linter.all false
set_option maxRecDepth 100000
set_option maxHeartbeats 4000000
namespace L2
open PySem PySem.Spec PyProof.Rows

/-! ### an exception on its way: class, own dict, the flight mark of its newest trace -/
def XAt (B : Heap) (a : Addr) (cls : Value) (dx : Option Addr) (fl : Value) (h : Heap) : Prop :=
  ∃ (x : Obj) (xs : Array Value) (T : Addr) (y : Obj) (ys : Array Value), h.get? a = some x ∧ x.cls = cls ∧ x.dict = dx ∧ x.data = .fields xs ∧ xs[1]? = some (.ref T) ∧ B.get? T = none ∧ T ≠ a ∧
    h.get? T = some y ∧ y.data = .fields ys ∧ ys[3]? = some fl
/-- made, and not yet on its way -/
def XNew (a : Addr) (cls : Value) (dx : Option Addr) (h : Heap) : Prop :=
  ∃ (x : Obj) (xs : Array Value), h.get? a = some x ∧ x.cls = cls ∧ x.dict = dx ∧ x.data = .fields xs ∧ xs[1]? = some .none
theorem dict_mapFields (o : Obj) (f : Array Value → Array Value) : (o.mapFields f).dict = o.dict := by
  obtain ⟨c, d, dt, sl⟩ := o
  cases dt <;> rfl

section
variable {M : Model} {A : Around} {E : Value → Shared → Prop} {s : Shared} {B : Heap} {env : Env} {outer : List Env} {L a : Addr}
/-- a trace of this frame is laid, and the exception bears it -/
theorem x_entry {x : Obj} {xs : Array Value} {head : Value} {nx : Bool} {Q : Unit → Shared → Prop} (fr : A.frames = some (env :: outer)) (fl : s.heap.FunFrames B (env :: outer)) (ef : env.frame = some L)
    (ha : s.heap.get? a = some x) (hB : B.StaysIn s.heap) (na : B.get? a = none) (hd : x.data = .fields xs) (hz : 1 < xs.size)
    (q : ∀ h', B.StaysIn h' → h'.FunFrames B (env :: outer) → XAt B a x.cls x.dict (rawInt L) h' → s.heap.UpToSlots h' → Q () { s with heap := h' }) :
    wpAny M A (do let f ← frameOf env; let pl ← entryPlaceOf L nx; let b ← EntryCells.newEntry head f .none (rawInt L) .none pl; setField (.ref a) 1 b) Q E s := by
  have nf : a ∉ (env :: outer).filterMap (·.frame) := fun hm => by
    obtain ⟨_, o, ho, n⟩ := fl.mem hm
    rw [ha] at ho
    cases ho
    exact n xs hd
  refine wpAny_bind (wpAny_frameOf_fun fr fl ef fun h1 so => wpAny_bind (wpAny_entryPlaceOf fun pl ip => ?_))
  obtain ⟨sz, oth, slo⟩ := so
  unfold EntryCells.newEntry newFields
  refine wpAny_bind (wpAny_newObj_type ?_ (ip.sizeOk5 _ _ _ _ _))
  generalize hT : ([head, Value.ref L, Value.none, rawInt L, Value.none] ++ (if pl.isEmpty then List.replicate 6 Value.none else pl)).toArray = tv
  have t3 : tv[3]? = some (rawInt L) := by
    subst hT
    rcases ip with rfl | ⟨_, _, _, _, _, _, _, rfl⟩ <;> simp
  have a1 : h1.get? a = some x := (oth a nf).trans ha
  have B1 : B.StaysIn h1 := fun b o e => (oth b fun hm => by rw [(fl.mem hm).1] at e; cases e).trans (hB b o e)
  generalize hO : ({ cls := .type "traceback", dict := none, data := .fields tv } : Obj) = O
  have a2 : (h1.push O).get? a = some x := Heap.get?_push_of_some O a1
  have nT : h1.objs.size ≠ a := Nat.ne_of_gt (Heap.lt_size a1)
  have d3 := Obj.data_mapFields hd (·.setIfInBounds 1 (Value.ref h1.objs.size))
  have a3 := Heap.get?_update_self (Obj.mapFields (·.setIfInBounds 1 (Value.ref h1.objs.size))) a2 (Obj.isFreed_of_fields d3)
  have T3 : ((h1.push O).update a (Obj.mapFields (·.setIfInBounds 1 (Value.ref h1.objs.size)))).get? h1.objs.size = some O :=
    (Heap.get?_update_other _ _ (Ne.symm nT)).trans (Heap.get?_push_size h1 (by subst hO; rfl))
  have kp : ∀ b o, b ≠ a → h1.get? b = some o → ((h1.push O).update a (Obj.mapFields (·.setIfInBounds 1 (Value.ref h1.objs.size)))).get? b = some o := fun b o n e =>
    (Heap.get?_update_other _ _ (Ne.symm n)).trans (Heap.get?_push_of_some O e)
  have nrec : ∀ b o, s.heap.get? b = some o → (∀ vs, o.data ≠ .fields vs) → b ≠ a := fun b o e n z => by
    rw [z, ha] at e
    cases e
    exact n xs hd
  refine wpAny_setField a2 hd hz (q _ (fun b o e => kp b o (fun z => by rw [z, na] at e; cases e) (B1 b o e)) (fl.of_keeps fun b o e n => ?_) ?_ fun b o e n => ?_)
  · obtain ⟨sl, e1⟩ := slo b o e
    exact ⟨_, kp b _ (nrec b o e n) e1, rfl⟩
  · exact ⟨_, _, h1.objs.size, O, tv, a3, Obj.cls_mapFields _ _, dict_mapFields _ _, d3, by simp [hz], B1.fresh, nT, T3, by subst hO; rfl, t3⟩
  · obtain ⟨sl, e1⟩ := slo b o e
    exact ⟨sl, kp b _ (nrec b o e n) e1⟩
/-- the frame is noted, whatever was noted before -/
theorem x_note {cls : Value} {dx : Option Addr} {Q : Unit → Shared → Prop} (fr : A.frames = some (env :: outer)) (fl : s.heap.FunFrames B (env :: outer)) (ef : env.frame = some L) (hB : B.StaysIn s.heap) (na : B.get? a = none)
    (hx : XNew a cls dx s.heap ∨ ∃ fl, XAt B a cls dx fl s.heap)
    (q : ∀ h', B.StaysIn h' → h'.FunFrames B (env :: outer) → XAt B a cls dx (rawInt L) h' → s.heap.UpToSlots h' → Q () { s with heap := h' }) : wpAny M A (noteFrame (.ref a) env) Q E s := by
  rcases hx with ⟨x, xs, ha, hc, hdx, hd, h1⟩ | ⟨fv, hx⟩
  unfold noteFrame
  simp only [ef]
  · subst hc hdx
    refine wpAny_bind (wpAny_field ha hd h1 ?_)
    rw [if_neg (by decide)]
    exact x_entry fr fl ef ha hB na hd (Array.getElem?_eq_some_iff.mp h1).1 q
  · obtain ⟨x, xs, T, y, ys, ha, hc, hdx, hd, h1, nT, Ta, hT, dT, h3⟩ := id hx
    by_cases ev : (fv == rawInt L) = true
    · have ev' : fv = rawInt L := by simpa using ev
      subst ev'
      exact wpAny_noteFrame_inFlight ef ha hd h1 hT dT h3 (q s.heap hB fl hx (.refl _))
    unfold noteFrame
    simp only [ef]
    subst hc hdx
    refine wpAny_bind (wpAny_field ha hd h1 ?_)
    rw [if_pos (show (Value.ref T != Value.none) = true by simp)]
    refine wpAny_bind (wpAny_field hT dT h3 ?_)
    rw [if_neg ev]
    refine wpAny_bind (wpAny_setField hT dT (Array.getElem?_eq_some_iff.mp h3).1 ?_)
    have oth : ∀ b, b ≠ T → (s.heap.update T (Obj.mapFields (·.setIfInBounds 3 Value.none))).get? b = s.heap.get? b := fun b n => Heap.get?_update_other _ _ (Ne.symm n)
    have nrec : ∀ b o, s.heap.get? b = some o → (∀ vs, o.data ≠ .fields vs) → b ≠ T := fun b o e n z => by
      rw [z, hT] at e
      cases e
      exact n ys dT
    exact x_entry fr (fl.of_keeps fun b o e n => ⟨o, (oth b (nrec b o e n)).trans e, rfl⟩) ef ((oth a (Ne.symm Ta)).trans ha) (fun b o e => (oth b fun z => by rw [z, nT] at e; cases e).trans (hB b o e)) na hd (Array.getElem?_eq_some_iff.mp h1).1
      fun h' k1 k2 k3 k4 => q h' k1 k2 k3 fun b o e n => k4 b o ((oth b (nrec b o e n)).trans e) n
/-- the flight ends here -/
theorem x_land {l : List Env} {cls fl : Value} {dx : Option Addr} {to : Option Addr} {Q : Unit → Shared → Prop} (ff : s.heap.FunFrames B l) (hB : B.StaysIn s.heap) (hx : XAt B a cls dx fl s.heap)
    (q : ∀ h', B.StaysIn h' → h'.FunFrames B l → XAt B a cls dx (to.elim .none fun f => rawInt f) h' → s.heap.UpToSlots h' → Q () { s with heap := h' }) : wpAny M A (setFlight (.ref a) to) Q E s := by
  obtain ⟨x, xs, T, y, ys, ha, hc, hdx, hd, h1, nT, Ta, hT, dT, h3⟩ := hx
  have z3 : 3 < ys.size := (Array.getElem?_eq_some_iff.mp h3).1
  unfold setFlight
  refine wpAny_bind (wpAny_field ha hd h1 ?_)
  rw [if_pos (show (Value.ref T != Value.none) = true by simp)]
  have oth : ∀ b, b ≠ T → (s.heap.update T (Obj.mapFields (·.setIfInBounds 3 (to.elim Value.none fun f => rawInt f)))).get? b = s.heap.get? b := fun b n => Heap.get?_update_other _ _ (Ne.symm n)
  have nrec : ∀ b o, s.heap.get? b = some o → (∀ vs, o.data ≠ .fields vs) → b ≠ T := fun b o e n z => by
    rw [z, hT] at e
    cases e
    exact n ys dT
  refine wpAny_setField hT dT z3 (q _ (fun b o e => (oth b fun z => by rw [z, nT] at e; cases e).trans (hB b o e)) (ff.of_keeps fun b o e n => ⟨o, (oth b (nrec b o e n)).trans e, rfl⟩) ?_ fun b o e n => ⟨o.slots, (oth b (nrec b o e n)).trans e⟩)
  exact ⟨x, xs, T, _, _, (oth a (Ne.symm Ta)).trans ha, hc, hdx, hd, h1, nT, Ta, Heap.get?_update_self _ hT (Obj.isFreed_of_fields (Obj.data_mapFields dT _)), Obj.data_mapFields dT _, by simp [z3]⟩
end

/-! ### how an exception lies behind a call -/
structure Fl (B : Heap) (l : List Env) (a : Addr) (cls : Value) (dx : Option Addr) (h : Heap) : Prop where
  st : B.StaysIn h
  new : B.get? a = none
  fr : h.FunFrames B l
  tr : XAt B a cls dx .none h
/-- B holds all that stood at the call but the frames, and all that is tracked -/
structure Kp (B : Heap) (fs : List Addr) (H' : Hp) (h h' : Heap) : Prop where
  old : ∀ b o, h.get? b = some o → b ∉ fs → ∃ o', h'.get? b = some o' ∧ B.get? b = some o'
  trk : ∀ b u, H' b = some u → ∃ o, h'.get? b = some o ∧ B.get? b = some o
def CXr (P : Program) (w : World) : CXT := fun outer H s E e s' => ∃ (a : Addr) (cls : Value) (dx : Option Addr) (H' : Hp) (B : Heap), e = .ref a ∧ s'.os = s.os ∧ AllBare s'.gens ∧ Un (frs outer) [] H H' s.heap s'.heap ∧ HOk P w H' s'.heap ∧
  Fl B outer a cls dx s'.heap ∧ Kp B (frs outer) H' s.heap s'.heap ∧ E cls dx H'
theorem ObjOk.is {P : Program} {w : World} {H : Hp} {h : Heap} {a : Addr} {o : HO} (x : ObjOk P w H h a o) : ∃ ob, h.get? a = some ob := by
  cases o with
  | lst xs => obtain ⟨_, _, _, _, e⟩ := x; exact ⟨_, e⟩
  | tup xs => obtain ⟨_, _, _, _, e, _⟩ := x; exact ⟨_, e⟩
  | dK kvs => obtain ⟨_, _, _, _, o, _, _, e, _⟩ := x; exact ⟨_, e⟩
  | dT kvs => obtain ⟨_, _, _, _, o, _, _, e, _⟩ := x; exact ⟨_, e⟩
  | set S n => obtain ⟨o, _, _, _, e, _⟩ := x; exact ⟨_, e⟩
  | ins C dx fs => obtain ⟨_, _, _, e, _⟩ := x; exact ⟨_, e⟩
  | own y => exact x
  | xd fs => obtain ⟨_, ⟨_, _, _, e, _⟩, _⟩ := x; exact ⟨_, e⟩
  | rng lo hi => obtain ⟨_, _, _, e⟩ := x; exact ⟨_, e⟩
  | frz ob u => obtain ⟨e, _⟩ := x; exact ⟨_, e⟩
  | tbl ps => exact ⟨_, x⟩
  | met f y => exact ⟨_, x⟩
  | ext φ => obtain ⟨_, e, _⟩ := x; exact e
/-- what is tracked lies in B, so it is held wherever B stays -/
theorem HOk.inB {P : Program} {w : World} {H : Hp} {h h' B : Heap} (x : HOk P w H h) (t : ∀ b u, H b = some u → ∃ o, h.get? b = some o ∧ B.get? b = some o) (st : B.StaysIn h') : HOk P w H h' := fun b u e => by
  have go : ∀ c v, (∃ u', H c = some u') → h.get? c = some v → h'.get? c = some v := fun c v ⟨u', e'⟩ q => by
    obtain ⟨o, e1, e2⟩ := t c u' e'
    rw [q] at e1
    cases e1
    exact st c _ e2
  refine (x b u e).stay (fun c v hc q => ?_) (fun _ q => q) fun _ _ q => q
  rcases hc with z | z
  · exact go c v ⟨u, by rw [z]; exact e⟩ q
  · exact go c v ⟨_, z⟩ q
theorem frs_cons {env : Env} {l : List Env} {L : Addr} (h : env.frame = some L) : frs (env :: l) = L :: frs l := by
  unfold frs
  rw [List.filterMap_cons, h]
/-- from the entry to where the exception has left the frame -/
theorem Un.away {fs : List Addr} {L : Addr} {H H2 : Hp} {h h2 h3 B : Heap} (u : Un fs [] H H2 h h2) (hL : h.objs.size ≤ L)
    (old : ∀ b o, h.get? b = some o → b ∉ L :: fs → ∃ o', h2.get? b = some o' ∧ B.get? b = some o') (st : B.StaysIn h3) (up : h2.UpToSlots h3) (nf : ∀ b ∈ fs, ∀ o, h2.get? b = some o → ∀ vs, o.data ≠ .fields vs) : Un fs [] H H2 h h3 := by
  have no : ∀ b o, h.get? b = some o → b ∉ fs → b ∉ L :: fs := fun b o e hb z => (List.mem_cons.mp z).elim (fun z => absurd (Nat.lt_of_lt_of_le (Heap.lt_size e) (z ▸ hL)) (Nat.lt_irrefl _)) hb
  refine ⟨fun b o e n hb _ => ?_, fun b o e n hb _ => ?_, u.free, fun b o e _ => ?_, u.tups, u.frzs, u.tbls⟩
  · have e2 := u.keep b o e n hb (by simp)
    obtain ⟨o', e3, e4⟩ := old b o e (no b o e hb)
    rw [e2] at e3
    cases e3
    exact st b _ e4
  · obtain ⟨s2, e2⟩ := u.slot b o e n hb (by simp)
    obtain ⟨s3, e3⟩ := up b _ e2 (nf b hb _ e2)
    exact ⟨s3, e3⟩
  · obtain ⟨o2, e2⟩ := u.there b o e (by simp)
    by_cases hb : b ∈ fs
    · obtain ⟨s3, e3⟩ := up b _ e2 (nf b hb _ e2)
      exact ⟨_, e3⟩
    · obtain ⟨o', _, e4⟩ := old b o e (no b o e hb)
      exact ⟨o', st b _ e4⟩

/-! ### an exception within a body -/
/-- as it may stand: new, come from a callee, or noted here already -/
def XHere (B : Heap) (a : Addr) (cls : Value) (dx : Option Addr) (h : Heap) : Prop := XNew a cls dx h ∨ ∃ fl, XAt B a cls dx fl h
structure Raw (X : Cx) (E : XK) (a : Addr) (cls : Value) (dx : Option Addr) (H : Hp) (B : Heap) (s : Shared) : Prop where
  ok : X.Ok
  os : s.os = X.s₀.os
  bare : AllBare s.gens
  base : Un X.fs X.ex X.H₀ H X.s₀.heap s.heap
  hok : HOk X.prog X.w H s.heap
  st : B.StaysIn s.heap
  new : B.get? a = none
  fr : s.heap.FunFrames B X.stack
  at_ : XHere B a cls dx s.heap
  kp : Kp B (frs X.stack) H X.s₀.heap s.heap
  q : E cls dx H
def RawX (X : Cx) (E : XK) (e : Value) (s : Shared) : Prop := ∃ a cls dx H B, e = .ref a ∧ Raw X E a cls dx H B s
/-- what the body wants of an exception follows from the wish E -/
def XOk (X : Cx) (E : XK) : Prop := ∀ e s, RawX X E e s → X.xe e s
section
variable {P : Program} {w : World} {K : PySem.W.Frag} {mg : Str → Option Value} {base : Heap} {N : List Str} {qual : Str} {scope : Scope} {f : Addr} {cd : Value} {A : Around} {outer : List Env} {s : Shared} {H : Hp} {E : XK}
/-- an exception leaves the def's frame -/
theorem leaves {H2 : Hp} {s2 : Shared} {a : Addr} {cls : Value} {dx : Option Addr} {B : Heap} (R : Raw (cxOf (CXr P w) P w K mg base N qual scope f cd A outer s H E) E a cls dx H2 B s2) :
    (cxOf (CXr P w) P w K mg base N qual scope f cd A outer s H E).xe (.ref a) s2 := by
  obtain ⟨ok, ros, bare, rbase, rhok, st, na, fr, hx, kp, q⟩ := R
  have fr : s2.heap.FunFrames B (envOfC qual scope s.heap.objs.size f cd :: outer) := fr
  have kp : Kp B (frs (envOfC qual scope s.heap.objs.size f cd :: outer)) H2 s.heap s2.heap := kp
  have ef : (envOfC qual scope s.heap.objs.size f cd).frame = some s.heap.objs.size := rfl
  have eF := frs_cons (l := outer) ef
  rw [eF] at kp
  show wpAny (model P w) (A.deeper (envOfC qual scope s.heap.objs.size f cd)) (leaving (envOfC qual scope s.heap.objs.size f cd) (.ref a)) (fun _ s'' => CXr P w outer H s E (.ref a) s'') (fun e' s'' => CXr P w outer H s E e' s'') s2
  unfold leaving
  have hfr : (A.deeper (envOfC qual scope s.heap.objs.size f cd)).frames = some (envOfC qual scope s.heap.objs.size f cd :: outer) := ok.frames
  refine wpAny_bind (x_note hfr fr ef st na hx fun h3 st3 fr3 x3 up3 => ?_)
  refine x_land fr3 st3 x3 fun h4 st4 fr4 x4 up4 => ?_
  have up : s2.heap.UpToSlots h4 := up3.trans up4
  have base0 : Un (frs outer) [] H H2 s.heap s2.heap := rbase
  have u := Un.away (L := s.heap.objs.size) base0 (Nat.le_refl _) kp.old st4 up fun b hb o e => by
    obtain ⟨_, o', e', n⟩ := fr.mem (show b ∈ (envOfC qual scope s.heap.objs.size f cd :: outer).filterMap (·.frame) by
      have : b ∈ frs (envOfC qual scope s.heap.objs.size f cd :: outer) := by rw [eF]; exact List.mem_cons_of_mem _ hb
      exact this)
    rw [e] at e'
    cases e'
    exact n
  refine ⟨a, cls, dx, H2, B, rfl, ros, bare, u, HOk.inB (P := P) (w := w) rhok kp.trk st4, ⟨st4, na, fr4.2.2, x4⟩, ⟨fun b o e hb => ?_, fun b v e => ?_⟩, q⟩
  · obtain ⟨o2, _, e3⟩ := kp.old b o e fun z => (List.mem_cons.mp z).elim (fun z => absurd (Nat.lt_of_lt_of_le (Heap.lt_size e) (Nat.le_of_eq z.symm)) (Nat.lt_irrefl _)) hb
    exact ⟨o2, st4 b _ e3, e3⟩
  · obtain ⟨o, _, e2⟩ := kp.trk b v e
    exact ⟨o, st4 b _ e2, e2⟩
theorem xok_cx : XOk (cxOf (CXr P w) P w K mg base N qual scope f cd A outer s H E) E := by
  rintro e s2 ⟨a, cls, dx, H2, B, rfl, R⟩
  exact leaves R
/-- loops of the body pass it on -/
theorem own_cx : PassesOwn (model P w) (cxOf (CXr P w) P w K mg base N qual scope f cd A outer s H E).A (cxOf (CXr P w) P w K mg base N qual scope f cd A outer s H E).env (cxOf (CXr P w) P w K mg base N qual scope f cd A outer s H E).xe := PassesOwn.leaving
end
section
variable {X : Cx} {E E' : XK}
/-- a callee's exception, as it stands here -/
theorem raw_of {pins : List (Addr × Obj)} {σ : St} {H1 : Hp} {s1 s2 : Shared} {e : Value} (I : Inv X pins σ H1 s1) (hex : X.ex = []) (h : CXr X.prog X.w X.stack H1 s1 E e s2) : RawX X E e s2 := by
  obtain ⟨a, cls, dx, H2, B, rfl, os, bare, un, hok, ⟨st, na, fr, tr⟩, kp, q⟩ := h
  have J := I.call' (ch := []) os un hok bare fun b z => absurd z (by simp)
  refine ⟨a, cls, dx, H2, B, rfl, J.ok, J.os, J.bare, J.base, J.hok, st, na, fr, .inr ⟨_, tr⟩, ⟨fun b o e hb => ?_, kp.trk⟩, q⟩
  obtain ⟨o1, e1⟩ := I.base.there b o e (by rw [hex]; simp)
  exact kp.old b o1 e1 hb
/-- an exception of a callee goes on -/
theorem passR (x : XOk X E) (hex : X.ex = [] := by rfl) : Passes (CXr X.prog X.w) X E := fun _ _ _ _ e s2 I h => x e s2 (raw_of I hex h)
/-- a new exception is raised here -/
theorem raw_new {pins : List (Addr × Obj)} {σ : St} {H1 : Hp} {s1 : Shared} {a : Addr} {cls : Value} {dx : Option Addr} (I : Inv X pins σ H1 s1) (hex : X.ex = [])
    (n1 : H1 a = none) (n2 : X.s₀.heap.get? a = none) (hx : XNew a cls dx s1.heap) (q : E cls dx H1) : RawX X E (.ref a) s1 := by
  have hin : ∀ env ∈ X.stack, ∀ b, env.frame = some b → b ∈ a :: frs X.stack := fun env he b hb => List.mem_cons_of_mem _ (List.mem_filterMap.mpr ⟨env, he, hb⟩)
  refine ⟨a, cls, dx, H1, PySem.W.hideAll s1.heap (a :: frs X.stack), rfl, I.ok, I.os, I.bare, I.base, I.hok, fun b o e => PySem.W.of_hideAll _ e, PySem.W.hideAll_none _ List.mem_cons_self, PySem.W.funFrames_hide I.stack hin, .inl hx, ⟨fun b o e hb => ?_, fun b u e => ?_⟩, q⟩
  · obtain ⟨o1, e1⟩ := I.base.there b o e (by rw [hex]; simp)
    refine ⟨o1, e1, PySem.W.hideAll_get _ e1 fun z => ?_⟩
    rcases List.mem_cons.mp z with z | z
    · rw [z, n2] at e; cases e
    · exact hb z
  · obtain ⟨o, e1⟩ := (I.hok b u e).is
    refine ⟨o, e1, PySem.W.hideAll_get _ e1 fun z => ?_⟩
    rcases List.mem_cons.mp z with z | z
    · rw [z, n1] at e; cases e
    · have := I.stkFree b z
      rw [this] at e; cases e
end

/-! ### a def of the text that may raise -/
theorem Fun.okR {P : Program} {w : World} {K : PySem.W.Frag} {mg : Str → Option Value} {base : Heap} {x qual : Str} {st : Stmt} {f : Addr} {fd : FuncData} {N ps : List Str} {k : Nat} {sp : Sp} (F : Fun K x qual st f fd) (S : FnScope N ps (defScope st)) (len : ∀ vs H Q E, sp vs H Q E → vs.length = ps.length)
    (hbody : ∀ (cdv : Value) (A : Around) (outer : List Env) (s : Shared) (H : Hp) (vs : List V) (Q : VK) (E : XK), Room k (A.deeper (envOfC qual (defScope st) s.heap.objs.size f cdv)) → sp vs H Q E →
      XOk (cxOf (CXr P w) P w K mg base N qual (defScope st) f cdv A outer s H E) E →
      ∃ t, PSs (cxOf (CXr P w) P w K mg base N qual (defScope st) f cdv A outer s H E) (defBody st) t ∧ t { nx := fun _ H' => Q .non H', rt := Q } (start N vs) H) : FnOk P w K mg base (CXr P w) (k + 1) f fd ps sp := by
  obtain ⟨oc, od, kV, doc, pm, an, cdv, ct, osl, rfl, lk, hcd⟩ := F.ex
  exact fn_of lk hcd S len fun A outer s H vs Q E hr hsp => hbody cdv A outer s H vs Q E hr hsp xok_cx
end L2

set_option Elab.async false
set_option linter.all false
set_option maxRecDepth 100000
set_option maxHeartbeats 4000000
namespace L2
open PySem PySem.Spec PyProof.Rows
/-! ### raise C(..), C an own class without an __init__ -/
abbrev veChain : List Value := [.type "ValueError", .type "Exception", .type "BaseException", .type "object"]
section
variable {X : Cx} {C : Addr} {x : Str} {np cpos pos : Pos} {e : Expr} {es : List Expr} {t : TA} {E : XK}
end
end L2

set_option Elab.async false
set_option linter.all false
set_option maxRecDepth 100000
set_option maxHeartbeats 4000000
namespace L2
open PySem PySem.Spec PyProof.Rows

/-! ### a comprehension whose item may raise -/
section
variable {prog : Program} {w : World} {A : Around} {R : Result → Shared → Prop} {s : Shared}
theorem toX {α : Type} {M : Model} {A : Around} {t : Sem α} {Q Q' : α → Shared → Prop} {XE E : Value → Shared → Prop} {s : Shared} (hE : ∀ e s, XE e s → E e s) (h : wpAny M A t Q XE s) (hQ : ∀ a s, Q a s → Q' a s) : wpAny M A t Q' E s := wpAny_mono h hQ hE
theorem comp_loopX {elt target iter : Expr} {ifs : List Expr} {scope : Scope} {pos : Pos} {it acc : Value} {env : Env} {XE : Value → Shared → Prop} (I : Nat → Shared → Prop)
    (turn : ∀ n s, I n s → wpAny (model prog w) A (pyNext it) (fun r s₁ => match r with
      | none => R (.ok .next) s₁
      | some v => wpAny (model prog w) A (letOwnedTupleGo target it v) (fun _ s₁' => wpAny (model prog w) A (assign target env v) (fun _ s₂ =>
          wpAny (model prog w) A (forIn ifs true fun c r => if r = true then do let ok ← isTrue c env (eval c env); pure (ForInStep.yield ok) else pure (ForInStep.yield r)) (fun ok s₃ =>
            if ok = true then wpAny (model prog w) A (eval elt env) (fun x s₄ =>
              wpAny (model prog w) A (call (.builtin "list.append") [acc, x]) (fun _ s₅ => ∃ m, m < n ∧ I m s₅) XE s₄) XE s₃
            else ∃ m, m < n ∧ I m s₃) XE s₂) XE s₁') XE s₁) XE s)
    (hE : ∀ e s, XE e s → notedBy (model prog w) A env (fun x s' => R (.error x) s') e s) (n : Nat) (h : I n s) : codeAny (model prog w) A (.compLoop (.ListComp elt [⟨target, iter, ifs, 0⟩] scope pos) 0 it acc env) R s := by
  refine codeAny_loop rfl I (fun n s hI => ?_) n h
  show wpAny _ A ((compTurn (.ListComp elt [⟨target, iter, ifs, 0⟩] scope pos) 0 it acc env).onRaise (fun x => do noteFrame x env; theTreesLotGoes x)) _ _ s
  refine wpAny_noted ?_
  rw [compTurn_list]
  refine wpAny_bind (wpAny_standAt (wpAny_bind (toX hE (turn n s hI) fun r s₁ h₁ => ?_)))
  cases r with
  | none => exact wpAny_pure h₁
  | some v =>
    refine wpAny_bind (toX hE h₁ fun _ s₁' h₁' => ?_)
    refine wpAny_bind (toX hE h₁' fun _ s₂ h₂ => wpAny_bind (toX hE h₂ fun ok s₃ h₃ => ?_))
    cases ok with
    | false => exact wpAny_pure ⟨rfl, h₃⟩
    | true =>
      exact wpAny_bind (wpAny_bind (toX hE h₃ fun x s₄ h₄ => wpAny_bind (toX hE h₄ fun _ s₅ h₅ => wpAny_pure (wpAny_pure ⟨rfl, h₅⟩))))
end
theorem ff_re {h h' B B' : Heap} : ∀ {l : List Env}, h.FunFrames B l → (∀ b ∈ frs l, ∀ o, h.get? b = some o → ∃ o', h'.get? b = some o' ∧ o'.data = o.data) → (∀ b, B.get? b = none → B'.get? b = none) → h'.FunFrames B' l
  | [], _, _, _ => trivial
  | env :: l, ⟨k, ⟨L, o, ef, nL, ho, hd⟩, r⟩, f, n => by
    obtain ⟨o', e1, e2⟩ := f L (by rw [frs_cons ef]; exact List.mem_cons_self) o ho
    exact ⟨k, ⟨L, o', ef, n L nL, e1, fun vs => e2 ▸ hd vs⟩, ff_re r (fun b hb => f b (by rw [frs_cons ef]; exact List.mem_cons_of_mem _ hb)) n⟩
/-- an exception that a comprehension's item raised: I0 is the state ahead of the comprehension (heap h0, abstract heap H0), C its frame of names -/
structure CRaw (X : Cx) (E : XK) (fp : List Addr) (C : Addr) (H0 : Hp) (s0 : Shared) (a : Addr) (cls : Value) (dx : Option Addr) (H : Hp) (B : Heap) (s : Shared) : Prop where
  os : s.os = s0.os
  bare : AllBare s.gens
  un : Un (frs X.stack) fp H0 H s0.heap s.heap
  hok : HOk X.prog X.w H s.heap
  st : B.StaysIn s.heap
  new : B.get? a = none
  fr : s.heap.FunFrames B X.stack
  at_ : XHere B a cls dx s.heap
  old : ∀ b o, s0.heap.get? b = some o → b ∉ frs X.stack → b ∉ fp → ∃ o', s.heap.get? b = some o' ∧ B.get? b = some o'
  trk : ∀ b u, H b = some u → ∃ o, s.heap.get? b = some o ∧ B.get? b = some o
  ns : ∃ m, s.heap.Ns C m
  nC : H C = none
  q : E cls dx H
def CRawX (X : Cx) (E : XK) (fp : List Addr) (C : Addr) (H0 : Hp) (s0 : Shared) (e : Value) (s : Shared) : Prop := ∃ a cls dx H B, e = .ref a ∧ CRaw X E fp C H0 s0 a cls dx H B s
/-- what is wanted of an exception that leaves a comprehension -/
def PostErr (X : Cx) (C : Addr) (e : Value) (s : Shared) : Prop := ∃ m, s.heap.Ns C m ∧ ∀ h', Heap.SameBut C s.heap h' → ∀ cenv : Env, cenv.locals = C →
  wpAny (model X.prog X.w) X.A (PySem.passOn "comprehension.variables-let-go" e cenv : Sem Value) (fun _ _ => False) X.xe { s with heap := h' }
section
variable {X : Cx} {E : XK} {pins : List (Addr × Obj)} {σ : St} {H0 : Hp} {s0 : Shared} {fp : List Addr} {C : Addr}
theorem craw_note {e : Value} {s : Shared} {cenv : Env} {E' : Value → Shared → Prop} (I : Inv X pins σ H0 s0) (hX : XOk X E) (hst : X.stack = X.env :: X.outer) (hfm : X.env.frame = some X.env.locals) (hex : X.ex = [])
    (hf : ∀ b ∈ fp, FpOk X pins H0 b) (hC : s0.heap.objs.size ≤ C) (hce : cenv.frame = X.env.frame) (R : CRawX X E fp C H0 s0 e s) : wpAny (model X.prog X.w) X.A (noteFrame e cenv) (fun _ s' => PostErr X C e s') E' s := by
  obtain ⟨a, cls, dx, H, B, rfl, R⟩ := R
  have en : noteFrame (.ref a) cenv = noteFrame (.ref a) X.env := by unfold noteFrame PySem.frameOf; rw [hce]
  rw [en]
  have fr := R.fr
  rw [hst] at fr
  refine x_note (by rw [I.ok.frames, hst]) fr hfm R.st R.new R.at_ fun h3 st3 fr3 x3 up3 => ?_
  obtain ⟨m, hm⟩ := R.ns
  have hns3 := up3.ns hm
  refine ⟨m, hns3, fun h4 sb cenv' _ => ?_⟩
  obtain ⟨x, xs, T, y, ys, ha, hc, hdx, hd, h1, nT, Ta, hT, dT, h5⟩ := x3
  obtain ⟨oC, esC, epC, hoC, hdC, _⟩ := hns3
  have aC : a ≠ C := fun z => by rw [z, hoC] at ha; cases ha; rw [hdC] at hd; cases hd
  have TC : T ≠ C := fun z => by rw [z, hoC] at hT; cases hT; rw [hdC] at dT; cases dT
  have ha4 : h4.get? a = some x := (sb.2 a aC).trans ha
  have hT4 : h4.get? T = some y := (sb.2 T TC).trans hT
  have frC : C ∉ frs X.stack := fun z => by
    obtain ⟨_, o, ho, _⟩ := I.stack.mem z
    exact absurd (Nat.lt_of_lt_of_le (Heap.lt_size ho) hC) (Nat.lt_irrefl _)
  have st4 : (PySem.W.hideAll B [C]).StaysIn h4 := fun b o e => by
    have nb : b ≠ C := fun z => by
      have := PySem.W.hideAll_none (h := B) [C] (b := C) List.mem_cons_self
      rw [z, this] at e; cases e
    exact (sb.2 b nb).trans (st3 b o (PySem.W.of_hideAll _ e))
  have noneB : ∀ b, B.get? b = none → (PySem.W.hideAll B [C]).get? b = none := fun b e => by
    cases z : (PySem.W.hideAll B [C]).get? b with
    | none => rfl
    | some o => have := PySem.W.of_hideAll _ z; rw [e] at this; cases this
  rw [← hst] at fr3
  have fr4 : h4.FunFrames (PySem.W.hideAll B [C]) X.stack := ff_re fr3 (fun b hb o e => ⟨o, (sb.2 b fun z => frC (z ▸ hb)).trans e, rfl⟩) noneB
  have x4 : XAt (PySem.W.hideAll B [C]) a cls dx (rawInt X.env.locals) h4 := ⟨x, xs, T, y, ys, ha4, hc, hdx, hd, h1, noneB _ nT, Ta, hT4, dT, h5⟩
  have inB : ∀ b o, B.get? b = some o → b ≠ C → (PySem.W.hideAll B [C]).get? b = some o := fun b o e n => PySem.W.hideAll_get _ e fun z => n (by simpa using z)
  have step : wpAny (model X.prog X.w) X.A (setFlight (.ref a) cenv'.frame) (fun _ s' => X.xe (.ref a) s') X.xe { s with heap := h4 } := by
    refine x_land (s := { s with heap := h4 }) fr4 st4 x4 fun h6 st6 fr6 x6 up6 => ?_
    have sl : ∀ b o, b ∈ frs X.stack → s.heap.get? b = some o → ∃ s', h6.get? b = some { o with slots := s' } := fun b o hb e => by
      obtain ⟨_, o', e', n⟩ := R.fr.mem hb
      rw [e] at e'
      cases e'
      obtain ⟨s3, e3⟩ := up3 b o e n
      obtain ⟨s6, e6⟩ := up6 b _ ((sb.2 b fun z => frC (z ▸ hb)).trans e3) n
      exact ⟨s6, e6⟩
    have ltC : ∀ b o, s0.heap.get? b = some o → b ≠ C := fun b o e z => absurd (Nat.lt_of_lt_of_le (Heap.lt_size e) (z ▸ hC)) (Nat.lt_irrefl _)
    have u : Un (frs X.stack) fp H0 H s0.heap h6 := by
      refine ⟨fun b o e n hb hx => ?_, fun b o e n hb hx => ?_, R.un.free, fun b o e hx => ?_, R.un.tups, R.un.frzs, R.un.tbls⟩
      · have e2 := R.un.keep b o e n hb hx
        obtain ⟨o', e3, e4⟩ := R.old b o e hb hx
        rw [e2] at e3
        cases e3
        exact st6 b _ (inB b _ e4 (ltC b o e))
      · obtain ⟨s2, e2⟩ := R.un.slot b o e n hb hx
        obtain ⟨s6, e6⟩ := sl b _ hb e2
        exact ⟨s6, e6⟩
      · by_cases hb : b ∈ frs X.stack
        · obtain ⟨o2, e2⟩ := R.un.there b o e hx
          obtain ⟨s6, e6⟩ := sl b _ hb e2
          exact ⟨_, e6⟩
        · obtain ⟨o', _, e4⟩ := R.old b o e hb hx
          exact ⟨o', st6 b _ (inB b _ e4 (ltC b o e))⟩
    have trk6 : ∀ b v, H b = some v → ∃ o, s.heap.get? b = some o ∧ (PySem.W.hideAll B [C]).get? b = some o := fun b v e => by
      obtain ⟨o, e1, e2⟩ := R.trk b v e
      exact ⟨o, e1, inB b o e2 fun z => by rw [z, R.nC] at e; cases e⟩
    have J : Inv X pins σ H { s with heap := h6 } := I.call' (s' := { s with heap := h6 }) (ch := fp) R.os u (HOk.inB R.hok trk6 st6) R.bare fun b hb => by
      obtain ⟨_, f1, f2, f3, f4, f5⟩ := hf b hb
      exact ⟨f3, f1, f4, f5⟩
    refine hX _ _ ⟨a, cls, dx, H, PySem.W.hideAll B [C], rfl, J.ok, J.os, J.bare, J.base, J.hok, st6, noneB _ R.new, fr6, .inr ⟨_, x6⟩, ⟨fun b o e hb => ?_, fun b v e => ?_⟩, R.q⟩
    · obtain ⟨o1, e1⟩ := I.base.there b o e (by rw [hex]; simp)
      have nfp : b ∉ fp := fun z => by
        obtain ⟨_, _, _, f3, _⟩ := hf b z
        rcases f3 with f3 | f3
        · rw [hex] at f3; cases f3
        · exact absurd (Nat.lt_of_lt_of_le (Heap.lt_size e) f3) (Nat.lt_irrefl _)
      obtain ⟨o', _, e4⟩ := R.old b o1 e1 hb nfp
      have e5 := inB b _ e4 (ltC b o1 e1)
      exact ⟨o', st6 b _ e5, e5⟩
    · obtain ⟨o, _, e2⟩ := trk6 b v e
      exact ⟨o, st6 b _ e2, e2⟩
  unfold PySem.passOn
  refine wpAny_bind (wpAny_field ha4 hd h1 ?_)
  rw [if_neg (show ¬ ((Value.ref T == Value.none) = true) by simp)]
  first
    | exact wpAny_bind (wpAny_mono step (fun _ s' h' => wpAny_throw h') fun _ _ z => z)
    | exact wpAny_bind (wpAny_pure (wpAny_bind (wpAny_mono step (fun _ s' h' => wpAny_throw h') fun _ _ z => z)))
end
section
variable {X : Cx} {pins : List (Addr × Obj)} {σ : St} {H : Hp} {s : Shared} {scope : Scope} {x : Str} {cp : List (Nat × Str)} {px pos : Pos} {elt iter : Expr} {ifs : List Expr} {tt : TT} {te : TE}
theorem comp_blockX {cl : List (Str × Addr)} {it : Addr} {fp : List Addr} {tn : Nat → Heap → Prop} {J : It} {END : List V → Hp → Prop} {E : Value → Shared → Prop} {RR : Value → Addr → Result → Shared → Prop} {EX : XK} (hX : XOk X EX) (hst : X.stack = X.env :: X.outer) (hfm : X.env.frame = some X.env.locals) (hex : X.ex = [])
    (S : CompScope X scope x cp) (hc : X.calm = true) (I : Inv X pins σ H s) (hcl : ∀ n c, cl.lookup n = some c → X.env.cells.lookup n = some c) (hfr : ∀ y ∈ scope.names, y.2 = .free → ∃ c, cl.lookup y.1 = some c)
    (T : Turn X.prog X.w X.K (.Name x px) J fp it tn) (st : tn 0 s.heap) (hf : ∀ b ∈ fp, FpOk X pins H b)
    (ht : ∀ cl C s H fp xe, PTs ((compCx X scope cl C (x :: cp.map (·.2)) s H fp).wish xe) ifs tt) (he : ∀ cl C s H fp xe, Passes (CXr X.prog X.w) ((compCx X scope cl C (x :: cp.map (·.2)) s H fp).wish xe) EX → PE ((compCx X scope cl C (x :: cp.map (·.2)) s H fp).wish xe) elt te)
    (hw : compW J (capV σ cp) tt te END H)
    (hRR : ∀ D C s' ys H2 o, Inv X (pins ++ [(C, o)]) σ (upd H2 D (.lst ys)) s' → (∃ m, ∀ h : Heap, h.get? C = some o → h.Ns C m) → H2 D = none → END ys H2 → (∀ H', H' C = none → FpOk X pins H' C) → RR (.ref D) C (.ok .next) s') (hRE : ∀ D C e s', PostErr X C e s' → RR (.ref D) C (.error e) s') :
    wpAny (model X.prog X.w) X.A (newList []) (fun acc s₃ => wpAny (model X.prog X.w) X.A (newFunctionEnv scope X.env.globals cl [] X.env.qual none .none (some X.env)) (fun cenv s₄ =>
      codeAny (model X.prog X.w) X.A (.compStart (.ListComp elt [⟨.Name x px, iter, ifs, 0⟩] scope pos) 0 (.ref it) acc { cenv with scope := relabel scope X.env }) (RR acc cenv.locals) s₄) E s₃) E s := by
  refine wpAny_newObj_type (wpAny_newFunctionEnv S.nocell (by intro y hy; simp at hy) (fun h₁ hns₁ hsb₁ => ?_) S.kind)
  dsimp only at hns₁ hsb₁ ⊢
  generalize hH2 : s.heap.push { cls := .type "list", dict := none, data := .seq ([] : List Value).toArray } = G at hns₁ hsb₁ ⊢
  have hC : G.objs.size = s.heap.objs.size + 1 := by rw [← hH2, Heap.size_push]
  have hDC : s.heap.objs.size ≠ G.objs.size := by rw [hC]; exact Nat.ne_of_lt (Nat.lt_succ_self _)
  have hCle : s.heap.objs.size ≤ G.objs.size := by rw [hC]; exact Nat.le_succ _
  have below : ∀ b, b < s.heap.objs.size → b ≠ G.objs.size := fun b hb => by rw [hC]; exact Nat.ne_of_lt (Nat.lt_succ_of_lt hb)
  have old : ∀ b o, s.heap.get? b = some o → h₁.get? b = some o := fun b o e => hsb₁.extBut b o (below b (Heap.lt_size e)) (Heap.get?_push_of_some _ (hH2 ▸ Heap.get?_push_of_some _ e))
  have hacc : h₁.PlainList s.heap.objs.size #[] := ⟨_, hsb₁.extBut _ _ hDC (Heap.get?_push_of_some _ (hH2 ▸ Heap.get?_push_size _ rfl))⟩
  have hfp : ∀ b ∈ fp, b < s.heap.objs.size := fun b hb => by
    obtain ⟨o, e, _⟩ := T.obj 0 s.heap st b hb
    exact Heap.lt_size e
  have st₁ : tn 0 h₁ := T.keep _ _ _ st fun b _ o e => old b o e
  generalize hDe : s.heap.objs.size = D at *
  generalize hCe : G.objs.size = C at *
  have I₁ := comp_enter (tk := s.toks + ([] : List (Str × Value)).length) (C := C) S I hcl hfr hf (by rw [hDe]; exact hCle) (by rw [hDe]; exact hfp) hns₁ old
  have I₁ := I₁.wish (CRawX X EX fp C H s)
  have hpass : Passes (CXr X.prog X.w) ((compCx X scope cl C (x :: cp.map (·.2)) s H fp).wish (CRawX X EX fp C H s)) EX := by
    intro pins1 σ1 H1 s1 e1 s2 J1 hcx
    obtain ⟨a, cls, dx, H2, B, rfl, os, bare, un, hok, ⟨stB, na, fr, tr⟩, kp, q⟩ := hcx
    have un : Un (frs X.stack) [] H1 H2 s1.heap s2.heap := un
    have kp : Kp B (frs X.stack) H2 s1.heap s2.heap := kp
    have ub : Un (frs X.stack) fp H H1 s.heap s1.heap := J1.base
    have jos : s1.os = s.os := J1.os
    obtain ⟨mC, hnsC, _⟩ := J1.loc
    have hnsC : s1.heap.Ns C mC := hnsC
    have nC : H1 C = none := J1.free
    have frC : C ∉ frs X.stack := fun z => by
      obtain ⟨_, o, ho, _⟩ := I.stack.mem z
      exact absurd (Nat.lt_of_lt_of_le (Heap.lt_size ho) (by rw [hDe]; exact hCle)) (Nat.lt_irrefl _)
    obtain ⟨oC, esC, epC, hoC, rC⟩ := hnsC
    refine ⟨a, cls, dx, H2, B, rfl, os.trans jos, bare, ub.trans (un.mono (fun _ z => z) fun _ z => absurd z (by simp)), hok, stB, na, fr, .inr ⟨_, tr⟩, fun b o e hb hbf => ?_, kp.trk, ⟨mC, oC, esC, epC, un.keep C oC hoC nC frC (by simp), rC⟩, un.free C oC hoC nC (by simp), q⟩
    obtain ⟨o1, e1⟩ := ub.there b o e hbf
    exact kp.old b o1 e1 hb
  generalize hX' : (compCx X scope cl C (x :: cp.map (·.2)) s H fp).wish (CRawX X EX fp C H s) = X' at I₁ hpass
  have eP : X'.prog = X.prog := by rw [← hX']; rfl
  have eW : X'.w = X.w := by rw [← hX']; rfl
  have eK : X'.K = X.K := by rw [← hX']; rfl
  have eA : X'.A = X.A := by rw [← hX']; rfl
  have eV : X'.env = compEnvC scope cl C X.env := by rw [← hX']; rfl
  have eX : X'.xe = CRawX X EX fp C H s := by rw [← hX']
  have eC : X'.calm = true := by rw [← hX']; exact hc
  have ht' := ht cl C s H fp (CRawX X EX fp C H s)
  have he' := he cl C s H fp (CRawX X EX fp C H s)
  rw [hX'] at ht' he'
  have he' := he' hpass
  have hN : X'.N.Nodup := by rw [← hX']; exact S.nd
  have hg : PG X' (.Name x px) (gName 0) := pg_name hN (by rw [← hX']; rfl) (by rw [← hX']; exact .inl (lookup_relabel_local S.hx)) (.inr (by rw [← hX']; exact lookup_relabel_local S.hx))
  have fL : X'.env.locals = C := by rw [eV]; rfl
  have fpD : ∀ H' : Hp, H' D = none → FpOk X' pins H' D := fun H' hn => by
    refine ⟨hn, by rw [fL]; exact hDC, fun z => ?_, .inr (by rw [← hX', ← hDe]; exact Nat.le_refl _), fun y c e z => ?_, fun p hp z => ?_⟩
    · rw [← hX'] at z
      obtain ⟨_, o, ho, _⟩ := I.stack.mem z
      exact absurd (Heap.lt_size ho) (by rw [hDe]; exact Nat.lt_irrefl _)
    · rw [eV] at e
      obtain ⟨v, q⟩ := I.cell y c (hcl y c e)
      exact absurd q.lt (by rw [z, hDe]; exact Nat.lt_irrefl _)
    · have hp' : p ∈ pins := by rw [← hX'] at hp; exact hp
      exact absurd (Heap.lt_size (I.pin p (List.mem_append_right _ hp')).1) (by rw [z, hDe]; exact Nat.lt_irrefl _)
  have fpF : ∀ (pl : List (Addr × Obj)) (H' : Hp), (∀ b ∈ fp, H' b = none) → (∀ p ∈ pl, p ∈ pins ∨ p.1 = D) → ∀ b ∈ fp, FpOk X' pl H' b := fun pl H' hn hpl b hb => by
    obtain ⟨_, f1, f2, f3, f4, f5⟩ := hf b hb
    refine ⟨hn b hb, by rw [fL]; exact below b (hfp b hb), fun z => ?_, .inl (by rw [← hX']; exact hb), fun y c e => f4 y c (hcl y c (by rw [eV] at e; exact e)), fun p hp z => ?_⟩
    · rw [← hX'] at z
      rcases List.mem_cons.mp (I.stkSub b z) with q | q
      · exact f1 q
      · exact f2 q
    · have hp' : p ∈ pl := by rw [← hX'] at hp; exact hp
      rcases hpl p hp' with q | q
      · exact f5 p (List.mem_append_right _ q) z
      · have := hfp b hb
        rw [← z, q] at this
        exact absurd this (Nat.lt_irrefl _)
  obtain ⟨W, ⟨m0, w0⟩, turn⟩ := hw
  have loop : ∀ s₃ : Shared, s₃ = { s with heap := h₁, toks := s.toks + ([] : List (Str × Value)).length } →
      codeAny (model X.prog X.w) X.A (.compLoop (.ListComp elt [⟨.Name x px, iter, ifs, 0⟩] scope pos) 0 (.ref it) (.ref D) (compEnvC scope cl C X.env)) (RR (.ref D) C) s₃ := by
    rintro s₃ rfl
    refine comp_loopX (XE := CRawX X EX fp C H s) (fun n s' => ∃ i ys us ox H', Inv X' pins (ox :: capV σ cp) H' s' ∧ tn i s'.heap ∧ (∀ b ∈ fp, H' b = none) ∧ s'.heap.PlainList D us.toArray ∧ Vals ys us ∧ H' D = none ∧ W i n ys H') ?_ (fun e s5 h5 => thn (craw_note I hX hst hfm hex hf (by rw [hDe]; exact hCle) rfl h5) fun _ s6 h6 => hRE D C e s6 h6) m0
      ⟨0, [], [], none, H, I₁, st₁, fun b hb => (hf b hb).1, hacc, .nil, I.hok.fresh (by rw [hDe]; exact Nat.le_refl _), w0⟩
    rintro n s3 ⟨i, ys, us, ox, H3, I3, st3, fr3, pl3, v3, n3, w3⟩
    obtain ⟨nD, oD⟩ := pl3
    -- the list is pinned
    have I3p : Inv X' (pins ++ [((D, { cls := .type "list", data := .seq us.toArray nD }) : Addr × Obj)]) (ox :: capV σ cp) H3 s3 := I3.pins_of fun p hp => by
      rcases List.mem_append.mp hp with z | z
      · exact I3.pin p (List.mem_append_right _ z)
      · have e : p = ((D, { cls := .type "list", data := .seq us.toArray nD }) : Addr × Obj) := by simpa using z
        subst e
        obtain ⟨f0, f1, f2, _⟩ := fpD H3 n3
        exact ⟨oD, f0, f1, f2, fun v z => by cases z⟩
    have plOk : ∀ p ∈ pins ++ [((D, { cls := .type "list", data := .seq us.toArray nD }) : Addr × Obj)], p ∈ pins ∨ p.1 = D := fun p hp => by
      rcases List.mem_append.mp hp with z | z
      · exact .inl z
      · have e : p = ((D, { cls := .type "list", data := .seq us.toArray nD }) : Addr × Obj) := by simpa using z
        subst e
        exact .inr rfl
    have dPin : ∀ {pl : List (Addr × Obj)} {σ' : St} {H' : Hp} {s' : Shared}, Inv X' ((pins ++ [((D, { cls := .type "list", data := .seq us.toArray nD }) : Addr × Obj)]) ++ pl) σ' H' s' → s'.heap.get? D = some { cls := .type "list", data := .seq us.toArray nD } ∧ H' D = none := fun I' => by
      obtain ⟨e, n, _⟩ := I'.pin (D, _) (List.mem_append_right _ (List.mem_append_left _ (List.mem_append_right _ (List.mem_singleton.mpr rfl))))
      exact ⟨e, n⟩
    rcases turn i n ys H3 w3 with ⟨stop, hl, hend⟩ | ⟨go, hl, step⟩
    · refine thn (eA ▸ T.done X' eP eW eK eC i _ s3 _ H3 (CRawX X EX fp C H s) I3p (fpF _ H3 fr3 plOk) st3 stop) fun r s4 ⟨hr, I4⟩ => ?_
      subst hr
      obtain ⟨e4, n4⟩ := dPin (pl := []) (by rw [List.append_nil]; exact I4)
      have I4' : Inv X' pins (ox :: capV σ cp) H3 s4 := I4.unpinned
      -- back to X
      have un : Un (frs X.stack) fp H H3 s.heap s4.heap := by
        have := I4'.base
        rw [← hX'] at this
        exact this
      have os4 : s4.os = s.os := by
        have := I4'.os
        rw [← hX'] at this
        exact this
      have J4 : Inv X pins σ H3 s4 := I.call' (ch := fp) os4 un (by have := I4'.hok; rw [eP, eW] at this; exact this) I4'.bare fun b hb => by
        obtain ⟨_, f1, f2, f3, f4, f5⟩ := hf b hb
        exact ⟨f3, f1, f4, f5⟩
      obtain ⟨mC, hnsC, _⟩ := I4'.loc
      rw [fL] at hnsC
      obtain ⟨oC, esC, epC, hoC, hdC, rC⟩ := hnsC
      have fpC : ∀ H', H' C = none → FpOk X pins H' C := fun H' hn => I.fpOk (by rw [hDe]; exact hCle) hn
      have nC : H3 C = none := by have := I4'.free; rw [fL] at this; exact this
      have J5 : Inv X (pins ++ [(C, oC)]) σ H3 s4 := J4.pins_of fun p hp => by
        rcases List.mem_append.mp hp with z | z
        · exact J4.pin p (List.mem_append_right _ z)
        · have e : p = (C, oC) := by simpa using z
          subst e
          obtain ⟨f0, f1, f2, _⟩ := fpC H3 nC
          exact ⟨hoC, f0, f1, f2, fun v z => by rw [hdC] at z; cases z⟩
      have fD : FpOk X pins H3 D := I.fpOk (by rw [hDe]; exact Nat.le_refl _) n4
      refine hRR D C s4 ys H3 oC (J5.adopt n4 fD.2.1 (Nat.le_trans I.sz (by rw [hDe]; exact Nat.le_refl _)) fD.2.2.2.2.1 (fun p hp => ?_) ⟨hl, us, nD, v3, e4⟩) ⟨mC, fun h q => ⟨oC, esC, epC, q, hdC, rC⟩⟩ n4 hend fpC
      rcases List.mem_append.mp hp with z | z
      · exact fD.2.2.2.2.2 p (List.mem_append_left _ z)
      · rcases List.mem_append.mp z with z | z
        · exact fD.2.2.2.2.2 p (List.mem_append_right _ z)
        · have e : p = (C, oC) := by simpa using z
          subst e
          exact Ne.symm hDC
    · refine thn (eA ▸ T.item X' eP eW eK eC i _ s3 _ H3 (CRawX X EX fp C H s) I3p (fpF _ H3 fr3 plOk) st3 go) fun r s4 ⟨u, hr, h4⟩ => ?_
      subst hr
      refine thn h4 fun _ s5 ⟨v, H5, I5, r5, y5, st5, fr5⟩ => ?_
      have I5' := I5.pinned (fpF _ H5 fr5 plOk) (T.obj _ _ st5)
      obtain ⟨N, N', hNn, hNn', q5⟩ := step v H5 y5
      have hgo := hg _ s5 _ H5 v u (fun σ' H' => σ' = some v :: capV σ cp ∧ H' = H5) I5' r5 ⟨rfl, rfl⟩
      rw [eP, eW, eA, eX, eV] at hgo
      refine thn hgo fun _ s6 ⟨σ6, H6, I6, e6, e6'⟩ => ?_
      subst e6 e6'
      have hto := ht' _ s6 _ H6 _ I6 q5
      rw [eP, eW, eA, eX, eV] at hto
      refine thn hto fun b s7 ⟨H7, I7, q7⟩ => ?_
      have keepTn : ∀ {σ' : St} {H' : Hp} {s' : Shared}, Inv X' ((pins ++ [((D, { cls := .type "list", data := .seq us.toArray nD }) : Addr × Obj)]) ++ pinsAt fp s5.heap) σ' H' s' → tn (i + 1) s'.heap ∧ ∀ b ∈ fp, H' b = none := fun I' =>
        ⟨T.keep _ _ _ st5 fun b hb o e => (I'.pin (b, o) (List.mem_append_right _ (List.mem_append_right _ (mem_pinsAt hb e)))).1, fun b hb => by
          obtain ⟨o, e, d⟩ := T.obj _ _ st5 b hb
          exact (I'.pin (b, o) (List.mem_append_right _ (List.mem_append_right _ (mem_pinsAt hb e)))).2.1⟩
      cases b with
      | false =>
        rw [if_neg (by decide)] at q7 ⊢
        obtain ⟨m', hm, w7⟩ := hNn' _ q7
        obtain ⟨e7, n7⟩ := dPin I7
        obtain ⟨t7, f7⟩ := keepTn I7
        exact ⟨m', hm, i + 1, ys, us, some v, H7, I7.unpinned.unpinned, t7, f7, ⟨nD, e7⟩, v3, n7, w7⟩
      | true =>
        rw [if_pos rfl] at q7 ⊢
        have heo := he' _ s7 _ H7 _ I7 q7
        rw [eP, eW, eA, eX, eV] at heo
        refine thn heo fun y s8 ⟨y8, H8, I8, r8, q8⟩ => ?_
        obtain ⟨e8, n8⟩ := dPin I8
        obtain ⟨t8, f8⟩ := keepTn I8
        obtain ⟨m', hm, w8⟩ := hNn _ _ q8
        refine wpAny_list_append_plain ⟨nD, e8⟩ (fun h9 p9 sb9 => ?_) (by rw [List.size_toArray, ← v3.length]; exact Nat.le_of_lt hl)
        obtain ⟨g0, g1, g2, g3, g4, g5⟩ := fpD H8 n8
        have I9 : Inv X' pins (some v :: capV σ cp) H8 { s8 with heap := h9 } := I8.unpinned.unpinned.turned (t' := s8.toks) (fun b o hb e => (sb9.2 b hb).trans e) g0 g1 g3 g4 g5
        refine ⟨m', hm, i + 1, ys ++ [y8], us ++ [y], some v, H8, I9, T.keep _ _ _ t8 fun b hb o e => ?_, f8, ?_, v3.snoc r8, n8, w8⟩
        · refine (sb9.2 b ?_).trans e
          have := hfp b hb
          intro z
          rw [z] at this
          exact absurd this (Nat.lt_irrefl _)
        · have : (us ++ [y]).toArray = us.toArray.push y := by simp
          rw [this]
          exact p9
  exact codeAny_compStart_list (loop _ rfl) (T.self _ 0 _ _ _ st₁ (loop _ rfl))
end
section
variable {X : Cx} {scope : Scope} {x : Str} {cp : List (Nat × Str)} {px pos : Pos} {elt iter : Expr} {ifs : List Expr} {tt : TT} {te : TE} {wi : TI} {EX : XK}
/-- [elt for x in iter if ..], elt may raise -/
theorem pe_compX (S : CompScope X scope x cp) (hX : XOk X EX) (hi : PI X (.Name x px) iter wi)
    (ht : ∀ cl C s H fp xe, PTs ((compCx X scope cl C (x :: cp.map (·.2)) s H fp).wish xe) ifs tt) (he : ∀ cl C s H fp xe, Passes (CXr X.prog X.w) ((compCx X scope cl C (x :: cp.map (·.2)) s H fp).wish xe) EX → PE ((compCx X scope cl C (x :: cp.map (·.2)) s H fp).wish xe) elt te)
    (hc : X.calm = true := by rfl) (hst : X.stack = X.env :: X.outer := by rfl) (hfm : X.env.frame = some X.env.locals := by rfl) (hex : X.ex = [] := by rfl)
    (hs : ∀ v, foldedSetIterable iter X.env v = pure v := by intro _; rfl) : PE X (.ListComp elt [⟨.Name x px, iter, ifs, 0⟩] scope pos) (tComp wi cp tt te) := by
  intro pins s σ H Q I h
  rw [eval_ListComp]
  obtain ⟨cl, ec, hcl, hfr⟩ := closure_ok (env := X.env) (scope := scope) fun y hy hk => I.ok.has y.1 (.inl (S.free y hy hk))
  refine wpAny_comprehension_free (use := none) rfl hs ec S.kind S.names (thn (hi pins s σ H _ I h) fun v s1 h1 => thn h1 fun itv s2 h2 => ?_)
  obtain ⟨it, fp, tn, J, H2, e, I2, T, st2, f2, hw⟩ := h2
  subst e
  refine comp_blockX (RR := fun acc C => compPost (model X.prog X.w) X.A X.xe none (EP X pins σ Q) acc C) hX hst hfm hex S hc I2 hcl hfr T st2 f2 ht he hw ?_ fun _ _ _ _ z => z
  intro D C s' ys H3 o I3 hm nD hend fC
  obtain ⟨m, hm⟩ := hm
  obtain ⟨e3, n3, _⟩ := I3.pin (C, o) (List.mem_append_right _ (List.mem_append_right _ (List.mem_singleton.mpr rfl)))
  refine ⟨m, hm _ e3, fun h' sb => ?_⟩
  obtain ⟨f0, f1, f2', f3, f4, f5⟩ := fC _ n3
  exact ⟨.ref D, upd H3 D (.lst ys), I3.unpinned.turned (t' := s'.toks) (fun b o hb e => (sb.2 b hb).trans e) f0 f1 f3 f4 f5, rfl, hend D nD⟩
/-- y = [elt for x in iter if ..], y a plain local, elt may raise -/
theorem ps_setCompX {i : Nat} {y : Str} {py spos : Pos} (hN : X.N.Nodup) (hi' : X.N[i]? = some y) (hy : X.env.scope.names.lookup y = some .local) (S : CompScope X scope x cp) (hX : XOk X EX) (hi : PI X (.Name x px) iter wi)
    (ht : ∀ cl C s H fp xe, PTs ((compCx X scope cl C (x :: cp.map (·.2)) s H fp).wish xe) ifs tt) (he : ∀ cl C s H fp xe, Passes (CXr X.prog X.w) ((compCx X scope cl C (x :: cp.map (·.2)) s H fp).wish xe) EX → PE ((compCx X scope cl C (x :: cp.map (·.2)) s H fp).wish xe) elt te)
    (hc : X.calm = true := by rfl) (hst : X.stack = X.env :: X.outer := by rfl) (hfm : X.env.frame = some X.env.locals := by rfl) (hex : X.ex = [] := by rfl)
    (hsw : swapsWith (.ListComp elt [⟨.Name x px, iter, ifs, 0⟩] scope pos) (some (.Name y py)) spos.line X.env = pure true := by rfl)
    (hs : ∀ v, foldedSetIterable iter X.env v = pure v := by intro _; rfl) : PS X (.Assign [.Name y py] (.ListComp elt [⟨.Name x px, iter, ifs, 0⟩] scope pos) spos) (tAsg (tComp wi cp tt te) (gName i)) := by
  intro pins s σ H D I h
  rw [exec_Assign_Name_used _ _ _ _ hsw]
  refine wpAny_bind (wpAny_standAt (wpAny_bind ?_))
  show wpAny _ X.A (do let _ ← comprehension (.ListComp elt [⟨.Name x px, iter, ifs, 0⟩] scope pos) scope X.env _ (newList []) false (eval iter X.env) (some (assign (.Name y py) X.env))) _ _ s
  obtain ⟨cl, ec, hcl, hfr⟩ := closure_ok (env := X.env) (scope := scope) fun y hy hk => I.ok.has y.1 (.inl (S.free y hy hk))
  refine wpAny_bind (wpAny_mono (wpAny_comprehension_free (use := some (assign (.Name y py) X.env)) (Q := fun _ s' => SP X pins D .next s') rfl hs ec S.kind S.names
    (thn (hi pins s σ H _ I h) fun v s1 h1 => thn h1 fun itv s2 h2 => ?_)) (fun _ s' hq => wpAny_pure (wpAny_pure hq)) fun _ _ e => e)
  obtain ⟨it, fp, tn, J, H2, e, I2, T, st2, f2, hw⟩ := h2
  subst e
  refine comp_blockX (RR := fun acc C => compPost (model X.prog X.w) X.A X.xe (some (assign (.Name y py) X.env)) (fun _ s' => SP X pins D .next s') acc C) hX hst hfm hex S hc I2 hcl hfr T st2 f2 ht he hw ?_ fun _ _ _ _ z => z
  intro D' C s' ys H3 o I3 hm nD hend fC
  obtain ⟨m, hm⟩ := hm
  show wpAny _ X.A (assign (.Name y py) X.env (.ref D')) _ _ _
  refine wpAny_assign_Name (store_ok I3 hN hi' (.inl hy) (v := .ref D') rfl (fun s4 I4 => ?_) (.inr hy))
  obtain ⟨e3, n3, _⟩ := I4.pin (C, o) (List.mem_append_right _ (List.mem_append_right _ (List.mem_singleton.mpr rfl)))
  refine ⟨m, hm _ e3, fun h' sb => ?_⟩
  obtain ⟨f0, f1, f2', f3, f4, f5⟩ := fC _ n3
  exact ⟨_, upd H3 D' (.lst ys), I4.unpinned.turned (t' := s4.toks) (fun b o hb e => (sb.2 b hb).trans e) f0 f1 f3 f4 f5, hend D' nD⟩
end
end L2

set_option Elab.async false
set_option linter.all false
set_option maxRecDepth 100000
set_option maxHeartbeats 4000000
namespace L2
open PySem PySem.Spec PyProof.Rows
/-! ### try .. except C as e -/
theorem Un.later {fs : List Addr} {H H2 : Hp} {h h2 h3 B : Heap} (u : Un fs [] H H2 h h2) (old : ∀ b o, h.get? b = some o → b ∉ fs → ∃ o', h2.get? b = some o' ∧ B.get? b = some o') (st : B.StaysIn h3) (up : h2.UpToSlots h3)
    (nf : ∀ b ∈ fs, ∀ o, h2.get? b = some o → ∀ vs, o.data ≠ .fields vs) : Un fs [] H H2 h h3 :=
  u.away (L := h.objs.size) (Nat.le_refl _) (fun b o e n => old b o e fun z => n (List.mem_cons_of_mem _ z)) st up nf
section
variable {X : Cx} {pins : List (Addr × Obj)} {σ : St} {H : Hp} {s : Shared}
/-- the name in slot i is let go -/
theorem name_goes {M : Model} {A : Around} {E : Value → Shared → Prop} {n : Str} {i : Nat} {pos : Pos} {Q : Unit → Shared → Prop} (I : Inv X pins σ H s) (hN : X.N.Nodup) (hi : X.N[i]? = some n) (hk : X.env.kindOf n = some .local)
    (q : ∀ s', Inv X pins (σ.set i none) H s' → Q () s') : wpAny M A (do bindName X.env n .none; unbindBehindTheSuite X.env n pos) Q E s := by
  obtain ⟨m, hns, hloc⟩ := id I.loc
  have hcls : (X.env.scope.kind == .class || (X.env.scope.kind == .module && X.env.locals != X.env.globals)) = false := by rw [I.ok.kind]; rfl
  refine wpAny_nameGoes_keeps hk hns hcls fun h' v hn' sb => q _ ?_
  obtain ⟨oL, _, _, hoL, _⟩ := id hns
  have nl : ∀ b o, X.s₀.heap.get? b = some o → b ≠ X.env.locals := fun b o e => Nat.ne_of_lt (Nat.lt_of_lt_of_le (Heap.lt_size e) I.ok.above)
  refine ⟨I.ok, I.os, I.bare, ⟨fun b o e n hb hx => ?_, fun b o e n hb hx => ?_, I.base.free, fun b o e hx => ?_, I.base.tups, I.base.frzs, I.base.tbls⟩, ⟨_, hn', fun j y u e1 e2 e3 => ?_⟩, fun y c e => ?_, I.free, I.freeC, fun p hp => ?_, fun b ob e => ?_, by simpa using I.len⟩
  · exact (sb.2 b (nl b o e)).trans (I.base.keep b o e n hb hx)
  · obtain ⟨sl, e1⟩ := I.base.slot b o e n hb hx
    exact ⟨sl, (sb.2 b (nl b o e)).trans e1⟩
  · obtain ⟨o', e1⟩ := I.base.there b o e hx
    exact ⟨o', (sb.2 b (nl b o e)).trans e1⟩
  · by_cases hj : j = i
    · subst hj
      have hlt : j < σ.length := by rw [I.len]; exact (List.getElem?_eq_some_iff.mp hi).1
      rw [List.getElem?_set_self hlt] at e2
      cases e2
    · rw [List.getElem?_set_ne (Ne.symm hj)] at e2
      obtain ⟨u', r', l⟩ := hloc j y u e1 e2 e3
      refine ⟨u', r', ?_⟩
      rcases l with ⟨k, e⟩ | ⟨k, c, e, z⟩
      · have ny : y ≠ n := fun z => hj (nodup_ix hN e1 (z ▸ hi))
        exact .inl ⟨k, by simp [ny, e]⟩
      · exact .inr ⟨k, c, e, z.sameBut sb (I.cne y c e)⟩
  · obtain ⟨u, z⟩ := I.cell y c e
    exact ⟨u, z.sameBut sb (I.cne y c e)⟩
  · obtain ⟨e, n, ne, nf, d⟩ := I.pin p hp
    exact ⟨(sb.2 p.1 ne).trans e, n, ne, nf, d⟩
  · refine (I.hok b ob e).stay (fun c u hc q => (sb.2 c ?_).trans q) (fun _ q => q) fun _ _ q => q
    intro z
    rcases hc with hc | hc
    · rw [← hc, z, I.free] at e; cases e
    · rw [z, I.free] at hc; cases hc
/-- an untracked record that is not of the entry becomes tracked -/
theorem Inv.adoptN {D : Addr} {o : HO} (I : Inv X pins σ H s) (hn : H D = none) (h0 : X.s₀.heap.get? D = none) (hL : D ≠ X.env.locals) (h2 : ∀ x c, X.env.cells.lookup x = some c → c ≠ D) (h3 : ∀ p ∈ X.pn ++ pins, p.1 ≠ D)
    (new : ObjOk X.prog X.w (upd H D o) s.heap D o) : Inv X pins σ (upd H D o) s := by
  have nit : ∀ b u, H b = some u → b ≠ D := fun b u e z => by rw [z, hn] at e; cases e
  have lift : ∀ b u, H b = some u → (upd H D o) b = some u := fun b u e => by rw [upd_ne (nit b u e)]; exact e
  refine ⟨I.ok, I.os, I.bare, ⟨I.base.keep, I.base.slot, fun b u e n hx => ?_, I.base.there, fun b xs e => lift _ _ (I.base.tups b xs e), fun b u v e => lift _ _ (I.base.frzs b u v e), fun b ps e => ?_⟩, I.loc, I.cell, by rw [upd_ne (Ne.symm hL)]; exact I.free, fun y c e => by rw [upd_ne (h2 y c e)]; exact I.freeC y c e, fun p hp => ?_, fun b u e => ?_, I.len⟩
  · rw [upd_ne (fun z => by rw [z, h0] at e; cases e)]
    exact I.base.free b u e n hx
  · obtain ⟨more, e1⟩ := I.base.tbls b ps e
    exact ⟨more, lift _ _ e1⟩
  · obtain ⟨e, n, r⟩ := I.pin p hp
    exact ⟨e, by rw [upd_ne (h3 p hp)]; exact n, r⟩
  · by_cases hb : b = D
    · subst hb
      rw [upd_same] at e
      cases e
      exact new
    · rw [upd_ne hb] at e
      exact (I.hok b u e).stay (fun _ _ _ q => q) (fun c q => lift _ _ q) fun c xs q => lift _ _ q
/-- the pins become the context's own -/
abbrev Cx.pinned (X : Cx) (pins : List (Addr × Obj)) : Cx := { X with pn := X.pn ++ pins }
theorem Inv.toPn (I : Inv X pins σ H s) : Inv (X.pinned pins) [] σ H s :=
  ⟨⟨I.ok.mod, I.ok.kind, I.ok.glob, I.ok.blt, I.ok.above, I.ok.inj, I.ok.has, I.ok.cab, I.ok.hd, I.ok.frames, I.ok.stk, I.ok.exf, I.ok.bs, I.ok.bsz, I.ok.noex, I.ok.exfs, I.ok.funs, I.ok.frf⟩, I.os, I.bare, I.base, I.loc, I.cell, I.free, I.freeC, fun p hp => I.pin p (by simpa using hp), I.hok, I.len⟩
theorem Inv.ofPn {ps : List (Addr × Obj)} (I : Inv (X.pinned pins) ps σ H s) : Inv X pins σ H s :=
  ⟨⟨I.ok.mod, I.ok.kind, I.ok.glob, I.ok.blt, I.ok.above, I.ok.inj, I.ok.has, I.ok.cab, I.ok.hd, I.ok.frames, I.ok.stk, I.ok.exf, I.ok.bs, I.ok.bsz, I.ok.noex, I.ok.exfs, I.ok.funs, I.ok.frf⟩, I.os, I.bare, I.base, I.loc, I.cell, I.free, I.freeC, fun p hp => I.pin p (List.mem_append_left _ hp), I.hok, I.len⟩
/-- within an except suite -/
abbrev Cx.caught (X : Cx) (a : Addr) : Cx := { X with A := X.A.mark (some (.ref a)), calm := false, xe := fun _ _ => False }
theorem Inv.toCt {a : Addr} (I : Inv X pins σ H s) : Inv (X.caught a) pins σ H s :=
  ⟨⟨I.ok.mod, I.ok.kind, I.ok.glob, I.ok.blt, I.ok.above, I.ok.inj, I.ok.has, I.ok.cab, fun z => Bool.noConfusion z, I.ok.frames, I.ok.stk, I.ok.exf, I.ok.bs, I.ok.bsz, I.ok.noex, I.ok.exfs, I.ok.funs, I.ok.frf⟩, I.os, I.bare, I.base, I.loc, I.cell, I.free, I.freeC, I.pin, I.hok, I.len⟩
theorem Inv.ofCt {a : Addr} (hc : X.calm = true → X.A.handled = none) (I : Inv (X.caught a) pins σ H s) : Inv X pins σ H s :=
  ⟨⟨I.ok.mod, I.ok.kind, I.ok.glob, I.ok.blt, I.ok.above, I.ok.inj, I.ok.has, I.ok.cab, hc, I.ok.frames, I.ok.stk, I.ok.exf, I.ok.bs, I.ok.bsz, I.ok.noex, I.ok.exfs, I.ok.funs, I.ok.frf⟩, I.os, I.bare, I.base, I.loc, I.cell, I.free, I.freeC, I.pin, I.hok, I.len⟩
theorem SP.ofPn {ps : List (Addr × Obj)} {D : Ends} {f : Flow} {s' : Shared} {E : Value → Shared → Prop} (h : SP ((X.pinned pins).wish E) ps D f s') : SP X pins D f s' := by
  cases f with
  | next => obtain ⟨σ', H', I, q⟩ := h; exact ⟨σ', H', I.unwish.ofPn, q⟩
  | brk => obtain ⟨σ', H', I, q⟩ := h; exact ⟨σ', H', I.unwish.ofPn, q⟩
  | cont => obtain ⟨σ', H', I, q⟩ := h; exact ⟨σ', H', I.unwish.ofPn, q⟩
  | ret u => obtain ⟨v, σ', H', I, r, q⟩ := h; exact ⟨v, σ', H', I.unwish.ofPn, r, q⟩
end
/-- the caught exception's object: its class, its own dict -/
def XObj (a : Addr) (cls : Value) (dx : Option Addr) : HO := .ext fun h => ∃ o vs, h.get? a = some o ∧ o.cls = cls ∧ o.dict = dx ∧ o.data = .fields vs
theorem xobj_ok {P : Program} {w : World} {H : Hp} {h B : Heap} {a : Addr} {cls fl : Value} {dx : Option Addr} (x : XAt B a cls dx fl h) : ObjOk P w H h a (XObj a cls dx) := by
  obtain ⟨o, vs, _, _, _, ha, hc, hdx, hd, _⟩ := x
  refine ⟨⟨o, vs, ha, hc, hdx, hd⟩, ⟨o, ha⟩, fun h1 h2 p k => ?_⟩
  obtain ⟨o1, vs1, e1, r⟩ := p
  exact ⟨o1, vs1, k o1 e1, r⟩
section
variable {X : Cx} {x n : Str} {i : Nat} {CF : Addr} {body suite : List Stmt} {b₀ : Stmt} {np hpos pos : Pos} {tb : XK → TS} {th : TS}
/-- what is wanted of the body's exception: it is caught, and the suite goes on -/
def eTry (K : PySem.W.Frag) (CF : Addr) (l i : Nat) (th : TS) (D : Ends) : XK := fun cls dx H => PySem.W.exmOne K cls (.ref CF) = some true ∧ (∀ a, H a = none → th { D with nx := fun σ' H' => D.nx (σ'.set i none) H', rt := fun v H' => D.rt v H', bk := fun σ' H' => D.bk (σ'.set i none) H', ct := fun σ' H' => D.ct (σ'.set i none) H' }
  ((List.replicate l none).set i (some (.ref a))) (upd H a (XObj a cls dx)))
def tTry (K : PySem.W.Frag) (CF : Addr) (l i : Nat) (tb : XK → TS) (th : TS) : TS := fun D σ H => tb (eTry K CF l i th D) D σ H
theorem ps_try (hN : X.N.Nodup) (hi : X.N[i]? = some n) (hk : X.env.kindOf n = some .local) (hg : Gl X x) (hm : X.mg x = some (.ref CF)) (hst : X.stack = X.env :: X.outer) (hfm : X.env.frame = some X.env.locals) (hex : X.ex = [])
    (hb : ∀ pn xe E, Passes (CXr X.prog X.w) (({ X with pn := pn } : Cx).wish xe) E → PSs (({ X with pn := pn } : Cx).wish xe) body (tb E)) (hs : ∀ a, PSs (X.caught a) (b₀ :: suite) th)
    (hd : (x == ("__debug__" : Str)) = false := by decide) : PS X (.Try body [.ExceptHandler (some (.Name x np)) (some n) (b₀ :: suite) hpos] [] [] pos) (tTry X.K CF X.N.length i tb th) := by
  intro pins s σ H D I h
  have hpass : Passes (CXr X.prog X.w) ((X.pinned pins).wish fun e s' => ∃ ps σ' H1 s1, Inv (X.pinned pins) ps σ' H1 s1 ∧ CXr X.prog X.w X.stack H1 s1 (eTry X.K CF X.N.length i th D) e s') (eTry X.K CF X.N.length i th D) :=
    fun ps σ' H1 s1 e s' J hc => ⟨ps, σ', H1, s1, J.unwish, hc⟩
  refine wpAny_Try_except (wpAny_mono (hb (X.pn ++ pins) _ _ hpass [] s σ H D (I.toPn.wish _) h) (fun f s1 h1 => ?_) fun e s1 h1 => ?_)
  · cases f with
    | next => exact wpAny_execs_nil h1.ofPn
    | brk => exact h1.ofPn
    | cont => exact h1.ofPn
    | ret u => exact h1.ofPn
  · obtain ⟨ps, σ', H1, s0, J, a, cls, dx, H2, B, rfl, os, bare, un, hok, ⟨st, na, fr, tr⟩, kp, hq1, hq2⟩ := h1
    have nfr : ∀ b ∈ frs X.stack, ∀ o, s1.heap.get? b = some o → ∀ vs, o.data ≠ .fields vs := fun b hb o e => by
      obtain ⟨_, o', e', n⟩ := fr.mem hb
      rw [e] at e'
      cases e'
      exact n
    rw [hst] at fr
    refine x_note (by rw [J.ok.frames]; exact congrArg some hst) fr hfm st na (.inr ⟨_, tr⟩) fun h3 st3 fr3 x3 up3 => ?_
    refine x_land (s := { s1 with heap := h3 }) fr3 st3 x3 fun h4 st4 fr4 x4 up4 => ?_
    have up : s1.heap.UpToSlots h4 := up3.trans up4
    have nH : H2 a = none := by
      cases z : H2 a with
      | none => rfl
      | some u =>
        obtain ⟨o, _, e2⟩ := kp.trk a u z
        rw [na] at e2; cases e2
    have inv : ∀ h5, B.StaysIn h5 → s1.heap.UpToSlots h5 → Inv X pins σ' H2 { s1 with heap := h5 } := fun h5 st5 up5 =>
      (J.call' (s' := { s1 with heap := h5 }) (ch := []) os (Un.later un kp.old st5 up5 nfr) (HOk.inB hok kp.trk st5) bare fun b z => absurd z (by simp)).ofPn
    have J4 := inv h4 st4 up
    refine wpAny_handleBy_cons (codeAny_handlers_test (ld_glob (J4.toCt (a := a)) hg hm ?_ hd)) (by intro z; cases z)
    have LT : PySem.W.Looks (model X.prog X.w) h4 (typeOf (.ref a)) cls := by
      obtain ⟨o, _, _, _, _, ha, hc, _⟩ := x4
      exact hc ▸ (PySem.W.Looks.ld ha).andThen .now
    refine (PySem.W.exm_one (M := model X.prog X.w) J4.kIn LT hq1).here (s := { s1 with heap := h4 }) ?_
    show codeAny _ _ _ _ _
    refine codeAny_handlers_suite_as (x_land (s := { s1 with heap := h4 }) fr4 st4 x4 fun h6 st6 fr6 x6 up6 => ?_)
    have J6 := inv h6 st6 (up.trans up6)
    obtain ⟨xo, xvs, _, _, _, xa, _, _, xd, _⟩ := id x6
    have n0 : s0.heap.get? a = none := by
      cases z : s0.heap.get? a with
      | none => rfl
      | some o =>
        by_cases hb : a ∈ frs X.stack
        · obtain ⟨o1, vs1, _, _, _, e1, _, _, d1, _⟩ := tr
          exact absurd d1 (nfr a hb o1 e1 vs1)
        · obtain ⟨o', _, e2⟩ := kp.old a o z hb
          rw [na] at e2; cases e2
    have J7 : Inv X pins σ' (upd H2 a (XObj a cls dx)) { s1 with heap := h6 } := by
      refine J6.adoptN nH ?_ ?_ ?_ ?_ (xobj_ok x6)
      · cases z : X.s₀.heap.get? a with
        | none => rfl
        | some o =>
          obtain ⟨o', e1⟩ := J.base.there a o z (by show a ∉ X.ex; rw [hex]; simp)
          rw [n0] at e1; cases e1
      · intro z
        obtain ⟨m, ⟨o, es, ep, e1, e2, _⟩, _⟩ := J6.loc
        rw [← z] at e1
        have e1 : h6.get? a = some o := e1
        rw [xa] at e1
        cases e1
        rw [xd] at e2; cases e2
      · intro y c e z
        obtain ⟨v, o, e1, e2⟩ := J6.cell y c e
        rw [z] at e1
        have e1 : h6.get? a = some o := e1
        rw [xa] at e1
        cases e1
        rw [xd] at e2; cases e2
      · intro p hp z
        obtain ⟨e1, _⟩ := J.ofPn.pin p hp
        rw [z, n0] at e1; cases e1
    have J8 : Inv X pins (List.replicate X.N.length none) (upd H2 a (XObj a cls dx)) { s1 with heap := h6 } := J7.weak (by rw [List.length_replicate]; exact J7.len.symm) fun j v e => by
      rw [List.getElem?_replicate] at e
      split at e <;> cases e
    refine store_ok J8 hN hi (.inl hk) (v := .ref a) rfl (fun s9 J9 => ?_) (.inr hk)
    refine wpAny_mono (hs a pins s9 _ _ _ J9.toCt (hq2 a nH)) (fun f s10 h10 => ?_) fun _ _ z => z.elim
    cases f with
    | next =>
      obtain ⟨σ10, H10, J10, q10⟩ := h10
      exact name_goes (J10.ofCt I.ok.hd) hN hi hk fun s11 J11 => ⟨_, _, J11, q10⟩
    | brk =>
      obtain ⟨σ10, H10, J10, q10⟩ := h10
      exact name_goes (J10.ofCt I.ok.hd) hN hi hk fun s11 J11 => ⟨_, _, J11, q10⟩
    | cont =>
      obtain ⟨σ10, H10, J10, q10⟩ := h10
      exact name_goes (J10.ofCt I.ok.hd) hN hi hk fun s11 J11 => ⟨_, _, J11, q10⟩
    | ret u =>
      obtain ⟨v, σ10, H10, J10, r, q10⟩ := h10
      exact name_goes (J10.ofCt I.ok.hd) hN hi hk fun s11 J11 => ⟨v, _, _, J11, r, q10⟩
end
end L2

set_option Elab.async false
set_option linter.all false
set_option maxRecDepth 100000
set_option maxHeartbeats 4000000
namespace L2
open PySem PySem.Spec PyProof.Rows
/-! ### isinstance of a caught exception of an own class -/
/-- what the fragment says of the class -/
structure XCls (K : PySem.W.Frag) (C : Addr) : Prop where
  ex : PySem.W.ktsIn K C "object" = true
  ga : PySem.W.findIn K (.ref C) "__getattribute__" = some (some (.builtin "BaseException.__getattribute__"))
  gt : PySem.W.findIn K (.ref C) "__getattr__" = some none
  cl : PySem.W.findIn K (.ref C) "__class__" = some (some (.builtin "object.__class__"))
section
variable {prog : Program} {w : World} {A : Around} {E : Value → Shared → Prop} {h : Heap} {g : Array GenState} {d : Drawn} {t : Nat} {os : OsState} {a : Addr} {o : Obj}
  {nm q : Str} {C N : Addr} {bs bm : List Value} {hdct : Bool} {sn : List Str} {sub : List Value} {ab : Bool} {col : Option Bool} {dd : Option Addr} {k0 k1 k2 k3 k5 : Option Value} {newId : String} {K : PySem.W.Frag}
theorem xc_get {R : Result → Shared → Prop} (hC : h.get? C = some (excClassObj nm q C N bs bm hdct sn sub ab col dd k0 k1 k2 k3 k5 newId)) (hO : bm.contains (.type "object") = true) (ha : h.get? a = some o) (hc : o.cls = .ref C)
    (z : R (.ok (.ret (.ref C))) ⟨h, g, d, t, os⟩) : codeAny (model prog w) A (.call (.builtin "getset_descriptor.__get__") ⟨[.builtin "object.__class__", .ref a, .ref C], []⟩) R ⟨h, g, d, t, os⟩ := by
  have ty : (⟨h, g, d, t, os⟩ : Shared).TypeIs (.builtin "object.__class__") "getset_descriptor" := F.typeOf_object_class
  have own : (Value.ref C :: bm).contains (.type (".".intercalate ("object.__class__".cutAt '.').dropLast)) = true := by rw [F.owner_object_class, List.contains_cons, hO, Bool.or_true]
  refine codeAny_call_builtin F.slot_gs_get.plain F.entry_gs_get (F.slot_gs_get.check _ _ _ _ _ _ _ _ ty (F.args_gs_get _ _ _) ?_)
  repeat (any_goals (first | assumption | (with_reducible refine wpAny_loadPart_at ha ?_; rw [hc]) | (with_reducible refine wpAny_isSubtype_exc hC ?_; rw [own]) | wp_step))
  refine ⟨Code.quiet_builtin _ (by decide +kernel), codeAny_builtin F.entry_object_class ?_⟩
  repeat (any_goals (first | assumption | (with_reducible refine wpAny_loadPart_at ha ?_; rw [hc]) | wp_step))
theorem xc_entry {tk : Tok} {Q : Fin → Shared → Prop} (X : K.In h) (S : XCls K C) (hC : h.get? C = some (excClassObj nm q C N bs bm hdct sn sub ab col dd k0 k1 k2 k3 k5 newId)) (hO : bm.contains (.type "object") = true) (ha : h.get? a = some o) (hc : o.cls = .ref C)
    (z : Q (.done (.ret (.ref C))) ⟨h, g, d, t, os⟩) : wpAny (model prog w) A (Builtin.«object.__getattribute__» ⟨[.ref a, .str "__class__" tk], []⟩) Q E ⟨h, g, d, t, os⟩ := by
  have ty : (⟨h, g, d, t, os⟩ : Shared).TypeIs (.builtin "object.__class__") "getset_descriptor" := F.typeOf_object_class
  have f5 := F.typeOf_object_class
  have f6 := F.slot_gs_get.lookup
  have f7 := F.slot_gs_set.lookup
  have L := PySem.W.looks_findIn (M := model prog w) X S.cl
  repeat (any_goals (first | assumption | (with_reducible refine wpAny_loadPart_at ha ?_; rw [hc]) | with_reducible refine L.at ?_ | wp_step))
  refine xc_get hC hO ha hc ?_
  repeat (any_goals (first | assumption | wp_step))
theorem xc_check {M : Model} {v : Value} {Q : Unit → Shared → Prop} (hC : h.get? C = some (excClassObj nm q C N bs bm hdct sn sub ab col dd k0 k1 k2 k3 k5 newId)) (hB : bm.contains (.type "BaseException") = true) (ha : h.get? a = some o) (hc : o.cls = .ref C)
    (z : Q () ⟨h, g, d, t, os⟩) : wpAny M A (checkBuiltinCall "BaseException.__getattribute__" ⟨[.ref a, v], []⟩) Q E ⟨h, g, d, t, os⟩ := by
  have e1 : builtinKind "BaseException.__getattribute__" = some .slot := by decide +kernel
  have e2 : splitId "BaseException.__getattribute__" = some ("BaseException", "__getattribute__") := by decide +kernel
  have own : (Value.ref C :: bm).contains (.type "BaseException") = true := by rw [List.contains_cons, hB, Bool.or_true]
  have ok := F.args_bexc_ga (.ref a) v
  simp only [checkBuiltinCall, e1, e2]
  refine wpAny_bind ?_
  unfold isInstance
  repeat (first | (with_reducible refine wpAny_loadPart_at ha ?_; rw [hc]) | (with_reducible refine wpAny_isSubtype_exc hC ?_; rw [own]) | wp_step)
  exact z
theorem xc_by {tk : Tok} {Q : Value → Shared → Prop} (X : K.In h) (S : XCls K C) (hC : h.get? C = some (excClassObj nm q C N bs bm hdct sn sub ab col dd k0 k1 k2 k3 k5 newId)) (hO : bm.contains (.type "object") = true) (hB : bm.contains (.type "BaseException") = true) (ha : h.get? a = some o) (hc : o.cls = .ref C)
    (z : Q (.ref C) ⟨h, g, d, t, os⟩) : wpAny (model prog w) A (getAttrBy (.ref a) (.str "__class__" tk) false) Q E ⟨h, g, d, t, os⟩ := by
  have f3 := F.attr_ValueError.ga.bind (.ref a)
  have n2 : (Value.builtin "BaseException.__getattribute__" == Value.builtin "object.__getattribute__") = false := by decide +kernel
  have n1 : (onTheHeap (Value.ref C) && Value.builtin "BaseException.__getattribute__" == Value.builtin "object.__getattribute__") = false := by rw [n2]; rfl
  have L1 := PySem.W.looks_findIn (M := model prog w) X S.ga
  have L2 := PySem.W.looks_findIn (M := model prog w) X S.gt
  repeat (any_goals (first | assumption | (with_reducible refine wpAny_loadPart_at ha ?_; rw [hc]) | with_reducible refine L1.at ?_ | with_reducible refine L2.at ?_ | wp_step))
  refine codeAny_call_builtin F.attr_ValueError.ga.plain F.entry_bexc_ga (xc_check hC hB ha hc (xc_entry X S hC hO ha hc ?_))
  repeat (any_goals (first | assumption | wp_step))
theorem xc_attr {Q : Option Value → Shared → Prop} (X : K.In h) (S : XCls K C) (hC : h.get? C = some (excClassObj nm q C N bs bm hdct sn sub ab col dd k0 k1 k2 k3 k5 newId)) (hO : bm.contains (.type "object") = true) (hB : bm.contains (.type "BaseException") = true) (ha : h.get? a = some o) (hc : o.cls = .ref C)
    (z : Q (some (.ref C)) ⟨h, g, d, t + 1, os⟩) : wpAny (model prog w) A (getAttr? (.ref a) "__class__") Q E ⟨h, g, d, t, os⟩ := by
  unfold getAttr? getAttrBy?
  repeat (any_goals (first | assumption | with_reducible apply xc_by X S hC hO hB ha hc | wp_step))
end
theorem kitx_x {K : PySem.W.Frag} {a C : Addr} (S : XCls K C) : PySem.W.KitX K (.ref a) (.ref C) (fun h => ∃ o, h.get? a = some o ∧ o.cls = .ref C) where
  ty := fun M h _ p => by
    obtain ⟨o, h1, h2⟩ := p
    exact h2 ▸ (PySem.W.Looks.ld h1).andThen .now
  it := fun M h X _ => by
    obtain ⟨nm, qn, N, bs, bm, hdct, sn, sub, ab, col, dd, k0, k1, k2, k3, k5, newId, hC, _⟩ := PySem.W.kts_cls X S.ex
    intro A' Q' E' s' k z
    unfold isType loadHead
    exact wpAny_bind (wpAny_loadPart (k _ _ hC) (wpAny_pure z))
  ne := fun h tp dd its n sl X htp => by
    obtain ⟨nm, qn, N, bs, bm, hdct, sn, sub, ab, col, dd, k0, k1, k2, k3, k5, newId, hC, _⟩ := PySem.W.kts_cls X S.ex
    refine Bool.eq_false_iff.mpr fun z => ?_
    have e : C = tp := Value.ref.inj (beq_iff_eq.mp z)
    subst e
    rw [hC] at htp
    injection htp with htp
    injection htp with _ _ e _
    cases e
  ca := fun {prog w A E Q s} X p z => by
    obtain ⟨o, h1, h2⟩ := p
    obtain ⟨nm, qn, N, bs, bm, hdct, sn, sub, ab, col, dd, k0, k1, k2, k3, k5, newId, hC, hB, hO⟩ := PySem.W.kts_cls X S.ex
    obtain ⟨h, g, d, t, os⟩ := s
    exact xc_attr X S hC hO hB h1 h2 z
section
variable {X : Cx}
/-- isinstance(x, c), x a caught exception of the class C -/
def rIsX (K : PySem.W.Frag) : List V → Hp → VK → Prop := fun xs H Q => ∃ a C dx k, XCls K C ∧ H a = some (XObj a (.ref C) dx) ∧ ((∃ C', xs = [.ref a, .ref C'] ∧ PySem.W.kitOne K (.ref C) (.ref C') = some k) ∨ ∃ T, xs = [.ref a, .ty T] ∧ PySem.W.kitOne K (.ref C) (.type T) = some k) ∧ Q (.bl k) H
theorem call_isX : CallR X (.builtin "isinstance") (rIsX X.K) := by
  rintro pins s σ H xs us Q I r ⟨a, C, dx, k, S, ha, hx, q⟩
  obtain ⟨⟨o, vs, e1, e2, _⟩, _⟩ := I.hok a _ ha
  rcases hx with ⟨C', rfl, hk⟩ | ⟨T, rfl, hk⟩
  · obtain ⟨u, u', rfl, ru, ru'⟩ := vals2 r
    cases ru
    cases ru'
    exact PySem.W.kia_one (kitx_x S) I.kIn ⟨o, e1, e2⟩ hk (fun z => nomatch z) fun tk => ⟨.bl k, H, I.tok _, rfl, q⟩
  · obtain ⟨u, u', rfl, ru, ru'⟩ := vals2 r
    cases ru
    cases ru'
    exact PySem.W.kia_one (kitx_x S) I.kIn ⟨o, e1, e2⟩ hk (fun z => nomatch z) fun tk => ⟨.bl k, H, I.tok _, rfl, q⟩
end
end L2

set_option Elab.async false
set_option linter.all false
set_option maxRecDepth 100000
set_option maxHeartbeats 4000000
namespace L2
open PySem PySem.Spec PyProof.Rows
/-! ### count and index in a list of bools -/
section
variable {X : Cx}
theorem eqg_bool (a b : Bool) : MeetsSeq.EqGives (.bool a) (.bool b) (a == b) := fun prog w A E s Q h => SeqAt.EqAt.bool_bool a b prog w E Q h
def isT : Value → Bool
  | .bool b => b
  | _ => false
theorem bl_all {bs : List Bool} {its : List Value} (r : Vals (bs.map V.bl) its) : its = bs.map Value.bool := by
  induction bs generalizing its with
  | nil => cases r; rfl
  | cons b bs ih =>
    cases r with
    | cons r1 r2 =>
      rw [ih r2, List.map_cons]
      congr 1
def rCountB : V → List V → Hp → VK → Prop := fun x vs H Q => ∃ (l : Addr) (bs : List Bool), x = .ref l ∧ vs = [.bl true] ∧ H l = some (.lst (bs.map V.bl)) ∧ Q (.int ((bs.countP id : Nat) : Int)) H
theorem mt_countB : MtM X "list.count" rCountB := by
  intro pins s σ H x vs v us Q I rx rv h
  obtain ⟨l, bs, rfl, rfl, hH, q⟩ := h
  cases rx
  obtain ⟨u, rfl, ru⟩ := rv.one
  cases ru
  obtain ⟨z, its, n, r, hl, e⟩ := I.lstM hH
  have ei := bl_all r
  subst ei
  refine call_meets F.slot_list_count ⟨_, e, rfl⟩ F.entry_list_count (F.args_list_count_2 _ _) (MeetsSeq.list_count l _ n (.bool true) isT fun y hy => ?_) ⟨e, ?_⟩
  · have hy' : y ∈ bs.map Value.bool := by simpa using hy
    obtain ⟨b, _, rfl⟩ := List.mem_map.mp hy'
    have := eqg_bool b true
    have eb : (b == true) = isT (.bool b) := by cases b <;> rfl
    rw [eb] at this
    exact this
  · have ec : List.countP isT (bs.map Value.bool).toArray.toList = bs.countP id := by
      rw [List.toList_toArray, List.countP_map]
      rfl
    refine ⟨.int _, H, I.tok _, ⟨_, rfl⟩, ?_⟩
    exact ec ▸ q
def rIndexB : V → List V → Hp → VK → Prop := fun x vs H Q => ∃ (l : Addr) (bs : List Bool) (j : Nat), x = .ref l ∧ vs = [.bl true] ∧ H l = some (.lst (bs.map V.bl)) ∧ bs[j]? = some true ∧ (∀ m, m < j → bs[m]? = some false) ∧ j ≤ 1000 ∧ Q (.int (j : Nat)) H
theorem mt_indexB : MtM X "list.index" rIndexB := by
  intro pins s σ H x vs v us Q I rx rv h
  obtain ⟨l, bs, j, rfl, rfl, hH, hj, hno, h1000, q⟩ := h
  cases rx
  obtain ⟨u, rfl, ru⟩ := rv.one
  cases ru
  obtain ⟨z, its, n, r, hl, e⟩ := I.lstM hH
  have ei := bl_all r
  subst ei
  have hjl : j < bs.length := (List.getElem?_eq_some_iff.mp hj).1
  refine call_meets F.slot_list_index ⟨_, e, rfl⟩ F.entry_list_index (F.args_list_index_2 _ _) (MeetsSeq.list_index l _ n (.bool true) isT (fun y hy => ?_) j (by simpa using hjl) (by omega) ?_ fun m hm hmj => ?_) ⟨e, ?_⟩
  · have hy' : y ∈ bs.map Value.bool := by simpa using hy
    obtain ⟨b, _, rfl⟩ := List.mem_map.mp hy'
    have := eqg_bool b true
    have eb : (b == true) = isT (.bool b) := by cases b <;> rfl
    rw [eb] at this
    exact this
  · have := (List.getElem?_eq_some_iff.mp hj).2
    simp [isT, this]
  · have hml : m < bs.length := by omega
    have := hno m hmj
    have := (List.getElem?_eq_some_iff.mp this).2
    simp [isT, this]
  · exact ⟨.int _, H, I.tok _, ⟨_, rfl⟩, q⟩
/-! ### one sign, many times -/
/-! ### expressions by what they give -/
variable {S : St → Prop} {e : Expr} {es : List Expr} {Pr Pr' : HP} {Prs : List HP} {pos : Pos}
end
/-- a cut between two statements -/
theorem tSeq_cut {t u : TS} {D : Ends} {σ : St} {H : Hp} (Mid : St → Hp → Prop) (k : ∀ σ' H', Mid σ' H' → u D σ' H') (h : (∀ σ' H', Mid σ' H' → u D σ' H') → t { D with nx := u D } σ H) : tSeq t u D σ H := h k
end L2

set_option Elab.async false
set_option linter.all false
set_option maxRecDepth 100000
set_option maxHeartbeats 4000000
namespace L2
open PySem PySem.Spec PyProof.Rows
/-! ### an own exception class with an __init__ of its own: made, given attributes, raised -/
/-- it is made by newId, and no own class above it has an __init__ -/
def xnIn (K : PySem.W.Frag) (C : Addr) (chain : List Value) (maker : String) : Bool := (K.lookup C).any fun o =>
  o.slots[4]? == some (some (.builtin maker)) && (match o.data with | .cls cd => PySem.W.tailIn K chain (cd.mro.drop 1) | _ => false)
theorem xn_cls {K : PySem.W.Frag} {h : Heap} {C : Addr} {T : String} {chain : List Value} {maker : String} (X : K.In h) (q : PySem.W.ktsIn K C T = true) (n : xnIn K C chain maker = true) :
    ∃ nm qn N bs bm hdct sn sub ab col dd k0 k1 k2 k3 k5, h.get? C = some (excClassObj nm qn C N bs bm hdct sn sub ab col dd k0 k1 k2 k3 k5 maker) ∧ bm.contains (.type "BaseException") = true ∧ bm.contains (.type T) = true ∧ OwnTail h chain bm := by
  obtain ⟨nm, qn, N, bs, bm, hdct, sn, sub, ab, col, dd, k0, k1, k2, k3, k5, mk, hC, hB, hT⟩ := PySem.W.kts_cls X q
  unfold xnIn at n
  cases e : K.lookup C with
  | none => rw [e] at n; cases n
  | some o =>
    rw [e] at n
    have e2 := X _ _ e
    rw [hC] at e2
    cases e2
    have n : ((some (some (Value.builtin mk)) : Option (Option Value)) == some (some (.builtin maker)) && PySem.W.tailIn K chain bm) = true := n
    rw [Bool.and_eq_true] at n
    have e3 : mk = maker := by
      have := n.1
      simpa using this
    subst e3
    exact ⟨nm, qn, N, bs, bm, hdct, sn, sub, ab, col, dd, k0, k1, k2, k3, k5, hC, hB, hT, PySem.W.tail_of_in X n.2⟩
section
variable {prog : Program} {w : World} {A : Around} {E : Value → Shared → Prop} {h : Heap} {g : Array GenState} {d : Drawn} {t : Nat} {os : OsState} {K : PySem.W.Frag}
  {nm q : Str} {C N a : Addr} {bs bm : List Value} {hdct : Bool} {sn : List Str} {sub : List Value} {ab : Bool} {col : Option Bool} {dd : Option Addr} {k0 k1 k2 k3 k5 : Option Value}
abbrev xObj (C : Addr) (dx : Option Addr) (t : Addr) : Obj := { cls := .ref C, dict := dx, data := .fields #[.ref t, .none, .none, .none, .bool false, .none] }
/-- C(..): the object stands, its own __init__ is called -/
theorem x_call {rest : List Value} {f : Addr} {Q : Value → Shared → Prop} (X : K.In h) (T : OwnTail h veChain bm) (hC : h.get? C = some (excClassObj nm q C N bs bm hdct sn sub ab col dd k0 k1 k2 k3 k5 "ValueError.__new__"))
    (hi : PySem.W.findIn K (.ref C) "__init__" = some (some (.ref f))) (hf : PySem.W.typeIn K (.ref f) = some (.type "function")) (hl : rest.length ≤ sizeLine)
    (z : ∀ h' e t', (∀ b o, h.get? b = some o → h'.get? b = some o) → h.objs.size ≤ e → h'.get? e = some (xObj C none t') →
      wpAny (model prog w) (A.under (.builtin "type.__call__" ⟨.ref C :: rest, []⟩)) (call (.ref f) (.ref e :: rest)) (fun r s' => r = .none ∧ Q (.ref e) s') E ⟨h', g, d, t, os⟩) :
    wpAny (model prog w) A (call (.ref C) rest) Q E ⟨h, g, d, t, os⟩ := by
  have V := PySem.F.excBase_ValueError
  have l1 := tc_lookup
  have l2 := tc_bind (.ref C)
  have hT : (⟨h, g, d, t, os⟩ : Shared).TypeIs (.ref C) "type" := ⟨_, hC, rfl⟩
  refine wpAny_call (codeAny_of_tree (show wpAny _ _ (callAny (.ref C) _) _ _ _ from ?_))
  repeat (any_goals (first | with_reducible refine wpAny_loadPart_at hC ?_ | assumption | wp_step))
  refine And.intro rfl (codeAny_call_builtin_at (Code.quiet_builtin _ (by decide +kernel)) entry_typeCall (wpAny_check_type_call_sub hC ?_))
  repeat (first | with_reducible refine wpAny_madeBy_exc hC ?_ | with_reducible refine wpAny_loadPart_at hC ?_ | wp_step)
  refine codeAny_call_builtin_code (Code.quiet_builtin _ V.quiet) (wpAny_check_new_subT V T hC (codeAny_exc_new_subT V T hC ?_ hl))
  show wpAny _ _ _ _ _ _
  have k2 : ∀ b o, h.get? b = some o → ((h.push { cls := .type "tuple", data := .seq rest.toArray }).push (xObj C none h.objs.size)).get? b = some o := fun b o e => Heap.get?_push_of_some _ (Heap.get?_push_of_some _ e)
  have he : ((h.push { cls := .type "tuple", data := .seq rest.toArray }).push (xObj C none h.objs.size)).get? (h.objs.size + 1) = some (xObj C none h.objs.size) := by heap_get
  have hC2 := k2 _ _ hC
  have X2 := X.keeps k2
  have own : (Value.ref C :: bm).contains (.ref C) = true := by simp
  unfold isInstance
  repeat (first | with_reducible refine wpAny_loadPart_at he ?_ | wp_step)
  refine wpAny_isSubtype_exc hC2 ?_
  rw [own]
  repeat (first | with_reducible refine wpAny_loadPart_at he ?_ | wp_step)
  show wpAny _ _ (typeLookup (.ref C) _) _ _ _
  refine (PySem.W.looks_findIn X2 hi).at ?_
  refine wpAny_holding (wpAny_bind ((PySem.W.bind_fn X2 _ hf).at ?_))
  refine wpAny_bind (wpAny_mono (z _ (h.objs.size + 1) _ k2 (Nat.le_succ _) he) (fun r s' hr => ?_) fun _ _ x => x)
  obtain ⟨rfl, hQ⟩ := hr
  wp_walk
  exact hQ
/-- the __init__ of ValueError, called on it -/
theorem x_base {e t0 : Addr} {dx : Option Addr} {rest : List Value} {Q : Value → Shared → Prop} (T : OwnTail h veChain bm) (hC : h.get? C = some (excClassObj nm q C N bs bm hdct sn sub ab col dd k0 k1 k2 k3 k5 "ValueError.__new__"))
    (he : h.get? e = some (xObj C dx t0)) (hl : rest.length ≤ sizeLine)
    (z : ∀ h' t', (∀ b o, b ≠ e → h.get? b = some o → h'.get? b = some o) → h'.get? e = some (xObj C dx t') → Q .none ⟨h', g, d, t, os⟩) :
    wpAny (model prog w) A (call (.builtin "ValueError.__init__") (.ref e :: rest)) Q E ⟨h, g, d, t, os⟩ := by
  have V := PySem.F.excBase_ValueError
  refine wpAny_call (codeAny_call_builtin V.init.plain V.initEntry (wpAny_check_init_subT V T hC he rfl ?_))
  wp_walk
  have ne : e ≠ h.objs.size := Nat.ne_of_lt (Heap.lt_size he)
  refine z _ h.objs.size (fun b o n e1 => ?_) ?_
  · rw [Heap.get?_update_other _ _ (Ne.symm n)]
    exact Heap.get?_push_of_some _ e1
  · rw [Heap.get?_update_self _ (Heap.get?_push_of_some _ he) rfl]
    rfl
end
end L2

set_option Elab.async false
set_option linter.all false
set_option maxRecDepth 100000
set_option maxHeartbeats 4000000
namespace L2
open PySem PySem.Spec PyProof.Rows
theorem refuse_tail {h : Heap} {chain bm : List Value} {self : Value} {what : Str} (T : OwnTail h chain bm) (p : refuseLoop self what chain = pure ()) : refuseLoop self what bm = pure () := by
  induction T with
  | base => exact p
  | own _ _ _ _ ih => rw [refuseLoop_ref]; exact ih
section
variable {prog : Program} {w : World} {A : Around} {E : Value → Shared → Prop} {h : Heap} {g : Array GenState} {d : Drawn} {t : Nat} {os : OsState} {K : PySem.W.Frag}
  {nm q : Str} {C N a : Addr} {bs bm : List Value} {sn : List Str} {sub : List Value} {ab : Bool} {col : Option Bool} {dd : Option Addr} {k0 k1 k2 k3 k5 : Option Value}
/-- its first attribute is stored: the dict is laid -/
theorem x_store {e t0 : Addr} {name : Str} {v : Value} {Q : Unit → Shared → Prop} (X : K.In h) (T : OwnTail h veChain bm) (hC : h.get? C = some (excClassObj nm q C N bs bm true sn sub ab col dd k0 k1 k2 k3 k5 "ValueError.__new__"))
    (hs : PySem.W.findIn K (.ref C) "__setattr__" = some (some (.builtin "object.__setattr__"))) (hn : PySem.W.findIn K (.ref C) name = some none) (hm : PySem.W.mroIn K C (.type "object") = some true) (he : h.get? e = some (xObj C none t0))
    (z : ∀ h' tk, (∀ b o, b ≠ e → h.get? b = some o → h'.get? b = some o) → h'.get? e = some (xObj C (some h.objs.size) t0) → h'.Ns1 h.objs.size (fun y => if y = name then some v else none) → Q () ⟨h', g, d, tk, os⟩) :
    wpAny (model prog w) A (setAttr (.ref e) name v) Q E ⟨h, g, d, t, os⟩ := by
  have SF := PySem.F.store_ValueError
  have J : PySem.W.InstAt h e (xObj C none t0) C none := ⟨he, rfl, rfl, True.intro⟩
  have Jt := J.type (M := model prog w)
  have L2 := PySem.W.looks_findIn (M := model prog w) X hn
  have hp := refuse_tail (self := .ref e) (what := "__setattr__") T (SF.passes (.ref e))
  refine PySem.W.set_plain (s := ⟨h, g, d, t, os⟩) X J hs ?_
  refine codeAny_call_builtin SF.slot.plain SF.entry (PySem.W.check_slot (i := "object.__setattr__") (self := .ref e) SF.kind SF.split (Jt.andThen (PySem.W.looks_mroIn X hm)) (SF.args (.ref e) _ v) ?_)
  rw [PySem.W.osa_eq, refuse_eq]
  refine wpAny_bind (wpAny_bind (Jt.at (wpAny_bind (wpAny_mroOf_exc hC ?_))))
  rw [refuseLoop_ref, hp]
  refine wpAny_pure (wpAny_bind (Jt.at (wpAny_bind (L2.at (wpAny_bind (wpAny_pure ?_))))))
  have hx1 : (h.push { cls := .type "dict", data := .dict #[] }).get? e = some (xObj C none t0) := Heap.get?_push_of_some _ he
  have ne : e ≠ h.objs.size := Nat.ne_of_lt (Heap.lt_size he)
  refine wpAny_bind (wpAny_pure (wpAny_bind (wpAny_bind (wpAny_loadPart he ?_))))
  refine wpAny_bind (wpAny_bind (wpAny_load hC (wpAny_pure ?_)))
  refine wpAny_bind (wpAny_alloc' (wpAny_bind (wpAny_update' hx1 (wpAny_pure ?_))))
  have up := Heap.get?_update_self (fun o : Obj => { o with dict := some h.objs.size }) hx1 rfl
  have gd : ((h.push { cls := .type "dict", data := .dict #[] }).update e fun o => { o with dict := some h.objs.size }).get? h.objs.size = some { cls := .type "dict", data := .dict #[] } :=
    (Heap.get?_update_other _ _ ne).trans (Heap.get?_push_size h rfl)
  have nd : ((h.push { cls := .type "dict", data := .dict #[] }).update e fun o => { o with dict := some h.objs.size }).Ns h.objs.size (fun _ => none) := ⟨_, #[], _, gd, rfl, fun _ y => absurd y (by simp), fun _ => rfl⟩
  refine wpAny_bind (wpAny_pure (wpAny_bind (wpAny_nsSet1 (Heap.Ns1.of_empty nd) fun h' n' sb => ?_)))
  obtain ⟨oD, eD, pD, aD, dD, cD⟩ := n'.count (PySem.Within.cons name v PySem.Within.nil)
  refine wpAny_bind (wpAny_lookBehind aD (by rw [dD]; exact pastItsLine_dict (Nat.le_trans cD (by rw [List.length_cons, List.length_nil, sizeLine_eq]; omega))) (wpAny_pure ?_))
  exact z h' _ (fun b o n e1 => (sb.2 b (Nat.ne_of_lt (Heap.lt_size e1))).trans ((Heap.get?_update_other _ _ (Ne.symm n)).trans (Heap.get?_push_of_some _ e1))) ((sb.2 e ne).trans up) n'
end
end L2

set_option Elab.async false
set_option linter.all false
set_option maxRecDepth 100000
set_option maxHeartbeats 4000000
namespace L2
open PySem PySem.Spec PyProof.Rows
section
variable {prog : Program} {w : World} {A : Around} {E : Value → Shared → Prop} {h : Heap} {g : Array GenState} {d : Drawn} {t : Nat} {os : OsState} {K : PySem.W.Frag} {C a dx : Addr} {o : Obj} {mA : Str → Option Value} {name : Str} {v : Value}
/-- an attribute of its own dict is read -/
theorem x_read {b : Bool} {Q : Value → Shared → Prop} (X : K.In h) (S : XCls K C) (hd : PySem.W.hasDictIn K C = true) (hn : PySem.W.findIn K (.ref C) name = some none)
    (ha : h.get? a = some o) (hc : o.cls = .ref C) (hx : o.dict = some dx) (hf : PySem.W.notCls o = true) (n1 : h.Ns1 dx mA) (hv : mA name = some v) (hh : PySem.W.handedIn v = true) (z : Q v ⟨h, g, d, t + 1, os⟩) :
    wpAny (model prog w) A (getAttr (.ref a) name b) Q E ⟨h, g, d, t, os⟩ := by
  obtain ⟨od, ho, hl⟩ := lookIn_ns n1
  have J : PySem.W.InstAt h a o C (some od) := ⟨ha, hc, hf, by rw [hx]; exact ho⟩
  obtain ⟨nm, qn, N, bs, bm, hdct, sn, sub, ab, col, dd, k0, k1, k2, k3, k5, newId, hC, hB, hO⟩ := PySem.W.kts_cls X S.ex
  have f3 := F.attr_ValueError.ga.bind (.ref a)
  have n2 : (Value.builtin "BaseException.__getattribute__" == Value.builtin "object.__getattribute__") = false := by decide +kernel
  have n3 : (onTheHeap (Value.ref C) && Value.builtin "BaseException.__getattribute__" == Value.builtin "object.__getattribute__") = false := by rw [n2]; rfl
  have L0 := J.type (M := model prog w)
  have L1 := PySem.W.looks_findIn (M := model prog w) X S.ga
  have L2 := PySem.W.looks_findIn (M := model prog w) X S.gt
  have L3 := PySem.W.looks_find (M := model prog w) X J (PySem.W.findObj_own hd hn rfl (by rw [hl, hv]))
  unfold getAttr
  refine wpAny_bind (wpAny_mkText ?_)
  repeat (any_goals (first | assumption | with_reducible refine L0.at ?_ | with_reducible refine L1.at ?_ | with_reducible refine L2.at ?_ | wp_step))
  rw [show (b && onTheHeap (Value.builtin "BaseException.__getattribute__")) = false from Bool.and_false _, if_neg (by decide)]
  repeat (any_goals (first | assumption | wp_step))
  refine codeAny_call_builtin F.attr_ValueError.ga.plain F.entry_bexc_ga (xc_check hC hB ha hc ?_)
  repeat (any_goals (first | assumption | with_reducible refine L0.at ?_ | with_reducible refine L3.at ?_ | wp_step))
  show wpAny _ _ (handedOut v) _ _ _
  rw [PySem.W.handedOut_of hh]
  exact wpAny_pure z
end
end L2

set_option Elab.async false
set_option linter.all false
set_option maxRecDepth 100000
set_option maxHeartbeats 4000000
namespace L2
open PySem PySem.Spec PyProof.Rows
/-- what is tracked at a is let go -/
def del (H : Hp) (a : Addr) : Hp := fun b => if b = a then none else H b
theorem del_same {H : Hp} {a : Addr} : del H a a = none := by unfold del; rw [if_pos rfl]
theorem del_ne {H : Hp} {a b : Addr} (n : b ≠ a) : del H a b = H b := by unfold del; rw [if_neg n]
theorem del_none {H : Hp} {a b : Addr} (e : H b = none) : del H a b = none := by
  unfold del
  split
  · rfl
  · exact e
theorem Inv.forget {X : Cx} {pins : List (Addr × Obj)} {σ : St} {H : Hp} {s : Shared} {a : Addr} {φ : Heap → Prop} (I : Inv X pins σ H s) (ha : H a = some (.ext φ)) : Inv X pins σ (del H a) s := by
  have go : ∀ b o, H b = some o → (∀ ψ, o ≠ .ext ψ) → del H a b = some o := fun b o e n => by
    rw [del_ne]
    · exact e
    · intro z
      rw [z, ha] at e
      cases e
      exact n φ rfl
  refine ⟨I.ok, I.os, I.bare, ⟨I.base.keep, I.base.slot, fun b o e n hx => del_none (I.base.free b o e n hx), I.base.there, fun b xs e => go _ _ (I.base.tups b xs e) (fun _ z => nomatch z), fun b u v e => go _ _ (I.base.frzs b u v e) (fun _ z => nomatch z), fun b ps e => ?_⟩,
    I.loc, I.cell, del_none I.free, fun y c e => del_none (I.freeC y c e), fun p hp => ?_, fun b u e => ?_, I.len⟩
  · obtain ⟨more, e1⟩ := I.base.tbls b ps e
    exact ⟨more, go _ _ e1 (fun _ z => nomatch z)⟩
  · obtain ⟨e, n, r⟩ := I.pin p hp
    exact ⟨e, del_none n, r⟩
  · have hb : b ≠ a := fun z => by rw [z, del_same] at e; cases e
    rw [del_ne hb] at e
    exact (I.hok b u e).stay (fun _ _ _ q => q) (fun c q => go _ _ q (fun _ z => nomatch z)) fun c xs q => go _ _ q (fun _ z => nomatch z)
/-- made by its class, not yet raised -/
def XMade (a C : Addr) (dx : Option Addr) : HO := .ext fun h => ∃ t, h.get? a = some (xObj C dx t)
theorem xmade_ok {P : Program} {w : World} {H : Hp} {h : Heap} {a C t : Addr} {dx : Option Addr} (e : h.get? a = some (xObj C dx t)) : ObjOk P w H h a (XMade a C dx) :=
  ⟨⟨t, e⟩, ⟨_, e⟩, fun _ _ p k => by obtain ⟨t', e'⟩ := p; exact ⟨t', k _ e'⟩⟩
end L2

set_option Elab.async false
set_option linter.all false
set_option maxRecDepth 100000
set_option maxHeartbeats 4000000
namespace L2
open PySem PySem.Spec PyProof.Rows
/-- what the fragment says of an exception's class and of a name that no class of it has -/
structure XFld (K : PySem.W.Frag) (C : Addr) (f : Str) : Prop where
  cl : XCls K C
  hd : PySem.W.hasDictIn K C = true
  no : PySem.W.findIn K (.ref C) f = some none
section
variable {X : Cx} {o e value : Expr} {f : Str} {pos pos' tpos : Pos} {ta tv : TE}
/-- e.f, an attribute of a caught exception -/
def tFldX (K : PySem.W.Frag) (ta : TE) (f : Str) : TE := fun σ H Q => ta σ H fun x H1 => ∃ a C d fs v, x = .ref a ∧ H1 a = some (XObj a (.ref C) (some d)) ∧ H1 d = some (.xd fs) ∧ XFld K C f ∧ fs.lookup f = some v ∧ Q v H1
theorem pe_fldX (he : PE X e ta) (hb : attributeBase e f X.env (eval e X.env) = eval e X.env) : PE X (.Attribute e f pos) (tFldX X.K ta f) := by
  intro pins s σ H Q I h
  refine attr_of hb (thn (he pins s σ H _ I h) fun u s1 ⟨x, H1, I1, rx, a, C, d, fs, v, ex, ea, ed, c, l, q⟩ => ?_)
  subst ex
  obtain rfl : u = Value.ref a := rx
  obtain ⟨⟨ob, vs, e1, e2, e3, e4⟩, _⟩ := I1.hok a _ ea
  obtain ⟨mA, n1, r⟩ := (show ObjOk X.prog X.w H1 s1.heap d (.xd fs) from I1.hok d _ ed)
  obtain ⟨u', hu, ru⟩ := RelO.some_of (v := v) (o := mA f) (by rw [← l]; exact r f)
  have nc : PySem.W.notCls ob = true := by unfold PySem.W.notCls; rw [e4]
  exact x_read (h := s1.heap) (g := s1.gens) (d := s1.drawn) (t := s1.toks) (os := s1.os) I1.kIn c.cl c.hd c.no e1 e2 e3 nc n1 hu (handed_of ru) ⟨v, H1, I1.tok _, ru, q⟩
end
end L2

set_option Elab.async false
set_option linter.all false
set_option maxRecDepth 100000
set_option maxHeartbeats 4000000
namespace L2
open PySem PySem.Spec PyProof.Rows
/-- what the fragment says of a class of exceptions that is made with an __init__ of its own -/
structure XMk (K : PySem.W.Frag) (C : Addr) : Prop where
  kts : PySem.W.ktsIn K C "object" = true
  xn : xnIn K C veChain "ValueError.__new__" = true
  sa : PySem.W.findIn K (.ref C) "__setattr__" = some (some (.builtin "object.__setattr__"))
  ob : PySem.W.mroIn K C (.type "object") = some true
  hd : PySem.W.hasDictIn K C = true
theorem XMk.cls {K : PySem.W.Frag} {h : Heap} {C : Addr} (m : XMk K C) (X : K.In h) :
    ∃ nm qn N bs bm sn sub ab col dd k0 k1 k2 k3 k5, h.get? C = some (excClassObj nm qn C N bs bm true sn sub ab col dd k0 k1 k2 k3 k5 "ValueError.__new__") ∧ bm.contains (.type "BaseException") = true ∧ OwnTail h veChain bm := by
  obtain ⟨nm, qn, N, bs, bm, hdct, sn, sub, ab, col, dd, k0, k1, k2, k3, k5, hC, hB, _, T⟩ := xn_cls X m.kts m.xn
  obtain ⟨cd, hc, hd⟩ := PySem.W.any_some m.hd
  have e : hdct = true := by
    unfold PySem.W.clsIn at hc
    split at hc
    · rename_i ho
      have e2 := X _ _ ho
      rw [hC] at e2
      cases hc
      injection e2 with e2
      injection e2 with _ _ e3 _
      injection e3 with e3
      rw [← e3] at hd
      exact hd
    · cases hc
  subst e
  exact ⟨nm, qn, N, bs, bm, sn, sub, ab, col, dd, k0, k1, k2, k3, k5, hC, hB, T⟩
section
variable {X : Cx} {o e value : Expr} {f : Str} {pos pos' tpos : Pos} {ta tv : TE}
/-- e.f = value, the first attribute of an exception that was made -/
def sFldX (K : PySem.W.Frag) (ta tv : TE) (f : Str) : TS := fun D σ H => tv σ H fun y H1 => ta σ H1 fun x H2 => ∃ a C, x = .ref a ∧ H2 a = some (XMade a C none) ∧ XMk K C ∧ PySem.W.findIn K (.ref C) f = some none ∧
  ∀ d, H2 d = none → d ≠ a → D.nx σ (upd (upd H2 a (XMade a C (some d))) d (.xd [(f, y)]))
theorem ps_fldX (ha : PE X o ta) (hv : PE X value tv) (hs : swapsWith value (some (.Attribute o f pos')) pos.line X.env = pure false) (hex : X.ex = [] := by rfl) : PS X (.Assign [.Attribute o f pos'] value pos) (sFldX X.K ta tv f) := by
  intro pins s σ H D I h
  refine plainObj_wpAny_Assign_Attribute (thn (hv pins s σ H _ I h) fun u s1 ⟨y, H1, I1, ry, q⟩ => thn (ha pins s1 σ H1 _ I1 q) fun ov s2 ⟨x, H2, I2, rx, a, C, ex, ea, m, n, q2⟩ => ?_) hs
  subst ex
  obtain rfl : ov = Value.ref a := rx
  obtain ⟨⟨t0, e1⟩, _⟩ := I2.hok a _ ea
  obtain ⟨nm, qn, N, bs, bm, sn, sub, ab, col, dd, k0, k1, k2, k3, k5, hC, hB, T⟩ := m.cls I2.kIn
  refine x_store (h := s2.heap) (g := s2.gens) (d := s2.drawn) (t := s2.toks) (os := s2.os) I2.kIn T hC m.sa n m.ob e1 fun h' tk kp e2 n1 => ?_
  have nd : s2.heap.objs.size ≠ a := Nat.ne_of_gt (Heap.lt_size e1)
  have fr := I2.hok.fresh (Nat.le_refl s2.heap.objs.size)
  have J := I2.write (x := a) (e := a) (t' := tk) (o := XMade a C (some s2.heap.objs.size)) (by rw [ea]; exact True.intro) (.inl rfl) kp ⟨_, e2⟩ (xmade_ok e2)
  have old : ∀ b ob, s2.heap.get? b = some ob → b ≠ s2.heap.objs.size := fun b ob z => Nat.ne_of_lt (Heap.lt_size z)
  refine ⟨σ, _, J.adoptN (D := s2.heap.objs.size) (o := .xd [(f, y)]) (by rw [upd_ne nd]; exact fr) ?_ ?_ ?_ ?_ ⟨_, n1, fun g => ?_⟩, q2 _ fr nd⟩
  · cases z : X.s₀.heap.get? s2.heap.objs.size with
    | none => rfl
    | some ob =>
      obtain ⟨ob', e3⟩ := I2.base.there _ ob z (by rw [hex]; simp)
      exact absurd rfl (old _ _ e3)
  · intro z
    obtain ⟨mm, ⟨ob, _, _, e3, _⟩, _⟩ := I2.loc
    exact old _ _ e3 z.symm
  · intro yy c z z2
    obtain ⟨_, ob, e3, _⟩ := I2.cell yy c z
    exact old _ _ e3 z2
  · intro p hp z
    obtain ⟨e3, _⟩ := I2.pin p hp
    exact old _ _ e3 z
  · show RelO (List.lookup g [(f, y)]) (if g = f then some u else none)
    by_cases z : g = f
    · subst z
      rw [if_pos rfl]
      simp only [List.lookup, beq_self_eq_true]
      exact ry
    · rw [if_neg z]
      have hb : (g == f) = false := beq_eq_false_iff_ne.mpr z
      simp only [List.lookup, hb]
      exact True.intro
end
end L2

set_option Elab.async false
set_option linter.all false
set_option maxRecDepth 100000
set_option maxHeartbeats 4000000
namespace L2
open PySem PySem.Spec PyProof.Rows
/-- a class through which the __init__ of ValueError is reached -/
structure XBase (K : PySem.W.Frag) (B : Addr) : Prop where
  ga : PySem.W.specialIn K (.ref B) "__getattribute__" = some (some (.builtin "type.__getattribute__"))
  rd : PySem.W.readsIn K B (.type "type") = true
  fc : PySem.W.findCls K (.ref B) (.type "type") "__init__" = some (.val (.builtin "ValueError.__init__"))
  hh : PySem.W.handedIn (.builtin "ValueError.__init__") = true
section
variable {X : Cx} {o e : Expr} {es : List Expr} {B : Addr} {pos apos : Pos} {ta : TE} {t : TA}
/-- B.__init__(self, ..) -/
def tInit (K : PySem.W.Frag) (B : Addr) (ta : TE) (t : TA) : TE := fun σ H Q => ta σ H fun x H1 => x = .ref B ∧ t σ H1 fun vs H2 => ∃ a C dx rest, vs = .ref a :: rest ∧ rest.length ≤ 1000 ∧ H2 a = some (XMade a C dx) ∧ XMk K C ∧ Q .non (upd H2 a (XMade a C dx))
theorem pe_init {pl : Sem Bool} (he : PE X o ta) (b : XBase X.K B) (ha : PA X (e :: es) t)
    (hst : starEach (e :: es) X.env = (false, eval e X.env) :: starEach es X.env := by rfl) (hpl : (backTo pos (starEach es X.env)).any (·.1) = false := by rfl)
    (ht : eval (.Call (.Attribute o "__init__" apos) (e :: es) [] pos) X.env = (do
      let ov ← eval o X.env
      standAt apos.atName
      let (f, first) ← holding [ov] (getMethod ov "__init__" pl)
      callWith pos f first (backTo pos (starEach (e :: es) X.env)) (backToKw pos (keywordEach [] X.env))) := by rfl) :
    PE X (.Call (.Attribute o "__init__" apos) (e :: es) [] pos) (tInit X.K B ta t) := by
  intro pins s σ H Q I h
  refine PySem.W.methodCall_KW (pl := pl) (thn (he pins s σ H _ I h) fun u s1 ⟨x, H1, I1, rx, ex, q⟩ => ?_) ht
  subst ex
  obtain rfl : u = Value.ref B := rx
  refine PySem.W.method_cls I1.kIn b.ga (PySem.W.cls_value I1.kIn b.rd b.fc b.hh ?_)
  have I1' : Inv X pins σ H1 { s1 with toks := s1.toks + 1 } := I1.tok _
  refine PyProof.Rows.callWith_method1 (first := []) (thn (ha pos pins _ σ H1 _ I1' q) fun us s2 ⟨vs, H2, I2, r, a, C, dx, rest, ev, hl, ea, m, q2⟩ => ?_) hst hpl
  subst ev
  cases r with
  | cons r1 r2 =>
    have r1' := r1
    cases r1'
    obtain ⟨⟨t0, e1⟩, _⟩ := I2.hok a _ ea
    obtain ⟨nm, qn, N, bs, bm, sn, sub, ab, col, dd, k0, k1, k2, k3, k5, hC, hB, T⟩ := m.cls I2.kIn
    refine x_base (h := s2.heap) (g := s2.gens) (d := s2.drawn) (t := s2.toks) (os := s2.os) T hC e1 (by rw [← Vals.length r2]; exact Nat.le_of_lt (small1000 hl)) fun h' t' kp e2 => ?_
    exact ⟨.non, _, I2.write (x := a) (e := a) (t' := s2.toks) (by rw [ea]; exact True.intro) (.inl rfl) kp ⟨_, e2⟩ (xmade_ok e2), rfl, q2⟩
end
end L2

set_option Elab.async false
set_option linter.all false
set_option maxRecDepth 100000
set_option maxHeartbeats 4000000
namespace L2
open PySem PySem.Spec PyProof.Rows
/-- the class has an __init__ of its own -/
structure XIni (K : PySem.W.Frag) (C f : Addr) : Prop where
  xm : XMk K C
  init : PySem.W.findIn K (.ref C) "__init__" = some (some (.ref f))
  fn : PySem.W.isFn K (.ref f) = true
  kp : PySem.W.keepIn K (.ref C) = true
section
variable {X : Cx} {CX : CXT} {k : Nat} {f C : Addr} {fd : FuncData} {ps : List Str} {sp : Sp} {E Er : XK} {ds : List Value} {dvs : List V} {x : Str} {p pos np cpos : Pos} {e : Expr} {es : List Expr} {t : TA}
theorem run_makeX {pins : List (Addr × Obj)} {σ : St} {H : Hp} {s : Shared} {Q : VK} {us : List Value} {vs : List V} (M : XIni X.K C f) (F : FnOk X.prog X.w X.K X.mg X.base CX k f fd ps sp) (hr : Room (k + 1) X.A) (hb : Binds X.K fd ps ds) (hd : Vals dvs ds)
    (hx : Passes CX X E) (I : Inv X pins σ H s) (r : Vals vs us) (hl : vs.length ≤ 1000) (hex : X.ex = [])
    (h : ∀ a, H a = none → X.s₀.heap.get? a = none → sp (.ref a :: (vs ++ dvs)) (upd H a (XMade a C none)) (fun v H2 => v = .non ∧ Q (.ref a) H2) E) :
    wpAny (model X.prog X.w) X.A (call (.ref C) us) (EP X pins σ Q) X.xe s := by
  obtain ⟨nm, qn, N, bs, bm, sn, sub, ab, col, dd, k0, k1, k2, k3, k5, hC, hB, T⟩ := M.xm.cls I.kIn
  refine x_call (h := s.heap) (g := s.gens) (d := s.drawn) (t := s.toks) (os := s.os) I.kIn T hC M.init (beq_iff_eq.mp M.fn) (by rw [← r.length]; exact Nat.le_of_lt (small1000 hl)) fun h' a t' kp hz ea => ?_
  have I2 : Inv X pins σ (upd H a (XMade a C none)) { s with heap := h' } := I.laid (t' := s.toks) kp hz (xmade_ok ea)
  have n0 : X.s₀.heap.get? a = none := by
    cases z : X.s₀.heap.get? a with
    | none => rfl
    | some ob =>
      obtain ⟨ob', e3⟩ := I.base.there _ ob z (by rw [hex]; simp)
      exact absurd (Nat.lt_of_lt_of_le (Heap.lt_size e3) hz) (Nat.lt_irrefl _)
  have hq := h a (I.hok.fresh hz) n0
  have r2 : Vals (V.ref a :: (vs ++ dvs)) (Value.ref a :: (us ++ ds)) := .cons rfl (r.append hd)
  have hl2 : (Value.ref a :: us ++ ds).length = ps.length := by
    have e := r2.length
    rw [F.len _ _ _ _ hq] at e
    exact e.symm
  refine wpAny_call (codeAny_mono (F.run _ X.stack _ _ ⟨Value.ref a :: us, []⟩ (Value.ref a :: (us ++ ds)) _ _ E (hr.make C us []) (I2.env0.make C us []) (hb _ (Value.ref a :: us) I2.kIn hl2) r2 hq) fun rr s' hq' => ?_)
  cases rr with
  | error e => exact hx pins σ _ _ e s' I2 hq'
  | ok fl =>
    cases fl with
    | ret u =>
      obtain ⟨v, H', I3, rv, ev, q3⟩ := I2.after hq'
      subst ev
      exact ⟨rv, ⟨V.ref a, H', I3, rfl, q3⟩⟩
    | next => exact False.elim hq'
    | brk => exact False.elim hq'
    | cont => exact False.elim hq'
def tMakeX (X : Cx) (C : Addr) (sp : Sp) (dvs : List V) (E : XK) (t : TA) : TE := fun σ H Q => t σ H fun vs H1 => vs.length ≤ 1000 ∧ ∀ a, H1 a = none → X.s₀.heap.get? a = none → sp (.ref a :: (vs ++ dvs)) (upd H1 a (XMade a C none)) (fun v H2 => v = .non ∧ Q (.ref a) H2) E
theorem pe_makeX (M : XIni X.K C f) (F : FnOk X.prog X.w X.K X.mg X.base CX k f fd ps sp) (hr : Room (k + 1) X.A) (hg : Gl X x) (hm : X.mg x = some (.ref C)) (hb : Binds X.K fd ps ds) (hd : Vals dvs ds) (hx : Passes CX X E)
    (ha : PA X (e :: es) t) (hex : X.ex = [] := by rfl) (hdb : (x == ("__debug__" : Str)) = false := by decide) (he : starEach (e :: es) X.env = (false, eval e X.env) :: starEach es X.env := by rfl) (hpl : (backTo pos (starEach es X.env)).any (·.1) = false := by rfl) :
    PE X (.Call (.Name x p) (e :: es) [] pos) (tMakeX X C sp dvs E t) := by
  intro pins s σ H Q I h
  refine wpAny_Call_Name_kw (ld_glob I hg hm ?_ hdb)
  refine PySem.W.callWith_K (h₀ := X.base) I.ok.mod.kin M.kp (thn (ha pos pins s σ H _ I h) fun us s1 ⟨vs, H1, I1, r, hl, q⟩ => ⟨I1.kIn, ?_⟩) he hpl
  exact run_makeX M F hr hb hd hx I1 r hl hex q
end
end L2

set_option Elab.async false
set_option linter.all false
set_option maxRecDepth 100000
set_option maxHeartbeats 4000000
namespace L2
open PySem PySem.Spec PyProof.Rows
section
variable {M : Model} {A : Around} {E : Value → Shared → Prop} {env : Env} {s : Shared} {C : Addr} {K : PySem.W.Frag}
/-- raise of an exception that was made -/
theorem x_raise {v : Sem Value} {Q : Flow → Shared → Prop} (m : XMk K C) (hh : A.handled = none)
    (h : wpAny M A v (fun u s1 => ∃ e t dx, u = .ref e ∧ K.In s1.heap ∧ s1.heap.get? e = some (xObj C dx t) ∧ E (.ref e) s1) E s) : wpAny M A (raiseStmt env (some v) none) Q E s := by
  unfold raiseStmt
  refine wpAny_bind (wpAny_mono h (fun u s1 h1 => ?_) fun _ _ x => x)
  obtain ⟨e, t, dx, rfl, X, he, hE⟩ := h1
  obtain ⟨nm, qn, N, bs, bm, sn, sub, ab, col, dd, k0, k1, k2, k3, k5, hC, hB, T⟩ := m.cls X
  have own : (Value.ref C :: bm).contains (.type "BaseException") = true := by rw [List.contains_cons, hB, Bool.or_true]
  obtain ⟨hp, g, d, tk, os⟩ := s1
  dsimp only [xObj] at he
  repeat (first | with_reducible refine wpAny_loadPart_at he ?_ | (with_reducible refine wpAny_isSubtype_exc hC ?_; rw [own]) | with_reducible refine wpAny_loadPart_at hC ?_ | wp_step)
  exact wpAny_raiseNew_none hh hE
end
section
variable {X : Cx} {C : Addr} {x : Str} {np cpos pos : Pos} {args : List Expr} {te : TE} {E : XK}
/-- raise C(..), by the rule for C(..) -/
def tRaiseI (X : Cx) (C : Addr) (Er : XK) (te : TE) : TS := fun _ σ H => te σ H fun v H2 => ∃ a dx, v = .ref a ∧ X.s₀.heap.get? a = none ∧ H2 a = some (XMade a C dx) ∧ Er (.ref C) dx (del H2 a)
theorem ps_raiseI (m : XMk X.K C) (he : PE X (.Call (.Name x np) args [] cpos) te) (hX : XOk X E) (hc : X.calm = true := by rfl) (hex : X.ex = [] := by rfl) :
    PS X (.Raise (some (.Call (.Name x np) args [] cpos)) none pos) (tRaiseI X C E te) := by
  intro pins s σ H D I h
  rw [arm_exec_Raise]
  refine wpAny_bind (wpAny_standAt (x_raise m (I.ok.hd hc) (wpAny_bind (thn (he pins s σ H _ I h) fun u s1 ⟨v, H2, I2, rv, a, dx, ev, n0, ea, q⟩ => wpAny_bind (wpAny_standAt (wpAny_pure ?_))))))
  subst ev
  obtain rfl : u = Value.ref a := rv
  obtain ⟨⟨t0, e1⟩, _⟩ := I2.hok a _ ea
  exact ⟨a, t0, dx, rfl, I2.kIn, e1, hX _ _ (raw_new (I2.forget ea) hex del_same n0 ⟨_, _, e1, rfl, rfl, rfl, rfl⟩ q)⟩
end
end L2

set_option Elab.async false
set_option linter.all false
set_option maxRecDepth 100000
set_option maxHeartbeats 4000000
namespace L2
open PySem PySem.Spec PyProof.Rows
/-! ### a def with defaults -/
structure FunD (K : PySem.W.Frag) (x qual : Str) (st : Stmt) (f : Addr) (fd : FuncData) (dfl : List Value) : Prop where
  ex : ∃ (oc : Value) (od : Option Addr) (T : Addr) (kV doc pm : Value) (an : Option Addr) (cdv ct : Value) (osl : Array (Option Value)) (tc : Value) (td : Option Addr) (tn : Nat) (tsl : Array (Option Value)),
    fd = PySem.W.fnOf x qual (defArgs st) (defBody st) (defScope st) (.ref T) kV doc pm an cdv ct ∧ K.lookup f = some ⟨oc, od, .func fd, osl⟩ ∧ PySem.W.codeIn K cdv qual = true ∧ K.lookup T = some ⟨tc, td, .seq dfl.toArray tn, tsl⟩
  kp : PySem.W.keepIn K (.ref f) = true
section
variable {P : Program} {w : World} {K : PySem.W.Frag} {mg : Str → Option Value} {base : Heap} {x qual : Str} {st : Stmt} {f : Addr} {fd : FuncData} {N ps : List Str} {k : Nat} {sp : Sp} {dfl ds : List Value}
theorem FunD.ok (F : FunD K x qual st f fd dfl) (S : FnScope N ps (defScope st)) (len : ∀ vs H Q E, sp vs H Q E → vs.length = ps.length)
    (hbody : ∀ (cdv : Value) (A : Around) (outer : List Env) (s : Shared) (H : Hp) (vs : List V) (Q : VK) (E : XK), Room k (A.deeper (envOfC qual (defScope st) s.heap.objs.size f cdv)) → sp vs H Q E →
      ∃ t, PSs (cxOf CX0 P w K mg base N qual (defScope st) f cdv A outer s H E).nox (defBody st) t ∧ t { nx := fun _ H' => Q .non H', rt := Q } (start N vs) H) : FnOk P w K mg base CX0 (k + 1) f fd ps sp := by
  obtain ⟨oc, od, T, kV, doc, pm, an, cdv, ct, osl, _, _, _, _, rfl, lk, hcd, _⟩ := F.ex
  refine fn_of lk hcd S len fun A outer s H vs Q E hr hsp => ?_
  obtain ⟨t, h, q⟩ := hbody cdv A outer s H vs Q E hr hsp
  exact ⟨t, h.nox, q⟩
theorem FunD.binds (F : FunD K x qual st f fd dfl)
    (h : ∀ (T : Addr) (kV doc pm : Value) (an : Option Addr) (cdv ct : Value) (us : List Value), (us ++ ds).length = ps.length →
      ∃ k, bindArgs (PySem.W.fnOf x qual (defArgs st) (defBody st) (defScope st) (.ref T) kV doc pm an cdv ct) ⟨us, []⟩ = seqItems? (.ref T) >>= k ∧ k (some dfl.toArray) = pure (ps.zip (us ++ ds))) : Binds K fd ps ds := by
  obtain ⟨oc, od, T, kV, doc, pm, an, cdv, ct, osl, _, _, _, _, rfl, lk, hcd, ht⟩ := F.ex
  intro s us X hl
  obtain ⟨k, h1, h2⟩ := h T kV doc pm an cdv ct us hl
  exact PySem.W.binds_K X rfl ht rfl h1 h2
theorem funD_mk {oc : Value} {od an : Option Addr} {osl : Array (Option Value)} {T : Addr} {kV doc pm cdv ct tc : Value} {td : Option Addr} {tn : Nat} {tsl : Array (Option Value)} (l : K.lookup f = some ⟨oc, od, .func (PySem.W.fnOf x qual (defArgs st) (defBody st) (defScope st) (.ref T) kV doc pm an cdv ct), osl⟩)
    (c : PySem.W.codeIn K cdv qual = true) (k : PySem.W.keepIn K (.ref f) = true) (t : K.lookup T = some ⟨tc, td, .seq dfl.toArray tn, tsl⟩) : FunD K x qual st f (PySem.W.fnOf x qual (defArgs st) (defBody st) (defScope st) (.ref T) kV doc pm an cdv ct) dfl :=
  ⟨⟨oc, od, T, kV, doc, pm, an, cdv, ct, osl, tc, td, tn, tsl, rfl, l, c, t⟩, k⟩
end
end L2

set_option Elab.async false
set_option linter.all false
set_option maxRecDepth 100000
set_option maxHeartbeats 4000000
namespace Lf
open PySem L2
def top (i : Nat) : Stmt := PySem.Challenge.pw_letterform_k04_values_refused.main.body.getD i (.Pass ⟨0, 0, 0, 0⟩)
abbrev sNamesIn : Stmt := top 15
abbrev sPartsOf : Stmt := top 16
abbrev sPartOf : Stmt := top 17
abbrev sCopyOf : Stmt := top 18
abbrev sNeed : Stmt := top 19
abbrev sNeedSigns : Stmt := top 20
abbrev sNeedBounds : Stmt := top 21
abbrev sFill : Stmt := top 23
abbrev sFilledParts : Stmt := top 24
abbrev sFilledPart : Stmt := top 25
abbrev sFilledAsk : Stmt := top 26
abbrev sFilledRows : Stmt := top 27
abbrev sValueOf : Stmt := top 28
abbrev sLawCellAt : Stmt := top 30
abbrev sLawDraw : Stmt := top 31
abbrev sLawWord : Stmt := top 32
abbrev sLawRow : Stmt := top 33
abbrev sLawValues : Stmt := top 34
abbrev sLawLine : Stmt := top 35
abbrev sLawWritten : Stmt := top 36
abbrev sLawCopy : Stmt := top 37
abbrev sLawAlone : Stmt := top 38
abbrev sLawFault : Stmt := top 39
abbrev sLawWordBad : Stmt := top 40
abbrev sLawFirst : Stmt := top 41
abbrev sLawTried : Stmt := top 42
abbrev sLaw : Stmt := top 43
abbrev sBadValueI : Stmt := inClass (top 3) 0
abbrev sFormI : Stmt := inClass (top 11) 0
abbrev sSayI : Stmt := inClass (top 12) 0
abbrev sAskI : Stmt := inClass (top 13) 0
abbrev sRowsI : Stmt := inClass (top 14) 0
structure Adr where
  (aNamesIn aPartsOf aPartOf aCopyOf aNeed aNeedSigns aNeedBounds aFill aFilledParts aFilledPart aFilledAsk aFilledRows aValueOf aLawCellAt aLawDraw aLawWord aLawRow aLawValues aLawLine aLawWritten aLawCopy aLawAlone aLawFault aLawWordBad aLawFirst aLawTried aLaw aBadValueI aFormI aSayI aAskI aRowsI : Addr)
  (dNamesIn dPartsOf dPartOf dCopyOf dNeed dNeedSigns dNeedBounds dFill dFilledParts dFilledPart dFilledAsk dFilledRows dValueOf dLawCellAt dLawDraw dLawWord dLawRow dLawValues dLawLine dLawWritten dLawCopy dLawAlone dLawFault dLawWordBad dLawFirst dLawTried dLaw dBadValueI dFormI dSayI dAskI dRowsI : FuncData)
  (cForm cSay cAsk cRows : Addr)
  (cWords cRow cLen : Addr)
  (cFormError cBadForm cBadValue cNoReading cTwofold : Addr)
structure ClsOk (K : PySem.W.Frag) (C : Addr) : Prop where
  cl : Cls K C
  ha : PySem.W.findIn K (.ref C) "__class__" = some (some (.builtin "object.__class__"))
  hn : PySem.W.specialIn K (.builtin "object.__class__") "__get__" = some (some (.builtin "getset_descriptor.__get__"))
  ht : PySem.W.takesIn K (.builtin "object.__class__") = some true
  hm : PySem.W.mroIn K C (.type "object") = some true
structure Txt (w : World) (K : PySem.W.Frag) (mg : Str → Option Value) (D : Adr) : Prop where
  fNamesIn : Fun K "names_in" "names_in" sNamesIn D.aNamesIn D.dNamesIn
  bNamesIn : Binds K D.dNamesIn ["parts"] []
  mNamesIn : mg "names_in" = some (.ref D.aNamesIn)
  fPartsOf : Fun K "parts_of" "parts_of" sPartsOf D.aPartsOf D.dPartsOf
  bPartsOf : Binds K D.dPartsOf ["pieces", "words", "most"] []
  mPartsOf : mg "parts_of" = some (.ref D.aPartsOf)
  fPartOf : Fun K "part_of" "part_of" sPartOf D.aPartOf D.dPartOf
  bPartOf : Binds K D.dPartOf ["piece", "words"] []
  mPartOf : mg "part_of" = some (.ref D.aPartOf)
  fCopyOf : Fun K "copy_of" "copy_of" sCopyOf D.aCopyOf D.dCopyOf
  bCopyOf : Binds K D.dCopyOf ["piece"] []
  mCopyOf : mg "copy_of" = some (.ref D.aCopyOf)
  fNeed : Fun K "need" "need" sNeed D.aNeed D.dNeed
  bNeed : Binds K D.dNeed ["holds", "words"] []
  mNeed : mg "need" = some (.ref D.aNeed)
  fNeedSigns : Fun K "need_signs" "need_signs" sNeedSigns D.aNeedSigns D.dNeedSigns
  bNeedSigns : Binds K D.dNeedSigns ["text", "least", "most", "what"] []
  mNeedSigns : mg "need_signs" = some (.ref D.aNeedSigns)
  fNeedBounds : Fun K "need_bounds" "need_bounds" sNeedBounds D.aNeedBounds D.dNeedBounds
  bNeedBounds : Binds K D.dNeedBounds ["part", "highest"] []
  mNeedBounds : mg "need_bounds" = some (.ref D.aNeedBounds)
  fFill : Fun K "fill" "fill" sFill D.aFill D.dFill
  bFill : Binds K D.dFill ["form", "values"] []
  mFill : mg "fill" = some (.ref D.aFill)
  fFilledParts : Fun K "filled_parts" "filled_parts" sFilledParts D.aFilledParts D.dFilledParts
  bFilledParts : Binds K D.dFilledParts ["parts", "values"] []
  mFilledParts : mg "filled_parts" = some (.ref D.aFilledParts)
  fFilledPart : Fun K "filled_part" "filled_part" sFilledPart D.aFilledPart D.dFilledPart
  bFilledPart : Binds K D.dFilledPart ["part", "values"] []
  mFilledPart : mg "filled_part" = some (.ref D.aFilledPart)
  fFilledAsk : Fun K "filled_ask" "filled_ask" sFilledAsk D.aFilledAsk D.dFilledAsk
  bFilledAsk : Binds K D.dFilledAsk ["ask", "values"] []
  mFilledAsk : mg "filled_ask" = some (.ref D.aFilledAsk)
  fFilledRows : Fun K "filled_rows" "filled_rows" sFilledRows D.aFilledRows D.dFilledRows
  bFilledRows : Binds K D.dFilledRows ["rows", "values"] []
  mFilledRows : mg "filled_rows" = some (.ref D.aFilledRows)
  fValueOf : Fun K "value_of" "value_of" sValueOf D.aValueOf D.dValueOf
  bValueOf : Binds K D.dValueOf ["part", "values"] []
  mValueOf : mg "value_of" = some (.ref D.aValueOf)
  fLawCellAt : Fun K "_law_cell_at" "_law_cell_at" sLawCellAt D.aLawCellAt D.dLawCellAt
  bLawCellAt : Binds K D.dLawCellAt ["script", "k"] []
  mLawCellAt : mg "_law_cell_at" = some (.ref D.aLawCellAt)
  fLawDraw : Fun K "_law_draw" "_law_draw" sLawDraw D.aLawDraw D.dLawDraw
  bLawDraw : Binds K D.dLawDraw ["script", "k"] []
  mLawDraw : mg "_law_draw" = some (.ref D.aLawDraw)
  fLawWord : Fun K "_law_word" "_law_word" sLawWord D.aLawWord D.dLawWord
  bLawWord : Binds K D.dLawWord ["script", "k", "piece"] []
  mLawWord : mg "_law_word" = some (.ref D.aLawWord)
  fLawRow : Fun K "_law_row" "_law_row" sLawRow D.aLawRow D.dLawRow
  bLawRow : Binds K D.dLawRow ["script", "k", "pieces"] []
  mLawRow : mg "_law_row" = some (.ref D.aLawRow)
  fLawValues : Fun K "_law_values" "_law_values" sLawValues D.aLawValues D.dLawValues
  bLawValues : Binds K D.dLawValues ["script", "start", "pieces"] []
  mLawValues : mg "_law_values" = some (.ref D.aLawValues)
  fLawLine : Fun K "_law_line" "_law_line" sLawLine D.aLawLine D.dLawLine
  bLawLine : Binds K D.dLawLine ["pieces", "values"] []
  mLawLine : mg "_law_line" = some (.ref D.aLawLine)
  fLawWritten : Fun K "_law_written" "_law_written" sLawWritten D.aLawWritten D.dLawWritten
  bLawWritten : Binds K D.dLawWritten ["pieces", "values"] []
  mLawWritten : mg "_law_written" = some (.ref D.aLawWritten)
  fLawCopy : Fun K "_law_copy" "_law_copy" sLawCopy D.aLawCopy D.dLawCopy
  bLawCopy : Binds K D.dLawCopy ["values"] []
  mLawCopy : mg "_law_copy" = some (.ref D.aLawCopy)
  fLawAlone : Fun K "_law_alone" "_law_alone" sLawAlone D.aLawAlone D.dLawAlone
  bLawAlone : Binds K D.dLawAlone ["e"] []
  mLawAlone : mg "_law_alone" = some (.ref D.aLawAlone)
  fLawFault : Fun K "_law_fault" "_law_fault" sLawFault D.aLawFault D.dLawFault
  bLawFault : Binds K D.dLawFault ["values", "way", "cell", "names"] []
  mLawFault : mg "_law_fault" = some (.ref D.aLawFault)
  fLawWordBad : Fun K "_law_word_bad" "_law_word_bad" sLawWordBad D.aLawWordBad D.dLawWordBad
  bLawWordBad : Binds K D.dLawWordBad ["piece", "values"] []
  mLawWordBad : mg "_law_word_bad" = some (.ref D.aLawWordBad)
  fLawFirst : Fun K "_law_first" "_law_first" sLawFirst D.aLawFirst D.dLawFirst
  bLawFirst : Binds K D.dLawFirst ["pieces", "values"] []
  mLawFirst : mg "_law_first" = some (.ref D.aLawFirst)
  fLawTried : Fun K "_law_tried" "_law_tried" sLawTried D.aLawTried D.dLawTried
  bLawTried : Binds K D.dLawTried ["form", "values"] []
  mLawTried : mg "_law_tried" = some (.ref D.aLawTried)
  fLaw : Fun K "law" "law" sLaw D.aLaw D.dLaw
  bLaw : Binds K D.dLaw ["script"] []
  mLaw : mg "law" = some (.ref D.aLaw)
  fBadValueI : ∃ dfl, FunD K "__init__" "BadValue.__init__" sBadValueI D.aBadValueI D.dBadValueI dfl
  bBadValueI : Binds K D.dBadValueI ["self", "name", "words"] []
  eBadValueI : ∃ t0, Binds K D.dBadValueI ["self", "name", "words"] [.str "is refused" t0]
  fFormI : Fun K "__init__" "Form.__init__" sFormI D.aFormI D.dFormI
  bFormI : Binds K D.dFormI ["self", "pieces"] []
  fSayI : Fun K "__init__" "Say.__init__" sSayI D.aSayI D.dSayI
  bSayI : Binds K D.dSayI ["self", "piece"] []
  fAskI : Fun K "__init__" "Ask.__init__" sAskI D.aAskI D.dAskI
  bAskI : Binds K D.dAskI ["self", "piece"] []
  fRowsI : Fun K "__init__" "Rows.__init__" sRowsI D.aRowsI D.dRowsI
  bRowsI : Binds K D.dRowsI ["self", "piece"] []
  kForm : ClsOk K D.cForm
  mkForm : Mk K D.cForm D.aFormI
  mgForm : mg "Form" = some (.ref D.cForm)
  nFormPieces : NoAttr K D.cForm "pieces"
  nFormPlan : NoAttr K D.cForm "plan"
  kSay : ClsOk K D.cSay
  mkSay : Mk K D.cSay D.aSayI
  mgSay : mg "Say" = some (.ref D.cSay)
  nSayText : NoAttr K D.cSay "text"
  kAsk : ClsOk K D.cAsk
  mkAsk : Mk K D.cAsk D.aAskI
  mgAsk : mg "Ask" = some (.ref D.cAsk)
  nAskLeast : NoAttr K D.cAsk "least"
  nAskMost : NoAttr K D.cAsk "most"
  nAskName : NoAttr K D.cAsk "name"
  nAskSigns : NoAttr K D.cAsk "signs"
  kRows : ClsOk K D.cRows
  mkRows : Mk K D.cRows D.aRowsI
  mgRows : mg "Rows" = some (.ref D.cRows)
  nRowsGap : NoAttr K D.cRows "gap"
  nRowsLeast : NoAttr K D.cRows "least"
  nRowsMost : NoAttr K D.cRows "most"
  nRowsName : NoAttr K D.cRows "name"
  nRowsParts : NoAttr K D.cRows "parts"
  isSaySay : PySem.W.kitOne K (.ref D.cSay) (.ref D.cSay) = some true
  isSayAsk : PySem.W.kitOne K (.ref D.cSay) (.ref D.cAsk) = some false
  isAskSay : PySem.W.kitOne K (.ref D.cAsk) (.ref D.cSay) = some false
  isAskAsk : PySem.W.kitOne K (.ref D.cAsk) (.ref D.cAsk) = some true
  isRowsSay : PySem.W.kitOne K (.ref D.cRows) (.ref D.cSay) = some false
  isRowsAsk : PySem.W.kitOne K (.ref D.cRows) (.ref D.cAsk) = some false
  isStrList : PySem.W.kitOne K (.type "str") (.type "list") = some false
  isListList : PySem.W.kitOne K (.type "list") (.type "list") = some true
  isDictDict : PySem.W.kitOne K (.type "dict") (.type "dict") = some true
  gSigns : ∃ t, mg "SIGNS" = some (.str SIGNS t)
  gWords : mg "FORM_WORDS" = some (.ref D.cWords)
  gRow : mg "ROW_WORDS" = some (.ref D.cRow)
  gLen : mg "LENGTHS" = some (.ref D.cLen)
  tWords : ∃ t1 t2 t3 sl, K.lookup D.cWords = some ⟨.type "tuple", none, .seq #[.str "say" t1, .str "ask" t2, .str "rows" t3] 0, sl⟩
  tRow : ∃ t1 t2 sl, K.lookup D.cRow = some ⟨.type "tuple", none, .seq #[.str "say" t1, .str "ask" t2] 0, sl⟩
  tLen : ∃ t1 t2 t3 u1 u2 u3 ep, K.lookup D.cLen = some ⟨.type "dict", none, .dict #[⟨PyData.keyHash w.params "say", .str "say" t1, .int 2 u1⟩, ⟨PyData.keyHash w.params "ask", .str "ask" t2, .int 5 u2⟩, ⟨PyData.keyHash w.params "rows", .str "rows" t3, .int 6 u3⟩] ep, #[]⟩
  mgFormError : mg "FormError" = some (.ref D.cFormError)
  mgBadForm : mg "BadForm" = some (.ref D.cBadForm)
  mgBadValue : mg "BadValue" = some (.ref D.cBadValue)
  mgNoReading : mg "NoReading" = some (.ref D.cNoReading)
  mgTwofold : mg "Twofold" = some (.ref D.cTwofold)
  xcBadValue : XCls K D.cBadValue
  emBadValue : PySem.W.exmOne K (.ref D.cBadValue) (.ref D.cFormError) = some true
  isBadValueFormError : PySem.W.kitOne K (.ref D.cBadValue) (.ref D.cFormError) = some true
  isBadValueBadForm : PySem.W.kitOne K (.ref D.cBadValue) (.ref D.cBadForm) = some false
  isBadValueBadValue : PySem.W.kitOne K (.ref D.cBadValue) (.ref D.cBadValue) = some true
  isBadValueNoReading : PySem.W.kitOne K (.ref D.cBadValue) (.ref D.cNoReading) = some false
  isBadValueTwofold : PySem.W.kitOne K (.ref D.cBadValue) (.ref D.cTwofold) = some false
  isBadValueVE : PySem.W.kitOne K (.ref D.cBadValue) (.type "ValueError") = some true
  xiBadValue : XIni K D.cBadValue D.aBadValueI
  nBadValueName : PySem.W.findIn K (.ref D.cBadValue) "name" = some none
  xbFormError : XBase K D.cFormError
  zValueError : mg "ValueError" = none
  zLen : mg "len" = none
  zRange : mg "range" = none
  zIsinstance : mg "isinstance" = none
  zSet : mg "set" = none
  zAll : mg "all" = none
  zList : mg "list" = none
  zDict : mg "dict" = none
end Lf

set_option Elab.async false
set_option linter.all false
set_option maxRecDepth 100000
set_option maxHeartbeats 4000000
namespace Lf
open PySem L2
section
variable {P : Program} {w : World} {K : PySem.W.Frag} {mg : Str → Option Value} {base : Heap} {D : Adr}
theorem scNeed : FnScope ["holds", "words"] ["holds", "words"] (defScope sNeed) := ⟨rfl, rfl, rfl, by decide +kernel, rfl, by decide +kernel, by decide +kernel⟩
def spNeed : Sp := fun vs H Q _ => ∃ wd, vs = [.bl true, wd] ∧ Q .non H
theorem ok_need (T : Txt w K mg D) : FnOk P w K mg base CX0 1 D.aNeed D.dNeed ["holds", "words"] spNeed := by
  refine T.fNeed.ok scNeed (fun vs H Q E h => ?_) (fun cdv A outer s H vs Q E hr h => ?_)
  · obtain ⟨wd, rfl, _⟩ := h; rfl
  · obtain ⟨wd, rfl, q⟩ := h
    refine ⟨_, pss_one (ps_if (pt_not (pt_val (pv 0))) pss_never pss_nil), ?_⟩
    exact ⟨_, rfl, _, rfl, iteF q⟩
theorem scNS : FnScope ["text", "least", "most", "what"] ["text", "least", "most", "what"] (defScope sNeedSigns) := ⟨rfl, rfl, rfl, by decide +kernel, rfl, by decide +kernel, by decide +kernel⟩
def spNS : Sp := fun vs H Q _ => ∃ (z : Str) (lo hi : Nat) (wt : Str), vs = [.str z, .int lo, .int hi, .str wt] ∧ SignsOk z lo hi ∧ hi ≤ 100 ∧ wt.length ≤ 100 ∧ ∀ H', Same H H' → Q .non H'
theorem ok_NS (T : Txt w K mg D) : FnOk P w K mg base CX0 2 D.aNeedSigns D.dNeedSigns ["text", "least", "most", "what"] spNS := by
  have G : FnOk P w K mg base CX0 1 D.aNeed D.dNeed ["holds", "words"] spNeed := ok_need T
  obtain ⟨tS, hS⟩ := T.gSigns
  refine T.fNeedSigns.ok scNS (fun vs H Q E h => ?_) (fun cdv A outer s H vs Q E hr h => ?_)
  · obtain ⟨z, lo, hi, wt, rfl, _⟩ := h; rfl
  · obtain ⟨z, lo, hi, wt, rfl, ok, h100, hw, q⟩ := h
    have hz : z.length ≤ sizeLine := small (by have := ok.hi; omega)
    refine ⟨_, pss_cons (ps_expr (pe_call G hr rfl T.mNeed T.fNeed.kp T.bNeed .nil pass0 (pa_cons (pe_chain op_le op_le (pv 1) (pe_callB call_len_str rfl T.zLen PySem.boot_len (pa_cons (pv 0) pa_nil)) (pv 2)) (pa_cons (pe_fstr (pv 3)) pa_nil))))
      (pss_one (ps_expr (pe_call G hr rfl T.mNeed T.fNeed.kp T.bNeed .nil pass0 (pa_cons (pe_callB (call_all rfl) rfl T.zAll PyProof.Rows.boot_all (pa_cons (pe_comp (cp := []) (CompScope.of (defScope sNeedSigns) ["text", "least", "most", "what"] rfl rfl (by decide +kernel)) rfl (pi_str (pv 0)) (fun _ _ _ _ _ => pts_nil)
        (fun _ _ _ _ _ => pe_cmpR op_inSign (pv 0) (pe_glob (v := .str SIGNS) rfl hS ⟨tS, rfl⟩) rfl)) pa_nil)) (pa_cons (pe_fstr (pv 3)) pa_nil))))), ?_⟩
    have hlo : (lo : Int) ≤ (z.length : Int) := by have := ok.lo; omega
    have hhi : (z.length : Int) ≤ (hi : Int) := by have := ok.hi; omega
    refine ⟨_, rfl, _, rfl, z, rfl, hz, _, _, rfl, rfl, _, rfl, iteD hlo ⟨_, rfl, _, _, rfl, rfl, _, rfl, wt, rfl, addSmall (by omega) (by decide +kernel), _, congrArg (fun b => [V.bl b, _]) (decide_eq_true hhi), ?_⟩⟩
    refine ⟨_, rfl, z, rfl, comp_str (fun i ys H' => H' = H ∧ ys = List.replicate i (V.bl true)) ⟨rfl, rfl⟩ (fun i ys H' _ e => by rw [e.2, List.length_replicate]; exact Nat.le_refl _) hz (fun i c ys H' hc e => ?_) (fun ys H' e p hp => ?_)⟩
    · obtain ⟨rfl, rfl⟩ := e
      refine ⟨_, rfl, c, SIGNS, rfl, rfl, ?_⟩
      refine blT (Q := fun y H5 => H5 = H' ∧ List.replicate i (V.bl true) ++ [y] = List.replicate (i + 1) (V.bl true)) (ok.all c (arr_mem hc)) ⟨rfl, ?_⟩
      rw [List.replicate_succ']
    · obtain ⟨rfl, rfl⟩ := e
      refine ⟨p, List.replicate z.cps.size true, rfl, SqL.of (by rw [upd_same, List.map_replicate]), _, rfl, wt, rfl, addSmall (by omega) (by decide +kernel), _, congrArg (fun b => [V.bl b, _]) ?_, q _ (same_new hp _)⟩
      simp
theorem scNB : FnScope ["part", "highest"] ["part", "highest"] (defScope sNeedBounds) := ⟨rfl, rfl, rfl, by decide +kernel, rfl, by decide +kernel, by decide +kernel⟩
structure HasB (K : PySem.W.Frag) (C : Addr) : Prop where
  cl : Cls K C
  l : NoAttr K C "least"
  m : NoAttr K C "most"
def spNB (K : PySem.W.Frag) : Sp := fun vs H Q _ => ∃ (a C : Addr) (lo hi h : Int), vs = [.ref a, .int h] ∧ HasB K C ∧ Fld H a C [("least", .int lo), ("most", .int hi)] ∧ 0 ≤ lo ∧ lo ≤ hi ∧ hi ≤ h ∧ Q .non H
theorem ok_NB (T : Txt w K mg D) : FnOk P w K mg base CX0 2 D.aNeedBounds D.dNeedBounds ["part", "highest"] (spNB K) := by
  have G : FnOk P w K mg base CX0 1 D.aNeed D.dNeed ["holds", "words"] spNeed := ok_need T
  refine T.fNeedBounds.ok scNB (fun vs H Q E h => ?_) (fun cdv A outer s H vs Q E hr h => ?_)
  · obtain ⟨a, C, lo, hi, h, rfl, _⟩ := h; rfl
  · obtain ⟨a, C, lo, hi, h, rfl, B, ⟨dx, fs, ha, hf⟩, h0, h1, h2, q⟩ := h
    have el := hf ("least", .int lo) (by simp)
    have em := hf ("most", .int hi) (by simp)
    refine ⟨_, pss_one (ps_expr (pe_call G hr rfl T.mNeed T.fNeed.kp T.bNeed .nil pass0 (pa_cons (pe_chain3 op_le op_le op_le pe_int (pe_fld (pv 0) rfl) (pe_fld (pv 0) rfl) (pv 1)) (pa_cons pe_str pa_nil)))), ?_⟩
    refine ⟨_, rfl, a, C, dx, _, _, rfl, ha, B.cl, B.l, el, _, _, rfl, rfl, _, rfl, iteD h0 ⟨_, rfl, a, C, dx, _, _, rfl, ha, B.cl, B.m, em, _, _, rfl, rfl, _, rfl, iteD h1 ⟨_, rfl, _, _, rfl, rfl, _, congrArg (fun b => [V.bl b, _]) (decide_eq_true h2), q⟩⟩⟩
/-! ### names_in -/
theorem scNI : FnScope ["parts"] ["parts"] (defScope sNamesIn) := ⟨rfl, rfl, rfl, by decide +kernel, rfl, by decide +kernel, by decide +kernel⟩
def Adr.cl (D : Adr) : Cl := ⟨D.cSay, D.cAsk, D.cRows, D.cForm⟩
/-- what an item of a plan is: its class is one of three, and it has a name where it is no say -/
def ItemAt (D : Adr) (H : Hp) (ns : List Str) (v : V) : Prop := ∃ a, v = .ref a ∧ ((ns = [] ∧ ∃ dx fs, H a = some (.ins D.cSay dx fs)) ∨ ∃ n, ns = [n] ∧ (Fld H a D.cAsk [("name", .str n)] ∨ Fld H a D.cRows [("name", .str n)]))
theorem ItemAt.mono {H H' : Hp} (e : Same H H') {ns : List Str} {v : V} (h : ItemAt D H ns v) : ItemAt D H' ns v := by
  obtain ⟨a, rfl, h⟩ := h
  refine ⟨a, rfl, ?_⟩
  rcases h with ⟨h1, dx, fs, h2⟩ | ⟨n, h1, h2 | h2⟩
  · exact .inl ⟨h1, dx, fs, e _ _ h2⟩
  · exact .inr ⟨n, h1, .inl (h2.mono e)⟩
  · exact .inr ⟨n, h1, .inr (h2.mono e)⟩
theorem Fld.sub {H : Hp} {a C : Addr} {fs gs : List (Str × V)} (h : Fld H a C fs) (hs : ∀ p ∈ gs, p ∈ fs) : Fld H a C gs := by
  obtain ⟨dx, l, h1, h2⟩ := h
  exact ⟨dx, l, h1, fun p hp => h2 p (hs p hp)⟩
def spNI (K : PySem.W.Frag) (D : Adr) : Sp := fun vs H Q _ => ∃ (l : Addr) (us : List V) (nss : List (List Str)), vs = [.ref l] ∧ H l = some (.lst us) ∧ us.length ≤ 100 ∧ Paired (ItemAt D H) nss us ∧ (∀ ns ∈ nss, ns.length ≤ 1) ∧
  ∀ r, H r = none → Q (.ref r) (upd H r (.lst (nss.flatten.map V.str)))
theorem ty_of {H : Hp} {a C : Addr} {dx : Addr} {fs : List (Str × V)} (k : ClsOk K C) (h : H a = some (.ins C dx fs)) : TyOf K H (.ref a) (.ref C) := .ins h k.cl k.ha k.hn k.ht k.hm
theorem ok_NI (T : Txt w K mg D) : FnOk P w K mg base CX0 1 D.aNamesIn D.dNamesIn ["parts"] (spNI K D) := by
  refine T.fNamesIn.ok scNI (fun vs H Q E h => ?_) (fun cdv A outer s H vs Q E hr h => ?_)
  · obtain ⟨l, us, nss, rfl, _⟩ := h; rfl
  · obtain ⟨l, us, nss, rfl, hl, h100, hp, hn1, q⟩ := h
    refine ⟨_, pss_one (ps_ret (pe_comp (cp := []) (tt := tNot (tB (tCB (rIsInst K) (tCons (tVar 0) (tCons (tC (.ref D.cSay)) tNil))))) (te := tFld K (tVar 0) "name") (CompScope.of (defScope sNamesIn) ["parts"] rfl rfl (by decide +kernel)) rfl (pi_list (pv 0))
      (fun _ _ _ _ _ => pts_one (pt_not (pt_val (pe_callB call_isinst rfl T.zIsinstance PyProof.Rows.boot_isinstance (pa_cons (pv 0) (pa_cons (pe_glob (v := .ref D.cSay) rfl T.mgSay rfl) pa_nil)))))) (fun _ _ _ _ _ => pe_fld (pv 0) rfl))), ?_⟩
    refine ⟨_, rfl, l, rfl, ⟨_, SqL.of hl⟩, comp_listT (xs := us) (fun i ys H' => H' = H ∧ ys = (nss.take i).flatten.map V.str) ⟨rfl, rfl⟩ (fun i ys H' hi e => ?_) (small (by omega)) (fun i x ys H' hx e => ?_) (fun ys H' e p hp' => ?_)⟩
    · obtain ⟨rfl, rfl⟩ := e
      refine ⟨SqL.of hl, ?_⟩
      rw [List.length_map]
      have go : ∀ (L : List (List Str)), (∀ ns ∈ L, ns.length ≤ 1) → L.flatten.length ≤ L.length := by
        intro L
        induction L with
        | nil => intro _; exact Nat.le_refl _
        | cons x r ih =>
          intro h
          have h1 := h x List.mem_cons_self
          have h2 := ih fun ns hns => h ns (List.mem_cons_of_mem _ hns)
          rw [List.flatten_cons, List.length_append, List.length_cons]
          omega
      have := go (nss.take i) fun ns hns => hn1 ns (List.mem_of_mem_take hns)
      rw [List.length_take] at this
      omega
    · obtain ⟨rfl, rfl⟩ := e
      have hi : i < us.length := (List.getElem?_eq_some_iff.mp hx).1
      have hi2 : i < nss.length := by rw [hp.length]; exact hi
      have hit := paired_get hp (List.getElem?_eq_getElem hi2) hx
      have et : nss.take (i + 1) = nss.take i ++ [nss[i]] := by rw [List.take_add_one, List.getElem?_eq_getElem hi2]; rfl
      obtain ⟨a, rfl, hh⟩ := hit
      rcases hh with ⟨e0, dx, fs, ha⟩ | ⟨n, e1, ha | ha⟩
      · refine ⟨_, rfl, _, _, true, .inl ⟨_, rfl, T.isSaySay⟩, ty_of T.kSay ha, _, rfl, iteF ⟨rfl, ?_⟩⟩
        rw [et, e0]; simp
      · obtain ⟨dx, fs, ha, hf⟩ := ha
        refine ⟨_, rfl, _, _, false, .inl ⟨_, rfl, T.isAskSay⟩, ty_of T.kAsk ha, _, rfl, iteT ⟨_, rfl, a, _, dx, _, _, rfl, ha, T.kAsk.cl, T.nAskName, hf _ (List.mem_singleton.mpr rfl), rfl, ?_⟩⟩
        rw [et, e1]; simp
      · obtain ⟨dx, fs, ha, hf⟩ := ha
        refine ⟨_, rfl, _, _, false, .inl ⟨_, rfl, T.isRowsSay⟩, ty_of T.kRows ha, _, rfl, iteT ⟨_, rfl, a, _, dx, _, _, rfl, ha, T.kRows.cl, T.nRowsName, hf _ (List.mem_singleton.mpr rfl), rfl, ?_⟩⟩
        rw [et, e1]; simp
    · obtain ⟨rfl, rfl⟩ := e
      rw [show us.length = nss.length from hp.length.symm, List.take_length]
      exact q p hp'
end
end Lf

set_option Elab.async false
set_option linter.all false
set_option maxRecDepth 100000
set_option maxHeartbeats 4000000
namespace Lf
open PySem L2
theorem ne_sr : (V.str "say") ≠ V.str "rows" := by decide +kernel
theorem ne_ar : (V.str "ask") ≠ V.str "rows" := by decide +kernel
theorem ne_as : (V.str "ask") ≠ V.str "say" := by decide +kernel
theorem ne_rs : (V.str "rows") ≠ V.str "say" := by decide +kernel
theorem ne_ra : (V.str "rows") ≠ V.str "ask" := by decide +kernel
theorem lk_eq {f : Str} {v : V} {fs : List (Str × V)} : (putF f v fs).lookup f = some v := by rw [lookup_putF, if_pos rfl]
theorem lk_ne {f g : Str} {v u : V} {fs : List (Str × V)} (h : g ≠ f) (e : fs.lookup g = some u) : (putF f v fs).lookup g = some u := by rw [lookup_putF, if_neg h]; exact e
theorem alln {α : Type} {Pr : α → Prop} : ∀ x ∈ ([] : List α), Pr x := fun _ h => nomatch h
theorem allc {α : Type} {Pr : α → Prop} {a : α} {l : List α} (h : Pr a) (t : ∀ x ∈ l, Pr x) : ∀ x ∈ a :: l, Pr x := List.forall_mem_cons.mpr ⟨h, t⟩
/-- all but x is as it was -/
def Besides (x : Addr) (H H' : Hp) : Prop := ∀ b o, H b = some o → b ≠ x → H' b = some o
theorem Besides.upd {x : Addr} {H H' : Hp} (e : Besides x H H') (o : HO) : Besides x H (L2.upd H' x o) := fun b u h n => by rw [upd_ne n]; exact e b u h n
theorem Besides.refl {x : Addr} {H : Hp} : Besides x H H := fun _ _ h _ => h
theorem Besides.same {x : Addr} {H H' H2 : Hp} (e : Besides x H H') (g : Same H' H2) : Besides x H H2 := fun b o h n => g b o (e b o h n)
section
variable {P : Program} {w : World} {K : PySem.W.Frag} {mg : Str → Option Value} {base : Heap} {D : Adr}
theorem scCopy : FnScope ["piece"] ["piece"] (defScope sCopyOf) := ⟨rfl, rfl, rfl, by decide +kernel, rfl, by decide +kernel, by decide +kernel⟩
def spCopy : Sp := fun vs H Q _ => ∃ (p : Pie) (v : V), vs = [v] ∧ p.At H v ∧ (∀ n inner gap lo hi, p = .rows n inner gap lo hi → inner.length ≤ 100) ∧ ∀ u H', Same H H' → p.AtF H H' u → Q u H'
theorem ok_copy (T : Txt w K mg D) : FnOk P w K mg base CX0 1 D.aCopyOf D.dCopyOf ["piece"] spCopy := by
  refine T.fCopyOf.ok scCopy (fun vs H Q E h => ?_) (fun cdv A outer s H vs Q E hr h => ?_)
  · obtain ⟨p, v, rfl, _⟩ := h; rfl
  · obtain ⟨p, v, rfl, hp, hin, q⟩ := h
    refine ⟨_, pss_cons (ps_if (pt_cmpR op_ne (pe_ix ix_tup (pv 0) pe_int (fun _ _ => rfl)) pe_str (nomark _)) (pss_one (ps_ret (pv 0))) pss_nil)
      (pss_one (ps_ret (pe_op op_catT (pe_op op_catT (pe_slice sl_tup (pv 0) po_none (po_some pe_int)) (pe_tup (pa_cons (pe_callTy call_list_of rfl T.zList (by decide +kernel) (pa_cons (pe_ix ix_tup (pv 0) pe_int (fun _ _ => rfl)) pa_nil)) pa_nil)))
        (pe_slice sl_tup (pv 0) (po_some pe_int) po_none)))), ?_⟩
    cases p with
    | one p =>
      cases p with
      | say t =>
        obtain ⟨a, rfl, ha⟩ := hp
        exact ⟨_, rfl, a, _, _, _, rfl, rfl, SqT.of ha, rfl, rfl, _, rfl, iteN ne_sr ⟨_, rfl, q _ H (Same.refl H) ⟨a, rfl, ha⟩⟩⟩
      | ask n sg lo hi =>
        obtain ⟨a, rfl, ha⟩ := hp
        exact ⟨_, rfl, a, _, _, _, rfl, rfl, SqT.of ha, rfl, rfl, _, rfl, iteN ne_ar ⟨_, rfl, q _ H (Same.refl H) ⟨a, rfl, ha⟩⟩⟩
    | rows n inner gap lo hi =>
      obtain ⟨a, l, us, rfl, ha, hl, hq⟩ := hp
      refine ⟨_, rfl, a, _, _, _, rfl, rfl, SqT.of ha, rfl, rfl, _, rfl, iteNS rfl ?_⟩
      refine ⟨_, rfl, _, rfl, a, _, rfl, SqT.of ha, fun z => absurd (show (2 : Nat) = 6 from z.2) (by decide), fun p1 h1 => ?_⟩
      have g1 : Same H _ := same_new h1 (.tup (cutV [.str "rows", .str n, .ref l, .str gap, .int lo, .int hi] none (some 2)))
      refine ⟨_, rfl, a, _, _, _, rfl, rfl, SqT.of (g1 _ _ ha), rfl, l, us, rfl, .inl (SqL.of (g1 _ _ hl)), fun p2 h2 => ⟨(by show 1 ≤ sizeLine; decide), fun p3 h3 => ?_⟩⟩
      have g2 := same_new h2 (.lst us)
      have g3 := same_new h3 (.tup [.ref p2])
      refine ⟨p1, p3, _, _, rfl, rfl, SqT.of (g3 _ _ (g2 _ _ upd_same)), SqT.of upd_same, (fun z => nomatch z), (by show 2 + 1 ≤ sizeLine; decide), (fun z => nomatch z), fun _ p4 h4 => ?_⟩
      have g4 := same_new h4 (.tup (cutV [.str "rows", .str n, .ref l, .str gap, .int lo, .int hi] none (some 2) ++ [V.ref p2]))
      have ga := g4 _ _ (g3 _ _ (g2 _ _ (g1 _ _ ha)))
      refine ⟨_, rfl, _, rfl, a, _, rfl, SqT.of ga, fun z => absurd (show (3 : Nat) = 0 from z.1) (by decide), fun p5 h5 => ?_⟩
      have g5 := same_new h5 (.tup (cutV [.str "rows", .str n, .ref l, .str gap, .int lo, .int hi] (some 3) none))
      refine ⟨p4, p5, _, _, rfl, rfl, SqT.of (g5 _ _ upd_same), SqT.of upd_same, (fun z => nomatch z), (by show 3 + 3 ≤ sizeLine; decide), (fun z => nomatch z), fun _ p6 h6 => ?_⟩
      have gg := g1.trans (g2.trans (g3.trans (g4.trans (g5.trans (same_new h6 (.tup (cutV [.str "rows", .str n, .ref l, .str gap, .int lo, .int hi] none (some 2) ++ [V.ref p2] ++ cutV [.str "rows", .str n, .ref l, .str gap, .int lo, .int hi] (some 3) none)))))))
      refine q _ _ gg ⟨p6, p2, us, rfl, ?_, same_new h6 _ _ _ (g5 _ _ (g4 _ _ (g3 _ _ upd_same))), g1.free h2, Paired.mapP hq fun _ _ z => z.mono gg⟩
      rw [upd_same]
      rfl
/-! ### Say, Ask -/
theorem scSay : FnScope ["self", "piece"] ["self", "piece"] (defScope sSayI) := ⟨rfl, rfl, rfl, by decide +kernel, rfl, by decide +kernel, by decide +kernel⟩
def spSayI (D : Adr) : Sp := fun vs H Q _ => ∃ (x dx : Addr) (t : Str) (v : V), vs = [.ref x, v] ∧ H x = some (.ins D.cSay dx []) ∧ (Pc.say t).At H v ∧ (Pc.say t).ok ∧ ∀ H', Besides x H H' → (Pc.say t).Obj D.cl H' (.ref x) → Q .non H'
theorem ok_sayI (T : Txt w K mg D) : FnOk P w K mg base CX0 3 D.aSayI D.dSayI ["self", "piece"] (spSayI D) := by
  have G : FnOk P w K mg base CX0 2 D.aNeedSigns D.dNeedSigns ["text", "least", "most", "what"] spNS := ok_NS T
  refine T.fSayI.ok scSay (fun vs H Q E h => ?_) (fun cdv A outer s H vs Q E hr h => ?_)
  · obtain ⟨x, dx, t, v, rfl, _⟩ := h; rfl
  · obtain ⟨x, dx, t, v, rfl, hx, ⟨a, rfl, ha⟩, ok, q⟩ := h
    refine ⟨_, pss_cons (ps_fld (pv 0) (pe_ix ix_tup (pv 1) pe_int (fun _ _ => rfl)) rfl) (pss_one (ps_expr (pe_call G hr rfl T.mNeedSigns T.fNeedSigns.kp T.bNeedSigns .nil pass0 (pa_cons (pe_fld (pv 0) rfl) (pa_cons pe_int (pa_cons pe_int (pa_cons pe_str pa_nil))))))), ?_⟩
    refine ⟨_, rfl, a, _, _, _, rfl, rfl, SqT.of ha, rfl, _, rfl, x, _, dx, _, rfl, hx, T.kSay.cl, T.nSayText, (by show 0 < 1000; decide), ?_⟩
    refine ⟨_, rfl, x, _, dx, _, _, rfl, upd_same, T.kSay.cl, T.nSayText, lk_eq, t, 1, 12, _, rfl, ok, by decide, by decide +kernel, fun H' e => ?_⟩
    exact q H' (Besides.same (Besides.refl.upd _) e) ⟨x, rfl, dx, _, e _ _ upd_same, allc lk_eq alln⟩
theorem scAsk : FnScope ["self", "piece"] ["self", "piece"] (defScope sAskI) := ⟨rfl, rfl, rfl, by decide +kernel, rfl, by decide +kernel, by decide +kernel⟩
def askF (n sg : Str) (lo hi : Int) : List (Str × V) := putF "most" (.int hi) (putF "least" (.int lo) (putF "signs" (.str sg) (putF "name" (.str n) [])))
theorem askF_n (n sg : Str) (lo hi : Int) : (askF n sg lo hi).lookup ("name" : Str) = some (V.str n) := lk_ne (by decide +kernel) (lk_ne (by decide +kernel) (lk_ne (by decide +kernel) lk_eq))
theorem askF_s (n sg : Str) (lo hi : Int) : (askF n sg lo hi).lookup ("signs" : Str) = some (V.str sg) := lk_ne (by decide +kernel) (lk_ne (by decide +kernel) lk_eq)
theorem askF_l (n sg : Str) (lo hi : Int) : (askF n sg lo hi).lookup ("least" : Str) = some (V.int lo) := lk_ne (by decide +kernel) lk_eq
theorem askF_m (n sg : Str) (lo hi : Int) : (askF n sg lo hi).lookup ("most" : Str) = some (V.int hi) := lk_eq
def spAskI (D : Adr) : Sp := fun vs H Q _ => ∃ (x dx : Addr) (n sg : Str) (lo hi : Int) (v : V), vs = [.ref x, v] ∧ H x = some (.ins D.cAsk dx []) ∧ (Pc.ask n sg lo hi).At H v ∧ (Pc.ask n sg lo hi).ok ∧ ∀ H', Besides x H H' → (Pc.ask n sg lo hi).Obj D.cl H' (.ref x) → Q .non H'
theorem len_le1 (f : Str) (v : V) (fs : List (Str × V)) {k : Nat} (h : fs.length ≤ k) : (putF f v fs).length ≤ k + 1 := Nat.le_trans (length_putF f v fs) (Nat.succ_le_succ h)
theorem sgn_len (z : Str) : (sgn z).length = z.length := by unfold sgn; simp [Str.length]
theorem ok_askI (T : Txt w K mg D) : FnOk P w K mg base CX0 3 D.aAskI D.dAskI ["self", "piece"] (spAskI D) := by
  have G : FnOk P w K mg base CX0 2 D.aNeedSigns D.dNeedSigns ["text", "least", "most", "what"] spNS := ok_NS T
  have GN : FnOk P w K mg base CX0 1 D.aNeed D.dNeed ["holds", "words"] spNeed := ok_need T
  have GB : FnOk P w K mg base CX0 2 D.aNeedBounds D.dNeedBounds ["part", "highest"] (spNB K) := ok_NB T
  refine T.fAskI.ok scAsk (fun vs H Q E h => ?_) (fun cdv A outer s H vs Q E hr h => ?_)
  · obtain ⟨x, dx, n, sg, lo, hi, v, rfl, _⟩ := h; rfl
  · obtain ⟨x, dx, n, sg, lo, hi, v, rfl, hx, ⟨a, rfl, ha⟩, ⟨hn, hsg, hnd, hb0, hb1, hb2⟩, q⟩ := h
    have hr1 : Room 1 _ := hr.mono (by decide)
    have hz : sg.length ≤ 20 := hsg.hi
    refine ⟨_, pss_cons (ps_fld (pv 0) (pe_ix ix_tup (pv 1) pe_int (fun _ _ => rfl)) rfl)
      (pss_cons (ps_fld (pv 0) (pe_ix ix_tup (pv 1) pe_int (fun _ _ => rfl)) rfl)
      (pss_cons (ps_fld (pv 0) (pe_ix ix_tup (pv 1) pe_int (fun _ _ => rfl)) rfl)
      (pss_cons (ps_fld (pv 0) (pe_ix ix_tup (pv 1) pe_int (fun _ _ => rfl)) rfl)
      (pss_cons (ps_expr (pe_call GN hr1 rfl T.mNeed T.fNeed.kp T.bNeed .nil pass0 (pa_cons (pe_cmpR op_ne (pe_fld (pv 0) rfl) pe_str (nomark _)) (pa_cons pe_str pa_nil))))
      (pss_cons (ps_expr (pe_call G hr rfl T.mNeedSigns T.fNeedSigns.kp T.bNeedSigns .nil pass0 (pa_cons (pe_fld (pv 0) rfl) (pa_cons pe_int (pa_cons pe_int (pa_cons pe_str pa_nil))))))
      (pss_cons (ps_expr (pe_call GN hr1 rfl T.mNeed T.fNeed.kp T.bNeed .nil pass0 (pa_cons (pe_cmpR op_eq (pe_callB call_len_setS rfl T.zLen PySem.boot_len (pa_cons (pe_callTy (call_set_textS rfl) rfl T.zSet (by decide +kernel) (pa_cons (pe_fld (pv 0) rfl) pa_nil)) pa_nil)) (pe_callB call_len_str rfl T.zLen PySem.boot_len (pa_cons (pe_fld (pv 0) rfl) pa_nil)) (nomark _)) (pa_cons pe_str pa_nil))))
      (pss_one (ps_expr (pe_call GB hr rfl T.mNeedBounds T.fNeedBounds.kp T.bNeedBounds .nil pass0 (pa_cons (pv 0) (pa_cons pe_int pa_nil))))))))))), ?_⟩
    have nax : a ≠ x := ne_of ha hx (by intro z; cases z)
    have h2 : ∀ o, (L2.upd H x o) a = some (.tup [.str "ask", .str n, .str sg, .int lo, .int hi]) := fun o => by rw [upd_ne nax]; exact ha
    have h3 : ∀ o o', (L2.upd (L2.upd H x o) x o') a = some (.tup [.str "ask", .str n, .str sg, .int lo, .int hi]) := fun o o' => by rw [upd_ne nax]; exact h2 o
    have h4 : ∀ o o' o'', (L2.upd (L2.upd (L2.upd H x o) x o') x o'') a = some (.tup [.str "ask", .str n, .str sg, .int lo, .int hi]) := fun o o' o'' => by rw [upd_ne nax]; exact h3 o o'
    refine ⟨_, rfl, a, _, _, _, rfl, rfl, SqT.of ha, rfl, _, rfl, x, _, dx, _, rfl, hx, T.kAsk.cl, T.nAskName, (by show 0 < 1000; decide), ?_⟩
    refine ⟨_, rfl, a, _, _, _, rfl, rfl, SqT.of (h2 _), rfl, _, rfl, x, _, dx, _, rfl, upd_same, T.kAsk.cl, T.nAskSigns, Nat.lt_of_le_of_lt (len_le1 _ _ _ (k := 0) (Nat.le_refl _)) (by decide), ?_⟩
    refine ⟨_, rfl, a, _, _, _, rfl, rfl, SqT.of (h3 _ _), rfl, _, rfl, x, _, dx, _, rfl, upd_same, T.kAsk.cl, T.nAskLeast, Nat.lt_of_le_of_lt (len_le1 _ _ _ (len_le1 _ _ _ (k := 0) (Nat.le_refl _))) (by decide), ?_⟩
    refine ⟨_, rfl, a, _, _, _, rfl, rfl, SqT.of (h4 _ _ _), rfl, _, rfl, x, _, dx, _, rfl, upd_same, T.kAsk.cl, T.nAskMost, Nat.lt_of_le_of_lt (len_le1 _ _ _ (len_le1 _ _ _ (len_le1 _ _ _ (k := 0) (Nat.le_refl _)))) (by decide), ?_⟩
    -- need(self.name != '', ..)
    refine ⟨_, rfl, x, _, dx, _, _, rfl, upd_same, T.kAsk.cl, T.nAskName, askF_n n sg lo hi, rfl, _, congrArg (fun b => [V.bl (!b), _]) (decide_eq_false (fun z => hn (V.str.inj z))), ?_⟩
    -- need_signs(self.signs, 1, 20, ..)
    refine ⟨_, rfl, x, _, dx, _, _, rfl, upd_same, T.kAsk.cl, T.nAskSigns, askF_s n sg lo hi, sg, 1, 20, _, rfl, hsg, by decide, by decide +kernel, fun H5 e5 => ?_⟩
    have hx5 := e5 _ _ upd_same
    -- need(len(set(self.signs)) == len(self.signs), ..)
    refine ⟨_, rfl, x, _, dx, _, _, rfl, hx5, T.kAsk.cl, T.nAskSigns, askF_s n sg lo hi, sg, rfl, (by show sg.length + 1 < 4096; omega), fun l hl => ?_⟩
    refine ⟨l, _, rfl, upd_same, ?_⟩
    have e6 := same_new hl (SetO P w l (dd (sgn sg)))
    have hx6 := e6 _ _ hx5
    refine ⟨_, rfl, x, _, dx, _, _, rfl, hx6, T.kAsk.cl, T.nAskSigns, askF_s n sg lo hi, sg, rfl, small (by omega), rfl, _, congrArg (fun b => [V.bl b, _]) (decide_eq_true ?_), ?_⟩
    · rw [dd_nodup hnd, sgn_len]
    -- need_bounds(self, 4)
    refine ⟨_, rfl, x, _, lo, hi, 4, rfl, ⟨T.kAsk.cl, T.nAskLeast, T.nAskMost⟩, ⟨dx, _, hx6, allc (askF_l n sg lo hi) (allc (askF_m n sg lo hi) alln)⟩, hb0, hb1, hb2, ?_⟩
    refine q _ (Besides.same (Besides.same ((((Besides.refl.upd _).upd _).upd _).upd _) e5) e6) ⟨x, rfl, dx, _, hx6, allc (askF_n n sg lo hi) (allc (askF_s n sg lo hi) (allc (askF_l n sg lo hi) (allc (askF_m n sg lo hi) alln)))⟩
end
end Lf

set_option Elab.async false
set_option linter.all false
set_option maxRecDepth 100000
set_option maxHeartbeats 4000000
namespace Lf
open PySem L2
/-- a list that is tracked -/
abbrev SqL' (H : Hp) (l : Addr) (us : List V) : Prop := H l = some (.lst us)
theorem sqOf {K : PySem.W.Frag} {H : Hp} {l : Addr} {us : List V} (h : SqL' H l us) : SqL K H l us := SqL.of h
theorem mk_same {H H' : Hp} {x dx C : Addr} (hx : H x = none) (hd : H dx = none) (e : Besides x (L2.upd (L2.upd H dx (.own x)) x (.ins C dx [])) H') : Same H H' := fun b o h =>
  e b o (by rw [upd_ne (ne_of_none h hx), upd_ne (ne_of_none h hd)]; exact h) (ne_of_none h hx)
theorem mk_keep {H : Hp} {x dx C : Addr} (hx : H x = none) (hd : H dx = none) : Same H (L2.upd (L2.upd H dx (.own x)) x (.ins C dx [])) := mk_same (C := C) hx hd Besides.refl
def lens : List (Key × V) := [(Sum.inr "say", .int 2), (Sum.inr "ask", .int 5), (Sum.inr "rows", .int 6)]
theorem lens_say : valV lens (Sum.inr "say") = some (.int 2) := by decide +kernel
theorem lens_ask : valV lens (Sum.inr "ask") = some (.int 5) := by decide +kernel
theorem lens_rows : valV lens (Sum.inr "rows") = some (.int 6) := by decide +kernel
section
variable {P : Program} {w : World} {K : PySem.W.Frag} {mg : Str → Option Value} {base : Heap} {D : Adr}
theorem lens_at (T : Txt w K mg D) (h : Heap) (X : K.In h) : ∃ vs, KV lens vs ∧ h.DictOf (mixKind P w) D.cLen vs := by
  obtain ⟨t1, t2, t3, u1, u2, u3, ep, hk⟩ := T.tLen
  refine ⟨[(Sum.inr "say", .int 2 u1), (Sum.inr "ask", .int 5 u2), (Sum.inr "rows", .int 6 u3)], .cons ⟨rfl, u1, rfl⟩ (.cons ⟨rfl, u2, rfl⟩ (.cons ⟨rfl, u3, rfl⟩ .nil)), _, _, ep, X _ _ hk, ⟨rfl, rfl, rfl⟩, rfl, ?_, ?_, ?_⟩
  · intro e he
    have he' : e ∈ [(⟨PyData.keyHash w.params "say", .str "say" t1, .int 2 u1⟩ : DictEntry), ⟨PyData.keyHash w.params "ask", .str "ask" t2, .int 5 u2⟩, ⟨PyData.keyHash w.params "rows", .str "rows" t3, .int 6 u3⟩] := by simpa using he
    rcases List.mem_cons.mp he' with rfl | he'
    · exact ⟨Sum.inr "say", by simp [mixKind, keyIs, Value.isStrOf], rfl⟩
    · rcases List.mem_cons.mp he' with rfl | he'
      · exact ⟨Sum.inr "ask", by simp [mixKind, keyIs, Value.isStrOf], rfl⟩
      · rcases List.mem_cons.mp he' with rfl | he'
        · exact ⟨Sum.inr "rows", by simp [mixKind, keyIs, Value.isStrOf], rfl⟩
        · cases he'
  · exact .cons (by simp [mixKind, keyIs, Value.isStrOf]) rfl (.cons (by simp [mixKind, keyIs, Value.isStrOf]) rfl (.cons (by simp [mixKind, keyIs, Value.isStrOf]) rfl .nil))
  · show ([Sum.inr "say", Sum.inr "ask", Sum.inr "rows"] : List Key).Nodup
    decide +kernel
theorem words_at (T : Txt w K mg D) {H : Hp} : SqT K H D.cWords [.str "say", .str "ask", .str "rows"] := by
  obtain ⟨t1, t2, t3, sl, hk⟩ := T.tWords
  exact .inr ⟨_, _, 0, hk, rfl, rfl, (by show 3 ≤ sizeLine; decide), .cons ⟨t1, rfl⟩ (.cons ⟨t2, rfl⟩ (.cons ⟨t3, rfl⟩ .nil))⟩
theorem row_at (T : Txt w K mg D) {H : Hp} : SqT K H D.cRow [.str "say", .str "ask"] := by
  obtain ⟨t1, t2, sl, hk⟩ := T.tRow
  exact .inr ⟨_, _, 0, hk, rfl, rfl, (by show 2 ≤ sizeLine; decide), .cons ⟨t1, rfl⟩ (.cons ⟨t2, rfl⟩ .nil)⟩
/-! ### part_of -/
theorem scPart : FnScope ["piece", "words"] ["piece", "words"] (defScope sPartOf) := ⟨rfl, rfl, rfl, by decide +kernel, rfl, by decide +kernel, by decide +kernel⟩
/-- what part_of promises of a kind of pieces -/
def spPart {α : Type} (At : Hp → α → V → Prop) (Ob : Hp → Hp → α → V → Prop) (ok : α → Prop) (wd : Addr) : Sp := fun vs H Q _ => ∃ (a : α) (v : V), vs = [v, .ref wd] ∧ At H a v ∧ ok a ∧ ∀ u H', Same H H' → Ob H H' a u → Q u H'
def AtR (H : Hp) (p : Pc) (v : V) : Prop := p.At H v
def ObR (c : Cl) (_ : Hp) (H : Hp) (p : Pc) (v : V) : Prop := p.Obj c H v
theorem ok_partR (T : Txt w K mg D) : FnOk P w K mg base CX0 5 D.aPartOf D.dPartOf ["piece", "words"] (spPart AtR (ObR D.cl) Pc.ok D.cRow) := by
  have GN : FnOk P w K mg base CX0 1 D.aNeed D.dNeed ["holds", "words"] spNeed := ok_need T
  have GS : FnOk P w K mg base CX0 3 D.aSayI D.dSayI ["self", "piece"] (spSayI D) := ok_sayI T
  have GA : FnOk P w K mg base CX0 3 D.aAskI D.dAskI ["self", "piece"] (spAskI D) := ok_askI T
  refine T.fPartOf.ok scPart (fun vs H Q E h => ?_) (fun cdv A outer s H vs Q E hr h => ?_)
  · obtain ⟨p, v, rfl, _⟩ := h; rfl
  · obtain ⟨p, v, rfl, hp, ok, q⟩ := h
    have hr1 : Room 1 _ := hr.mono (by decide)
    refine ⟨_, pss_cons (ps_expr (pe_call GN hr1 rfl T.mNeed T.fNeed.kp T.bNeed .nil pass0 (pa_cons (pe_and (pe_cmpR op_gt (pe_callB call_len_seq rfl T.zLen PySem.boot_len (pa_cons (pv 0) pa_nil)) pe_int (nomark _)) (pe_one (pe_cmpR op_in_seq (pe_ix ix_tup (pv 0) pe_int (fun _ _ => rfl)) (pv 1) rfl))) (pa_cons pe_str pa_nil))))
      (pss_cons (ps_expr (pe_call GN hr1 rfl T.mNeed T.fNeed.kp T.bNeed .nil pass0 (pa_cons (pe_cmpR op_eq (pe_callB call_len_seq rfl T.zLen PySem.boot_len (pa_cons (pv 0) pa_nil)) (pe_kget (kvs := lens) rfl T.gLen (lens_at T) (pe_ix ix_tup (pv 0) pe_int (fun _ _ => rfl)) (fun _ _ => rfl)) (nomark _)) (pa_cons pe_str pa_nil))))
      (pss_cons (ps_if (pt_cmpR op_eq (pe_ix ix_tup (pv 0) pe_int (fun _ _ => rfl)) pe_str (nomark _)) (pss_one (ps_ret (pe_make T.mkSay GS hr rfl T.mgSay T.bSayI .nil pass0 (pa_cons (pv 0) pa_nil)))) pss_nil)
      (pss_cons (ps_if (pt_cmpR op_eq (pe_ix ix_tup (pv 0) pe_int (fun _ _ => rfl)) pe_str (nomark _)) (pss_one (ps_ret (pe_make T.mkAsk GA hr rfl T.mgAsk T.bAskI .nil pass0 (pa_cons (pv 0) pa_nil)))) pss_nil)
      (pss_one ps_never)))), ?_⟩
    cases p with
    | say t =>
      obtain ⟨a, rfl, ha⟩ := hp
      refine ⟨_, rfl, a, _, rfl, .inr (SqT.of ha), _, _, rfl, rfl, _, rfl, iteD (by show (0 : Int) < 2; decide) ⟨_, rfl, a, _, _, _, rfl, rfl, SqT.of ha, rfl, _, rfl, D.cRow, _, rfl, .inr (row_at T), rfl, rfl, _, rfl, ?_⟩⟩
      refine ⟨_, rfl, a, _, rfl, .inr (SqT.of ha), _, rfl, a, _, _, _, rfl, rfl, SqT.of ha, rfl, Sum.inr "say", _, rfl, lens_say, rfl, _, congrArg (fun b => [V.bl b, _]) (decide_eq_true rfl), ?_⟩
      refine ⟨_, rfl, a, _, _, _, rfl, rfl, SqT.of ha, rfl, rfl, _, rfl, iteD rfl ⟨_, rfl, fun x dx hx hd ne => ?_⟩⟩
      have k0 := mk_keep (C := D.cSay) hx hd
      exact ⟨x, dx, t, _, rfl, upd_same, ⟨a, rfl, k0 _ _ ha⟩, ok, fun H' e o => ⟨rfl, q _ H' (mk_same hx hd e) o⟩⟩
    | ask n sg lo hi =>
      obtain ⟨a, rfl, ha⟩ := hp
      refine ⟨_, rfl, a, _, rfl, .inr (SqT.of ha), _, _, rfl, rfl, _, rfl, iteD (by show (0 : Int) < 5; decide) ⟨_, rfl, a, _, _, _, rfl, rfl, SqT.of ha, rfl, _, rfl, D.cRow, _, rfl, .inr (row_at T), rfl, rfl, _, rfl, ?_⟩⟩
      refine ⟨_, rfl, a, _, rfl, .inr (SqT.of ha), _, rfl, a, _, _, _, rfl, rfl, SqT.of ha, rfl, Sum.inr "ask", _, rfl, lens_ask, rfl, _, congrArg (fun b => [V.bl b, _]) (decide_eq_true rfl), ?_⟩
      refine ⟨_, rfl, a, _, _, _, rfl, rfl, SqT.of ha, rfl, rfl, _, rfl, iteDF ne_as ?_⟩
      refine ⟨_, rfl, a, _, _, _, rfl, rfl, SqT.of ha, rfl, rfl, _, rfl, iteD rfl ⟨_, rfl, fun x dx hx hd ne => ?_⟩⟩
      have k0 := mk_keep (C := D.cAsk) hx hd
      exact ⟨x, dx, n, sg, lo, hi, _, rfl, upd_same, ⟨a, rfl, k0 _ _ ha⟩, ok, fun H' e o => ⟨rfl, q _ H' (mk_same hx hd e) o⟩⟩
/-! ### parts_of -/
theorem scParts : FnScope ["pieces", "words", "most", "parts", "names"] ["pieces", "words", "most"] (defScope sPartsOf) := ⟨rfl, rfl, rfl, by decide +kernel, rfl, by decide +kernel, by decide +kernel⟩
def spParts {α : Type} (At : Hp → α → V → Prop) (Ob : Hp → Hp → α → V → Prop) (ok : α → Prop) (nm : α → List Str) (wd : Addr) (mx : Nat) : Sp := fun vs H Q _ => ∃ (l : Addr) (us : List V) (ps : List α), vs = [.ref l, .ref wd, .int mx] ∧ SqL' H l us ∧ Paired (At H) ps us ∧
  1 ≤ ps.length ∧ ps.length ≤ mx ∧ (∀ p ∈ ps, ok p) ∧ (ps.flatMap nm).Nodup ∧ ∀ r ws H', Same H H' → H r = none → H' r = some (.lst ws) → Paired (Ob H H') ps ws → Q (.ref r) H'
theorem flat_le {α : Type} {nm : α → List Str} (h1 : ∀ a, (nm a).length ≤ 1) : ∀ ps : List α, (ps.flatMap nm).length ≤ ps.length
  | [] => Nat.le_refl _
  | p :: r => by
    have a := h1 p
    have b := flat_le h1 r
    rw [List.flatMap_cons, List.length_append, List.length_cons]
    omega
theorem take_snoc {α : Type} {l : List α} {i : Nat} {x : α} (h : l[i]? = some x) : l.take (i + 1) = l.take i ++ [x] := by rw [List.take_add_one, h]; rfl
theorem Paired.two {α β : Type} {F : α → β → Prop} {as : List α} {bs : List β} (h : Paired F as bs) {i : Nat} {b : β} (e : bs[i]? = some b) : ∃ a, as[i]? = some a ∧ F a b := by
  have hi : i < as.length := by rw [h.length]; exact (List.getElem?_eq_some_iff.mp e).1
  exact ⟨as[i], List.getElem?_eq_getElem hi, paired_get h (List.getElem?_eq_getElem hi) e⟩
theorem ok_parts (T : Txt w K mg D) {α : Type} {At : Hp → α → V → Prop} {Ob : Hp → Hp → α → V → Prop} {ok : α → Prop} {nm : α → List Str} {wd : Addr} {mx k : Nat} (hk : 1 ≤ k) (hmx : mx ≤ 100)
    (G : FnOk P w K mg base CX0 k D.aPartOf D.dPartOf ["piece", "words"] (spPart At Ob ok wd)) (atM : ∀ {H H' : Hp}, Same H H' → ∀ {a : α} {v : V}, At H a v → At H' a v) (obM : ∀ {H0 H H' : Hp}, Same H H' → ∀ {a : α} {v : V}, Ob H0 H a v → Ob H0 H' a v)
    (obO : ∀ {H0 H1 H : Hp}, Same H0 H1 → ∀ {a : α} {v : V}, Ob H1 H a v → Ob H0 H a v) (obI : ∀ {H0 H : Hp} {a : α} {v : V}, Ob H0 H a v → ItemAt D H (nm a) v) (nm1 : ∀ a, (nm a).length ≤ 1) :
    FnOk P w K mg base CX0 (k + 1) D.aPartsOf D.dPartsOf ["pieces", "words", "most"] (spParts At Ob ok nm wd mx) := by
  have GN : FnOk P w K mg base CX0 1 D.aNeed D.dNeed ["holds", "words"] spNeed := ok_need T
  have GI : FnOk P w K mg base CX0 1 D.aNamesIn D.dNamesIn ["parts"] (spNI K D) := ok_NI T
  refine T.fPartsOf.ok scParts (fun vs H Q E h => ?_) (fun cdv A outer s H vs Q E hr h => ?_)
  · obtain ⟨l, us, ps, rfl, _⟩ := h; rfl
  · obtain ⟨l, us, ps, rfl, hl, hp, h1, h2, hok, hnd, q⟩ := h
    have hr1 : Room 1 _ := hr.mono hk
    have hus : us.length = ps.length := hp.length.symm
    refine ⟨_, pss_cons (ps_expr (pe_call GN hr1 rfl T.mNeed T.fNeed.kp T.bNeed .nil pass0 (pa_cons (pe_chain op_le op_le pe_int (pe_callB call_len_seq rfl T.zLen PySem.boot_len (pa_cons (pv 0) pa_nil)) (pv 2)) (pa_cons pe_str pa_nil))))
      (pss_cons (ps_setComp (i := 3) (cp := [(1, "words")]) (te := tCall (spPart At Ob ok wd) [] E0 (tCons (tVar 0) (tCons (tVar 1) tNil))) scParts.nd rfl rfl (CompScope.of (defScope sPartsOf) ["pieces", "words", "most", "parts", "names"] rfl rfl (by decide +kernel)) rfl (pi_list (pv 0)) (fun _ _ _ _ _ => pts_nil)
        (fun _ _ _ _ _ => pe_call G hr rfl T.mPartOf T.fPartOf.kp T.bPartOf .nil pass0 (pa_cons (pv 0) (pa_cons (pv 1) pa_nil))))
      (pss_cons (ps_set (i := 4) scParts.nd rfl (Or.inl rfl) (pe_call GI hr1 rfl T.mNamesIn T.fNamesIn.kp T.bNamesIn .nil pass0 (pa_cons (pv 3) pa_nil)))
      (pss_cons (ps_expr (pe_call GN hr1 rfl T.mNeed T.fNeed.kp T.bNeed .nil pass0 (pa_cons (pe_cmpR op_eq (pe_callB call_len_setS rfl T.zLen PySem.boot_len (pa_cons (pe_callTy (call_set_listS rfl) rfl T.zSet (by decide +kernel) (pa_cons (pv 4) pa_nil)) pa_nil)) (pe_callB call_len_seq rfl T.zLen PySem.boot_len (pa_cons (pv 4) pa_nil)) (nomark _)) (pa_cons pe_str pa_nil))))
      (pss_one (ps_ret (pv 3)))))), ?_⟩
    refine ⟨_, rfl, l, us, rfl, .inl (sqOf hl), _, _, rfl, rfl, _, rfl, iteD (by show (1 : Int) ≤ (us.length : Int); omega) ⟨_, rfl, _, _, rfl, rfl, _, congrArg (fun b => [V.bl b, _]) (decide_eq_true (by show (us.length : Int) ≤ (mx : Int); omega)), ?_⟩⟩
    refine ⟨_, rfl, l, rfl, ⟨_, sqOf hl⟩, comp_list (xs := us) (fun i ys H' => Same H H' ∧ Paired (Ob H H') (ps.take i) ys) ⟨Same.refl H, .nil⟩ (fun i ys H' hi e => ⟨e.1.seq (sqOf hl), ?_⟩) (small (by omega)) (fun i x ys H' hx e => ?_) (fun ys H' e r hr' => ?_)⟩
    · have := e.2.length
      rw [List.length_take] at this
      omega
    · obtain ⟨e1, e2⟩ := e
      obtain ⟨a, ea, pa⟩ := Paired.two hp hx
      refine ⟨_, rfl, _, rfl, a, x, rfl, atM e1 pa, hok a (List.mem_of_getElem? ea), fun u H5 e5 o5 => ⟨e1.trans e5, ?_⟩⟩
      rw [take_snoc ea]
      exact (Paired.mapP e2 fun _ _ z => obM e5 z).snoc (obO e1 o5)
    · obtain ⟨e1, e2⟩ := e
      rw [hus, List.take_length] at e2
      have e3 := same_new hr' (.lst ys)
      have pl : ys.length = ps.length := e2.length.symm
      refine ⟨_, rfl, r, ys, ps.map nm, rfl, upd_same, by omega, ?_, ?_, fun r2 hr2 => ?_⟩
      · have go : ∀ {ps : List α} {ys : List V}, Paired (Ob H H') ps ys → Paired (ItemAt D (L2.upd H' r (.lst _))) (ps.map nm) ys := fun h => by
          induction h with
          | nil => exact .nil
          | cons a t ih => exact .cons ((obI a).mono e3) ih
        exact go e2
      · intro ns hns
        obtain ⟨a, _, rfl⟩ := List.mem_map.mp hns
        exact nm1 a
      · have e4 := same_new hr2 (.lst (((ps.map nm).flatten).map V.str))
        have ef : (ps.map nm).flatten = ps.flatMap nm := by rw [List.flatMap_def]
        have hlen := flat_le nm1 ps
        refine ⟨_, rfl, r2, _, rfl, SqL.of upd_same, (by rw [ef]; show _ < 4096; omega), fun r3 hr3 => ⟨r3, _, rfl, upd_same, ?_⟩⟩
        have e5 := same_new hr3 (SetO P w r3 (dd (ps.map nm).flatten))
        refine ⟨_, rfl, r2, _, rfl, .inl (SqL.of (e5 _ _ upd_same)), rfl, _, congrArg (fun b => [V.bl b, _]) (decide_eq_true ?_), ?_⟩
        · rw [List.length_map, ef, dd_nodup hnd]
        · refine ⟨_, rfl, q r ys _ (e1.trans (e3.trans (e4.trans e5))) (e1.free hr') (e5 _ _ (e4 _ _ upd_same)) ?_⟩
          exact Paired.mapP e2 fun _ _ z => obM (e3.trans (e4.trans e5)) z
end
end Lf

set_option Elab.async false
set_option linter.all false
set_option maxRecDepth 100000
set_option maxHeartbeats 4000000
namespace Lf
open PySem L2
section
variable {P : Program} {w : World} {K : PySem.W.Frag} {mg : Str → Option Value} {base : Heap} {D : Adr}
theorem Pc.Obj.item {H : Hp} : ∀ {p : Pc} {v : V}, p.Obj D.cl H v → ItemAt D H p.nm v
  | .say _, _, ⟨a, h1, dx, fs, h2, _⟩ => ⟨a, h1, .inl ⟨rfl, dx, fs, h2⟩⟩
  | .ask n .., _, ⟨a, h1, h2⟩ => ⟨a, h1, .inr ⟨n, rfl, .inl (h2.sub (allc (List.mem_cons_self) alln))⟩⟩
theorem Pie.Obj.item {H0 H : Hp} : ∀ {p : Pie} {v : V}, p.Obj D.cl H0 H v → ItemAt D H p.nm v
  | .one p, _, h => Pc.Obj.item (p := p) h
  | .rows n .., _, ⟨a, l, us, h1, h2, _⟩ => ⟨a, h1, .inr ⟨n, rfl, .inr (h2.sub (allc (List.mem_cons_self) alln))⟩⟩
theorem pc_nm1 : ∀ p : Pc, p.nm.length ≤ 1
  | .say _ => Nat.zero_le _
  | .ask .. => Nat.le_refl _
theorem pie_nm1 : ∀ p : Pie, p.nm.length ≤ 1
  | .one p => pc_nm1 p
  | .rows .. => Nat.le_refl _
theorem ok_partsR (T : Txt w K mg D) : FnOk P w K mg base CX0 6 D.aPartsOf D.dPartsOf ["pieces", "words", "most"] (spParts AtR (ObR D.cl) Pc.ok Pc.nm D.cRow 3) :=
  ok_parts T (by decide) (by decide) (ok_partR T) (fun e _ _ h => Pc.At.mono e h) (fun e _ _ h => Pc.Obj.mono e h) (fun _ _ _ h => h) (fun h => Pc.Obj.item h) pc_nm1
/-! ### Rows -/
theorem Pc.Obj.besides {c : Cl} {H H' : Hp} {x C dx : Addr} {fs : List (Str × V)} (hx : H x = some (.ins C dx fs)) (h1 : fs.lookup ("text" : Str) = none) (h2 : fs.lookup ("signs" : Str) = none) (e : Besides x H H') : ∀ {p : Pc} {v : V}, p.Obj c H v → p.Obj c H' v
  | .say t, v, ⟨a, ha, da, l, hl, hf⟩ => by
    have z := hf ("text", .str t) List.mem_cons_self
    refine ⟨a, ha, da, l, e _ _ hl (fun q => ?_), hf⟩
    rw [q, hx] at hl; cases hl
    rw [h1] at z; cases z
  | .ask n sg lo hi, v, ⟨a, ha, da, l, hl, hf⟩ => by
    have z := hf ("signs", .str sg) (List.mem_cons_of_mem _ List.mem_cons_self)
    refine ⟨a, ha, da, l, e _ _ hl (fun q => ?_), hf⟩
    rw [q, hx] at hl; cases hl
    rw [h2] at z; cases z
theorem scRows : FnScope ["self", "piece"] ["self", "piece"] (defScope sRowsI) := ⟨rfl, rfl, rfl, by decide +kernel, rfl, by decide +kernel, by decide +kernel⟩
def rowsF (n : Str) (r : Addr) (gap : Str) (lo hi : Int) : List (Str × V) := putF "most" (.int hi) (putF "least" (.int lo) (putF "gap" (.str gap) (putF "parts" (.ref r) (putF "name" (.str n) []))))
theorem rowsF_n (n : Str) (r : Addr) (gap : Str) (lo hi : Int) : (rowsF n r gap lo hi).lookup ("name" : Str) = some (V.str n) := lk_ne (by decide +kernel) (lk_ne (by decide +kernel) (lk_ne (by decide +kernel) (lk_ne (by decide +kernel) lk_eq)))
theorem rowsF_p (n : Str) (r : Addr) (gap : Str) (lo hi : Int) : (rowsF n r gap lo hi).lookup ("parts" : Str) = some (V.ref r) := lk_ne (by decide +kernel) (lk_ne (by decide +kernel) (lk_ne (by decide +kernel) lk_eq))
theorem rowsF_g (n : Str) (r : Addr) (gap : Str) (lo hi : Int) : (rowsF n r gap lo hi).lookup ("gap" : Str) = some (V.str gap) := lk_ne (by decide +kernel) (lk_ne (by decide +kernel) lk_eq)
theorem rowsF_l (n : Str) (r : Addr) (gap : Str) (lo hi : Int) : (rowsF n r gap lo hi).lookup ("least" : Str) = some (V.int lo) := lk_ne (by decide +kernel) lk_eq
theorem rowsF_m (n : Str) (r : Addr) (gap : Str) (lo hi : Int) : (rowsF n r gap lo hi).lookup ("most" : Str) = some (V.int hi) := lk_eq
def spRowsI (D : Adr) : Sp := fun vs H Q _ => ∃ (x dx : Addr) (n : Str) (inner : List Pc) (gap : Str) (lo hi : Int) (v : V), vs = [.ref x, v] ∧ H x = some (.ins D.cRows dx []) ∧ (Pie.rows n inner gap lo hi).At H v ∧ (Pie.rows n inner gap lo hi).ok ∧
  ∀ H', Besides x H H' → (Pie.rows n inner gap lo hi).Obj D.cl H H' (.ref x) → Q .non H'
theorem ok_rowsI (T : Txt w K mg D) : FnOk P w K mg base CX0 7 D.aRowsI D.dRowsI ["self", "piece"] (spRowsI D) := by
  have G : FnOk P w K mg base CX0 2 D.aNeedSigns D.dNeedSigns ["text", "least", "most", "what"] spNS := ok_NS T
  have GN : FnOk P w K mg base CX0 1 D.aNeed D.dNeed ["holds", "words"] spNeed := ok_need T
  have GB : FnOk P w K mg base CX0 2 D.aNeedBounds D.dNeedBounds ["part", "highest"] (spNB K) := ok_NB T
  have GP : FnOk P w K mg base CX0 6 D.aPartsOf D.dPartsOf ["pieces", "words", "most"] (spParts AtR (ObR D.cl) Pc.ok Pc.nm D.cRow 3) := ok_partsR T
  refine T.fRowsI.ok scRows (fun vs H Q E h => ?_) (fun cdv A outer s H vs Q E hr h => ?_)
  · obtain ⟨x, dx, n, inner, gap, lo, hi, v, rfl, _⟩ := h; rfl
  · obtain ⟨x, dx, n, inner, gap, lo, hi, v, rfl, hx, ⟨a, l, us, rfl, ha, hl, hp⟩, ⟨hn, ⟨i1, i2, i3, i4⟩, hg, hb0, hb1, hb2⟩, q⟩ := h
    have hr1 : Room 1 _ := hr.mono (by decide)
    have hr2 : Room 2 _ := hr.mono (by decide)
    refine ⟨_, pss_cons (ps_fld (pv 0) (pe_ix ix_tup (pv 1) pe_int (fun _ _ => rfl)) rfl)
      (pss_cons (ps_fld (pv 0) (pe_call GP hr rfl T.mPartsOf T.fPartsOf.kp T.bPartsOf .nil pass0 (pa_cons (pe_ix ix_tup (pv 1) pe_int (fun _ _ => rfl)) (pa_cons (pe_glob (v := .ref D.cRow) rfl T.gRow rfl) (pa_cons pe_int pa_nil)))) rfl)
      (pss_cons (ps_fld (pv 0) (pe_ix ix_tup (pv 1) pe_int (fun _ _ => rfl)) rfl)
      (pss_cons (ps_fld (pv 0) (pe_ix ix_tup (pv 1) pe_int (fun _ _ => rfl)) rfl)
      (pss_cons (ps_fld (pv 0) (pe_ix ix_tup (pv 1) pe_int (fun _ _ => rfl)) rfl)
      (pss_cons (ps_expr (pe_call GN hr1 rfl T.mNeed T.fNeed.kp T.bNeed .nil pass0 (pa_cons (pe_cmpR op_ne (pe_fld (pv 0) rfl) pe_str (nomark _)) (pa_cons pe_str pa_nil))))
      (pss_cons (ps_expr (pe_call G hr2 rfl T.mNeedSigns T.fNeedSigns.kp T.bNeedSigns .nil pass0 (pa_cons (pe_fld (pv 0) rfl) (pa_cons pe_int (pa_cons pe_int (pa_cons pe_str pa_nil))))))
      (pss_one (ps_expr (pe_call GB hr2 rfl T.mNeedBounds T.fNeedBounds.kp T.bNeedBounds .nil pass0 (pa_cons (pv 0) (pa_cons pe_int pa_nil))))))))))), ?_⟩
    have nax : a ≠ x := ne_of ha hx (by intro z; cases z)
    have nlx : l ≠ x := ne_of hl hx (by intro z; cases z)
    refine ⟨_, rfl, a, _, _, _, rfl, rfl, SqT.of ha, rfl, _, rfl, x, _, dx, _, rfl, hx, T.kRows.cl, T.nRowsName, (by show 0 < 1000; decide), ?_⟩
    -- self.parts = parts_of(..)
    have b1 : Besides x H (L2.upd H x (.ins D.cRows dx (putF "name" (.str n) []))) := Besides.refl.upd _
    have ha1 := b1 _ _ ha nax
    have hl1 := b1 _ _ hl nlx
    refine ⟨_, rfl, a, _, _, _, rfl, rfl, SqT.of ha1, rfl, l, us, inner, rfl, hl1, ?_, i1, i2, i3, i4, fun r ws H2 e2 nr hr2' ow => ?_⟩
    · exact Paired.mapP hp fun p v z => by
        obtain ⟨b, rfl, hb⟩ := z
        exact ⟨b, rfl, b1 _ _ hb (ne_of hb hx (by intro z; cases z))⟩
    have hx2 := e2 _ _ upd_same
    have nrx : r ≠ x := ne_of hr2' hx2 (by intro z; cases z)
    have nr0 : H r = none := by rw [upd_ne nrx] at nr; exact nr
    have b2 : Besides x H H2 := Besides.same b1 e2
    have ha2 := b2 _ _ ha nax
    refine ⟨_, rfl, x, _, dx, _, rfl, hx2, T.kRows.cl, T.nRowsParts, Nat.lt_of_le_of_lt (len_le1 _ _ _ (k := 0) (Nat.le_refl _)) (by decide), ?_⟩
    have c3 : Besides x H2 _ := Besides.refl.upd (.ins D.cRows dx (putF "parts" (.ref r) (putF "name" (.str n) [])))
    refine ⟨_, rfl, a, _, _, _, rfl, rfl, SqT.of (c3 _ _ ha2 nax), rfl, _, rfl, x, _, dx, _, rfl, upd_same, T.kRows.cl, T.nRowsGap, Nat.lt_of_le_of_lt (len_le1 _ _ _ (len_le1 _ _ _ (k := 0) (Nat.le_refl _))) (by decide), ?_⟩
    have c4 := c3.upd (.ins D.cRows dx (putF "gap" (.str gap) (putF "parts" (.ref r) (putF "name" (.str n) []))))
    refine ⟨_, rfl, a, _, _, _, rfl, rfl, SqT.of (c4 _ _ ha2 nax), rfl, _, rfl, x, _, dx, _, rfl, upd_same, T.kRows.cl, T.nRowsLeast, Nat.lt_of_le_of_lt (len_le1 _ _ _ (len_le1 _ _ _ (len_le1 _ _ _ (k := 0) (Nat.le_refl _)))) (by decide), ?_⟩
    have c5 := c4.upd (.ins D.cRows dx (putF "least" (.int lo) (putF "gap" (.str gap) (putF "parts" (.ref r) (putF "name" (.str n) [])))))
    refine ⟨_, rfl, a, _, _, _, rfl, rfl, SqT.of (c5 _ _ ha2 nax), rfl, _, rfl, x, _, dx, _, rfl, upd_same, T.kRows.cl, T.nRowsMost, Nat.lt_of_le_of_lt (len_le1 _ _ _ (len_le1 _ _ _ (len_le1 _ _ _ (len_le1 _ _ _ (k := 0) (Nat.le_refl _))))) (by decide), ?_⟩
    have c6 := c5.upd (.ins D.cRows dx (rowsF n r gap lo hi))
    refine ⟨_, rfl, x, _, dx, _, _, rfl, upd_same, T.kRows.cl, T.nRowsName, rowsF_n n r gap lo hi, rfl, _, congrArg (fun b => [V.bl (!b), _]) (decide_eq_false (fun z => hn (V.str.inj z))), ?_⟩
    refine ⟨_, rfl, x, _, dx, _, _, rfl, upd_same, T.kRows.cl, T.nRowsGap, rowsF_g n r gap lo hi, gap, 0, 5, _, rfl, hg, by decide, by decide +kernel, fun H7 e7 => ?_⟩
    have hx7 := e7 _ _ upd_same
    have c7 := Besides.same c6 e7
    refine ⟨_, rfl, x, _, lo, hi, 3, rfl, ⟨T.kRows.cl, T.nRowsLeast, T.nRowsMost⟩, ⟨dx, _, hx7, allc (rowsF_l n r gap lo hi) (allc (rowsF_m n r gap lo hi) alln)⟩, hb0, hb1, hb2, ?_⟩
    refine q _ (fun b o h1 h2 => c7 b o (b2 b o h1 h2) h2) ⟨x, r, ws, rfl, ⟨dx, _, hx7, allc (rowsF_n n r gap lo hi) (allc (rowsF_p n r gap lo hi) (allc (rowsF_g n r gap lo hi) (allc (rowsF_l n r gap lo hi) (allc (rowsF_m n r gap lo hi) alln))))⟩, c7 _ _ hr2' nrx, nr0, ?_⟩
    have n1 : (putF "name" (V.str n) []).lookup ("text" : Str) = none := by rw [lookup_putF, if_neg (by decide +kernel)]; rfl
    have n2 : (putF "name" (V.str n) []).lookup ("signs" : Str) = none := by rw [lookup_putF, if_neg (by decide +kernel)]; rfl
    exact Paired.mapP ow fun p v z => Pc.Obj.besides hx2 n1 n2 c7 z
end
end Lf

set_option Elab.async false
set_option linter.all false
set_option maxRecDepth 100000
set_option maxHeartbeats 4000000
namespace Lf
open PySem L2
section
variable {P : Program} {w : World} {K : PySem.W.Frag} {mg : Str → Option Value} {base : Heap} {D : Adr}
def AtP (H : Hp) (p : Pie) (v : V) : Prop := p.At H v
def ObP (c : Cl) (H0 H : Hp) (p : Pie) (v : V) : Prop := p.Obj c H0 H v
theorem ok_partF (T : Txt w K mg D) : FnOk P w K mg base CX0 9 D.aPartOf D.dPartOf ["piece", "words"] (spPart AtP (ObP D.cl) Pie.ok D.cWords) := by
  have GN : FnOk P w K mg base CX0 1 D.aNeed D.dNeed ["holds", "words"] spNeed := ok_need T
  have GS : FnOk P w K mg base CX0 3 D.aSayI D.dSayI ["self", "piece"] (spSayI D) := ok_sayI T
  have GA : FnOk P w K mg base CX0 3 D.aAskI D.dAskI ["self", "piece"] (spAskI D) := ok_askI T
  have GR : FnOk P w K mg base CX0 7 D.aRowsI D.dRowsI ["self", "piece"] (spRowsI D) := ok_rowsI T
  refine T.fPartOf.ok scPart (fun vs H Q E h => ?_) (fun cdv A outer s H vs Q E hr h => ?_)
  · obtain ⟨p, v, rfl, _⟩ := h; rfl
  · obtain ⟨p, v, rfl, hp, ok, q⟩ := h
    have hr1 : Room 1 _ := hr.mono (by decide)
    have hr4 : Room 4 _ := hr.mono (by decide)
    refine ⟨_, pss_cons (ps_expr (pe_call GN hr1 rfl T.mNeed T.fNeed.kp T.bNeed .nil pass0 (pa_cons (pe_and (pe_cmpR op_gt (pe_callB call_len_seq rfl T.zLen PySem.boot_len (pa_cons (pv 0) pa_nil)) pe_int (nomark _)) (pe_one (pe_cmpR op_in_seq (pe_ix ix_tup (pv 0) pe_int (fun _ _ => rfl)) (pv 1) rfl))) (pa_cons pe_str pa_nil))))
      (pss_cons (ps_expr (pe_call GN hr1 rfl T.mNeed T.fNeed.kp T.bNeed .nil pass0 (pa_cons (pe_cmpR op_eq (pe_callB call_len_seq rfl T.zLen PySem.boot_len (pa_cons (pv 0) pa_nil)) (pe_kget (kvs := lens) rfl T.gLen (lens_at T) (pe_ix ix_tup (pv 0) pe_int (fun _ _ => rfl)) (fun _ _ => rfl)) (nomark _)) (pa_cons pe_str pa_nil))))
      (pss_cons (ps_if (pt_cmpR op_eq (pe_ix ix_tup (pv 0) pe_int (fun _ _ => rfl)) pe_str (nomark _)) (pss_one (ps_ret (pe_make T.mkSay GS hr4 rfl T.mgSay T.bSayI .nil pass0 (pa_cons (pv 0) pa_nil)))) pss_nil)
      (pss_cons (ps_if (pt_cmpR op_eq (pe_ix ix_tup (pv 0) pe_int (fun _ _ => rfl)) pe_str (nomark _)) (pss_one (ps_ret (pe_make T.mkAsk GA hr4 rfl T.mgAsk T.bAskI .nil pass0 (pa_cons (pv 0) pa_nil)))) pss_nil)
      (pss_one (ps_ret (pe_make T.mkRows GR hr rfl T.mgRows T.bRowsI .nil pass0 (pa_cons (pv 0) pa_nil))))))), ?_⟩
    cases p with
    | one p =>
      cases p with
      | say t =>
        obtain ⟨a, rfl, ha⟩ := hp
        refine ⟨_, rfl, a, _, rfl, .inr (SqT.of ha), _, _, rfl, rfl, _, rfl, iteD (by show (0 : Int) < 2; decide) ⟨_, rfl, a, _, _, _, rfl, rfl, SqT.of ha, rfl, _, rfl, D.cWords, _, rfl, .inr (words_at T), rfl, rfl, _, rfl, ?_⟩⟩
        refine ⟨_, rfl, a, _, rfl, .inr (SqT.of ha), _, rfl, a, _, _, _, rfl, rfl, SqT.of ha, rfl, Sum.inr "say", _, rfl, lens_say, rfl, _, congrArg (fun b => [V.bl b, _]) (decide_eq_true rfl), ?_⟩
        refine ⟨_, rfl, a, _, _, _, rfl, rfl, SqT.of ha, rfl, rfl, _, rfl, iteD rfl ⟨_, rfl, fun x dx hx hd ne => ?_⟩⟩
        have k0 := mk_keep (C := D.cSay) hx hd
        exact ⟨x, dx, t, _, rfl, upd_same, ⟨a, rfl, k0 _ _ ha⟩, ok, fun H' e o => ⟨rfl, q _ H' (mk_same hx hd e) o⟩⟩
      | ask n sg lo hi =>
        obtain ⟨a, rfl, ha⟩ := hp
        refine ⟨_, rfl, a, _, rfl, .inr (SqT.of ha), _, _, rfl, rfl, _, rfl, iteD (by show (0 : Int) < 5; decide) ⟨_, rfl, a, _, _, _, rfl, rfl, SqT.of ha, rfl, _, rfl, D.cWords, _, rfl, .inr (words_at T), rfl, rfl, _, rfl, ?_⟩⟩
        refine ⟨_, rfl, a, _, rfl, .inr (SqT.of ha), _, rfl, a, _, _, _, rfl, rfl, SqT.of ha, rfl, Sum.inr "ask", _, rfl, lens_ask, rfl, _, congrArg (fun b => [V.bl b, _]) (decide_eq_true rfl), ?_⟩
        refine ⟨_, rfl, a, _, _, _, rfl, rfl, SqT.of ha, rfl, rfl, _, rfl, iteDF ne_as ?_⟩
        refine ⟨_, rfl, a, _, _, _, rfl, rfl, SqT.of ha, rfl, rfl, _, rfl, iteD rfl ⟨_, rfl, fun x dx hx hd ne => ?_⟩⟩
        have k0 := mk_keep (C := D.cAsk) hx hd
        exact ⟨x, dx, n, sg, lo, hi, _, rfl, upd_same, ⟨a, rfl, k0 _ _ ha⟩, ok, fun H' e o => ⟨rfl, q _ H' (mk_same hx hd e) o⟩⟩
    | rows n inner gap lo hi =>
      obtain ⟨a, l, us, rfl, ha, hl, hi'⟩ := hp
      refine ⟨_, rfl, a, _, rfl, .inr (SqT.of ha), _, _, rfl, rfl, _, rfl, iteD (by show (0 : Int) < 6; decide) ⟨_, rfl, a, _, _, _, rfl, rfl, SqT.of ha, rfl, _, rfl, D.cWords, _, rfl, .inr (words_at T), rfl, rfl, _, rfl, ?_⟩⟩
      refine ⟨_, rfl, a, _, rfl, .inr (SqT.of ha), _, rfl, a, _, _, _, rfl, rfl, SqT.of ha, rfl, Sum.inr "rows", _, rfl, lens_rows, rfl, _, congrArg (fun b => [V.bl b, _]) (decide_eq_true rfl), ?_⟩
      refine ⟨_, rfl, a, _, _, _, rfl, rfl, SqT.of ha, rfl, rfl, _, rfl, iteDF ne_rs ?_⟩
      refine ⟨_, rfl, a, _, _, _, rfl, rfl, SqT.of ha, rfl, rfl, _, rfl, iteDF ne_ra ⟨_, rfl, fun x dx hx hd ne => ?_⟩⟩
      have k0 := mk_keep (C := D.cRows) hx hd
      exact ⟨x, dx, n, inner, gap, lo, hi, _, rfl, upd_same, ⟨a, l, us, rfl, k0 _ _ ha, k0 _ _ hl, Paired.mapP hi' fun _ _ z => Pc.At.mono k0 z⟩, ok, fun H' e o => ⟨rfl, q _ H' (mk_same hx hd e) (Pie.Obj.older k0 o)⟩⟩
theorem ok_partsF (T : Txt w K mg D) : FnOk P w K mg base CX0 10 D.aPartsOf D.dPartsOf ["pieces", "words", "most"] (spParts AtP (ObP D.cl) Pie.ok Pie.nm D.cWords 6) :=
  ok_parts T (by decide) (by decide) (ok_partF T) (fun e _ _ h => Pie.At.mono e h) (fun e _ _ h => Pie.Obj.mono e h) (fun e _ _ h => Pie.Obj.older e h) (fun h => Pie.Obj.item h) pie_nm1
/-! ### Form -/
theorem Fld.away {H : Hp} {a C x C' dx : Addr} {p : Str × V} {fs : List (Str × V)} (h : Fld H a C (p :: fs)) (hx : H x = some (.ins C' dx [])) : a ≠ x := by
  obtain ⟨da, l, hl, hf⟩ := h
  intro e
  rw [e, hx] at hl; cases hl
  have := hf p List.mem_cons_self
  cases this
theorem Fld.besides {H H' : Hp} {a C x C' dx : Addr} {p : Str × V} {fs : List (Str × V)} (hx : H x = some (.ins C' dx [])) (e : Besides x H H') (h : Fld H a C (p :: fs)) : Fld H' a C (p :: fs) := by
  have n := h.away hx
  obtain ⟨da, l, hl, hf⟩ := h
  exact ⟨da, l, e _ _ hl n, hf⟩
theorem Pc.Obj.aside {c : Cl} {H H' : Hp} {x C dx : Addr} (hx : H x = some (.ins C dx [])) (e : Besides x H H') : ∀ {p : Pc} {v : V}, p.Obj c H v → p.Obj c H' v
  | .say _, _, ⟨a, ha, h⟩ => ⟨a, ha, h.besides hx e⟩
  | .ask .., _, ⟨a, ha, h⟩ => ⟨a, ha, h.besides hx e⟩
theorem Pie.Obj.aside {c : Cl} {H0 H H' : Hp} {x C dx : Addr} (hx : H x = some (.ins C dx [])) (e : Besides x H H') : ∀ {p : Pie} {v : V}, p.Obj c H0 H v → p.Obj c H0 H' v
  | .one p, _, h => Pc.Obj.aside (p := p) hx e h
  | .rows .., _, ⟨a, l, us, ha, h, hl, h0, hp⟩ => ⟨a, l, us, ha, h.besides hx e, e _ _ hl (ne_of hl hx (by intro z; cases z)), h0, Paired.mapP hp fun _ _ z => z.aside hx e⟩
theorem Pie.AtF.older' {H0 H1 H : Hp} (e : ∀ b, H1 b = none → H0 b = none) : ∀ {p : Pie} {v : V}, p.AtF H1 H v → p.AtF H0 H v
  | .one p, _, h => h
  | .rows .., _, ⟨a, l, vs, h1, h2, h3, h5, h4⟩ => ⟨a, l, vs, h1, h2, h3, e _ h5, h4⟩
theorem Pc.At.besides {H H' : Hp} {x C dx : Addr} {fs : List (Str × V)} (hx : H x = some (.ins C dx fs)) (e : Besides x H H') {p : Pc} {v : V} (h : p.At H v) : p.At H' v := by
  obtain ⟨a, ha, hl⟩ := h
  exact ⟨a, ha, e _ _ hl (ne_of hl hx (by intro z; cases z))⟩
theorem Pie.At.besides {H H' : Hp} {x C dx : Addr} {fs : List (Str × V)} (hx : H x = some (.ins C dx fs)) (e : Besides x H H') : ∀ {p : Pie} {v : V}, p.At H v → p.At H' v
  | .one p, _, h => Pc.At.besides (p := p) hx e h
  | .rows .., _, ⟨a, l, us, ha, h, hl, hp⟩ => ⟨a, l, us, ha, e _ _ h (ne_of h hx (by intro z; cases z)), e _ _ hl (ne_of hl hx (by intro z; cases z)), Paired.mapP hp fun _ _ z => z.besides hx e⟩
theorem Pie.AtF.besides {H0 H H' : Hp} {x C dx : Addr} {fs : List (Str × V)} (hx : H x = some (.ins C dx fs)) (e : Besides x H H') : ∀ {p : Pie} {v : V}, p.AtF H0 H v → p.AtF H0 H' v
  | .one p, _, h => Pc.At.besides (p := p) hx e h
  | .rows .., _, ⟨a, l, us, ha, h, hl, h0, hp⟩ => ⟨a, l, us, ha, e _ _ h (ne_of h hx (by intro z; cases z)), e _ _ hl (ne_of hl hx (by intro z; cases z)), h0, Paired.mapP hp fun _ _ z => z.besides hx e⟩
theorem scForm : FnScope ["self", "pieces"] ["self", "pieces"] (defScope sFormI) := ⟨rfl, rfl, rfl, by decide +kernel, rfl, by decide +kernel, by decide +kernel⟩
def spFormI (D : Adr) : Sp := fun vs H Q _ => ∃ (x dx l : Addr) (us : List V) (ps : List Pie), vs = [.ref x, .ref l] ∧ H x = some (.ins D.cForm dx []) ∧ H l = some (.lst us) ∧ Paired (Pie.At H) ps us ∧ FormOk ps ∧ ∀ H', Besides x H H' → FormAt D.cl H H' ps (.ref x) → Q .non H'
theorem ok_formI (T : Txt w K mg D) : FnOk P w K mg base CX0 11 D.aFormI D.dFormI ["self", "pieces"] (spFormI D) := by
  have GP : FnOk P w K mg base CX0 10 D.aPartsOf D.dPartsOf ["pieces", "words", "most"] (spParts AtP (ObP D.cl) Pie.ok Pie.nm D.cWords 6) := ok_partsF T
  have GC : FnOk P w K mg base CX0 1 D.aCopyOf D.dCopyOf ["piece"] spCopy := ok_copy T
  refine T.fFormI.ok scForm (fun vs H Q E h => ?_) (fun cdv A outer s H vs Q E hr h => ?_)
  · obtain ⟨x, dx, l, us, ps, rfl, _⟩ := h; rfl
  · obtain ⟨x, dx, l, us, ps, rfl, hx, hl, hp, ⟨f1, f2, f3, f4⟩, q⟩ := h
    have hr1 : Room 1 _ := hr.mono (by decide)
    have hus : us.length = ps.length := hp.length.symm
    refine ⟨_, pss_cons (ps_fld (pv 0) (pe_call GP hr rfl T.mPartsOf T.fPartsOf.kp T.bPartsOf .nil pass0 (pa_cons (pv 1) (pa_cons (pe_glob (v := .ref D.cWords) rfl T.gWords rfl) (pa_cons pe_int pa_nil)))) rfl)
      (pss_one (ps_fld (pv 0) (pe_comp (cp := []) (te := tCall spCopy [] E0 (tCons (tVar 0) tNil)) (CompScope.of (defScope sFormI) ["self", "pieces"] rfl rfl (by decide +kernel)) rfl (pi_list (pv 1)) (fun _ _ _ _ _ => pts_nil)
        (fun _ _ _ _ _ => pe_call GC hr1 rfl T.mCopyOf T.fCopyOf.kp T.bCopyOf .nil pass0 (pa_cons (pv 0) pa_nil))) rfl)), ?_⟩
    refine ⟨_, rfl, l, us, ps, rfl, hl, hp, f1, f2, f3, f4, fun r ws H1 e1 nr hr1' ow => ?_⟩
    have hx1 := e1 _ _ hx
    refine ⟨_, rfl, x, _, dx, _, rfl, hx1, T.kForm.cl, T.nFormPlan, (by show 0 < 1000; decide), ?_⟩
    have c2 : Besides x H1 (L2.upd H1 x (.ins D.cForm dx (putF "plan" (.ref r) []))) := Besides.refl.upd _
    have nlx : l ≠ x := ne_of hl hx (by intro z; cases z)
    have nrx : r ≠ x := ne_of hr1' hx1 (by intro z; cases z)
    have hl2 := c2 _ _ (e1 _ _ hl) nlx
    have hp2 : Paired (Pie.At (L2.upd H1 x (.ins D.cForm dx (putF "plan" (.ref r) [])))) ps us := Paired.mapP hp fun _ _ z => (z.mono e1).besides hx1 c2
    generalize hH2 : L2.upd H1 x (.ins D.cForm dx (putF "plan" (.ref r) [])) = H2 at c2 hl2 hp2 ⊢
    have hx2 : H2 x = some (.ins D.cForm dx (putF "plan" (.ref r) [])) := by rw [← hH2]; exact upd_same
    have old : ∀ b, H2 b = none → H b = none := fun b hb => by
      cases q0 : H b with
      | none => rfl
      | some o =>
        have nb : b ≠ x := fun z => by rw [z, hx2] at hb; cases hb
        have := c2 _ _ (e1 _ _ q0) nb
        rw [hb] at this; cases this
    refine ⟨_, rfl, l, rfl, ⟨_, SqL.of hl2⟩, comp_list (xs := us) (fun i ys H' => Same H2 H' ∧ Paired (Pie.AtF H2 H') (ps.take i) ys) ⟨Same.refl H2, .nil⟩ (fun i ys H' hi e => ⟨SqL.of (e.1 _ _ hl2), ?_⟩) (small (by omega)) (fun i y ys H' hy e => ?_) (fun ys H3 e m hm => ?_)⟩
    · have := e.2.length
      rw [List.length_take] at this
      omega
    · obtain ⟨g1, g2⟩ := e
      obtain ⟨a, ea, pa⟩ := Paired.two hp2 hy
      refine ⟨_, rfl, a, y, rfl, pa.mono g1, fun n inner gap lo hi ez => ?_, fun u H5 g5 o5 => ⟨g1.trans g5, ?_⟩⟩
      · have okp := f3 a (List.mem_of_getElem? ea)
        rw [ez] at okp
        exact Nat.le_trans okp.2.1.hi (by decide)
      · rw [take_snoc ea]
        exact (Paired.mapP g2 fun _ _ z => z.mono g5).snoc (Pie.AtF.older g1 o5)
    · obtain ⟨g1, g2⟩ := e
      rw [hus, List.take_length] at g2
      have g3 := same_new hm (.lst ys)
      have hx3 := g3 _ _ (g1 _ _ hx2)
      refine ⟨_, rfl, x, _, dx, _, rfl, hx3, T.kForm.cl, T.nFormPieces, Nat.lt_of_le_of_lt (len_le1 _ _ _ (k := 0) (Nat.le_refl _)) (by decide), ?_⟩
      have c4 : Besides x (L2.upd H3 m (.lst ys)) _ := Besides.refl.upd (.ins D.cForm dx (putF "pieces" (.ref m) (putF "plan" (.ref r) [])))
      have c14 : Besides x H1 _ := fun b o h n => c4 b o (g3 _ _ (g1 _ _ (c2 b o h n))) n
      have nmx : m ≠ x := fun z => by rw [z] at hm; rw [g1 _ _ hx2] at hm; cases hm
      refine q _ (fun b o h n => c14 b o (e1 _ _ h) n) ⟨x, r, ws, m, ys, rfl, ⟨dx, _, upd_same, allc (lk_ne (show ("plan" : Str) ≠ "pieces" by decide +kernel) lk_eq) (allc lk_eq alln)⟩, c14 _ _ hr1' nrx, nr, Paired.mapP ow fun _ _ z => z.aside hx1 c14, c4 _ _ upd_same nmx, old _ (g1.free hm), ?_⟩
      exact Paired.mapP g2 fun _ _ z => ((z.mono g3).besides hx3 c4).older' old
end
end Lf

set_option Elab.async false
set_option linter.all false
set_option maxRecDepth 100000
set_option maxHeartbeats 4000000
namespace Lf
open PySem L2
/-! ### lengths -/
theorem join_len {sep : Str} {n : Nat} : ∀ {ts : List Str}, (∀ t ∈ ts, t.length + sep.length ≤ n) → (Str.join sep ts).length ≤ ts.length * n
  | [], _ => Nat.zero_le _
  | [t], h => by
    have := h t List.mem_cons_self
    show t.length ≤ _
    rw [List.length_singleton, Nat.one_mul]
    omega
  | t :: u :: r, h => by
    have h1 := h t List.mem_cons_self
    have h2 := join_len (ts := u :: r) fun x hx => h x (List.mem_cons_of_mem _ hx)
    show ((t ++ sep) ++ Str.join sep (u :: r)).length ≤ _
    rw [strLen_append, strLen_append, List.length_cons, Nat.succ_mul]
    omega
theorem cat_len {n : Nat} {ts : List Str} (h : ∀ t ∈ ts, t.length ≤ n) : (cat ts).length ≤ ts.length * n := join_len fun t ht => by show t.length + 0 ≤ n; exact h t ht
theorem wPc_len {f : Row} : ∀ {p : Pc}, p.ok → FitPc f p → (wPc f p).length ≤ 12
  | .say t, h, _ => h.hi
  | .ask n sg lo hi, ⟨_, _, _, _, _, h4⟩, ⟨t, e, ft⟩ => by
    have := ft.hi
    show ((f n).getD Str.empty).length ≤ 12
    rw [e]
    show t.length ≤ 12
    omega
theorem wRow_len {ps : List Pc} {f : Row} (h : PartsOk ps) (hf : FitRow ps f) : (wRow ps f).length ≤ 36 := by
  have := cat_len (n := 12) (ts := ps.map (wPc f)) fun t ht => by
    obtain ⟨p, hp, rfl⟩ := List.mem_map.mp ht
    exact wPc_len (h.all p hp) (hf p hp)
  have h3 := h.hi
  rw [List.length_map] at this
  unfold wRow
  omega
theorem wPie_ask {F : Vs} {n sg t : Str} {lo hi : Int} (e : F n = some (.text t)) : wPie F (.one (.ask n sg lo hi)) = t := by
  show (match F n with | some (.text t) => t | _ => Str.empty) = t
  rw [e]
theorem wPie_rows {F : Vs} {n gap : Str} {inner : List Pc} {rs : List Row} {lo hi : Int} (e : F n = some (.rows rs)) : wPie F (.rows n inner gap lo hi) = Str.join gap (rs.map (wRow inner)) := by
  show (match F n with | some (.rows rs) => Str.join gap (rs.map (wRow inner)) | _ => Str.empty) = _
  rw [e]
theorem wPc_ask {f : Row} {n sg t : Str} {lo hi : Int} (e : f n = some t) : wPc f (.ask n sg lo hi) = t := by
  show (f n).getD Str.empty = t
  rw [e]; rfl
theorem wPie_len {F : Vs} : ∀ {p : Pie}, p.ok → FitPie F p → (wPie F p).length ≤ 150
  | .one (.say t), h, _ => Nat.le_trans h.hi (by decide)
  | .one (.ask n sg lo hi), ⟨_, _, _, _, _, h4⟩, ⟨t, e, ft⟩ => by
    have := ft.hi
    rw [wPie_ask e]
    omega
  | .rows n inner gap lo hi, ⟨_, hp, hg, _, _, h3⟩, ⟨rs, e, _, h2, hf⟩ => by
    rw [wPie_rows e]
    have := join_len (sep := gap) (n := 41) (ts := rs.map (wRow inner)) fun t ht => by
      obtain ⟨f, hf', rfl⟩ := List.mem_map.mp ht
      have h1 := wRow_len hp (hf f hf')
      have h2 := hg.hi
      omega
    rw [List.length_map] at this
    omega
section
variable {P : Program} {w : World} {K : PySem.W.Frag} {mg : Str → Option Value} {base : Heap} {D : Adr}
/-! ### value_of -/
theorem scVO : FnScope ["part", "values", "value"] ["part", "values"] (defScope sValueOf) := ⟨rfl, rfl, rfl, by decide +kernel, rfl, by decide +kernel, by decide +kernel⟩
structure HasV (K : PySem.W.Frag) (C : Addr) : Prop where
  cl : Cls K C
  n : NoAttr K C "name"
  l : NoAttr K C "least"
  m : NoAttr K C "most"
/-! ### filled_ask -/
theorem scFA : FnScope ["ask", "values", "text", "sign"] ["ask", "values"] (defScope sFilledAsk) := ⟨rfl, rfl, rfl, by decide +kernel, rfl, by decide +kernel, by decide +kernel⟩
/-! ### filled_part, filled_parts -/
theorem scFP : FnScope ["part", "values"] ["part", "values"] (defScope sFilledPart) := ⟨rfl, rfl, rfl, by decide +kernel, rfl, by decide +kernel, by decide +kernel⟩
theorem scFPs : FnScope ["parts", "values"] ["parts", "values"] (defScope sFilledParts) := ⟨rfl, rfl, rfl, by decide +kernel, rfl, by decide +kernel, by decide +kernel⟩
/-! ### filled_rows -/
theorem scFR : FnScope ["rows", "values", "texts"] ["rows", "values"] (defScope sFilledRows) := ⟨rfl, rfl, rfl, by decide +kernel, rfl, by decide +kernel, by decide +kernel⟩
/-! ### the form's own parts, and fill -/
def ObE (c : Cl) (H : Hp) (p : Pie) (v : V) : Prop := ∃ H0, p.Obj c H0 H v
theorem scFill : FnScope ["form", "values"] ["form", "values"] (defScope sFill) := ⟨rfl, rfl, rfl, by decide +kernel, rfl, by decide +kernel, by decide +kernel⟩
end
end Lf

set_option Elab.async false
set_option linter.all false
set_option maxRecDepth 100000
set_option maxHeartbeats 4000000
namespace Lf
open PySem L2
/-! ### values, exactly -/
def RowEx (H : Hp) (f : Row) (v : V) : Prop := ∃ a kvs, v = .ref a ∧ Rd H a (.dK kvs) ∧ ∀ n, valV kvs (Sum.inr n) = (f n).map V.str
def ValEx (H : Hp) : Val → V → Prop
  | .text t, v => v = .str t
  | .rows rs, v => ∃ l vs, v = .ref l ∧ H l = some (.lst vs) ∧ Paired (RowEx H) rs vs
def VsEx (H : Hp) (F : Vs) (v : V) : Prop := ∃ a kvs, v = .ref a ∧ Rd H a (.dK kvs) ∧ (∀ n x, F n = some x → ∃ u, valV kvs (Sum.inr n) = some u ∧ ValEx H x u) ∧ ∀ n, F n = none → valV kvs (Sum.inr n) = none
theorem RowEx.mono {H H' : Hp} (e : Same H H') {f : Row} {v : V} (h : RowEx H f v) : RowEx H' f v := by
  obtain ⟨a, kvs, h1, h2, h3⟩ := h
  exact ⟨a, kvs, h1, Rd.mono e h2, h3⟩
theorem ValEx.mono {H H' : Hp} (e : Same H H') : ∀ {x : Val} {v : V}, ValEx H x v → ValEx H' x v
  | .text _, _, h => h
  | .rows _, _, ⟨l, vs, h1, h2, h3⟩ => ⟨l, vs, h1, e _ _ h2, Paired.mapP h3 fun _ _ q => q.mono e⟩
theorem VsEx.mono {H H' : Hp} (e : Same H H') {F : Vs} {v : V} (h : VsEx H F v) : VsEx H' F v := by
  obtain ⟨a, kvs, h1, h2, h3, h4⟩ := h
  refine ⟨a, kvs, h1, Rd.mono e h2, fun n x q => ?_, h4⟩
  obtain ⟨u, h5, h6⟩ := h3 n x q
  exact ⟨u, h5, h6.mono e⟩
/-! ### the first that is bad -/
def fitsB (sg : Str) (lo hi : Int) (t : Str) : Bool := decide (lo ≤ t.length) && decide ((t.length : Int) ≤ hi) && t.cps.toList.all fun c => decide (c ∈ sg.cps.toList)
theorem fitsB_iff {sg : Str} {lo hi : Int} {t : Str} : fitsB sg lo hi t = true ↔ Fits sg lo hi t := by
  unfold fitsB
  simp only [Bool.and_eq_true, decide_eq_true_eq, List.all_eq_true]
  exact ⟨fun h => ⟨h.1.1, h.1.2, h.2⟩, fun h => ⟨⟨h.lo, h.hi⟩, h.all⟩⟩
def badPc (f : Row) : Pc → Option Str
  | .say _ => none
  | .ask n sg lo hi => match f n with | none => some n | some t => if fitsB sg lo hi t = true then none else some n
def badRow (ps : List Pc) (f : Row) : Option Str := ps.findSome? (badPc f)
def badPie (F : Vs) : Pie → Option Str
  | .one (.say _) => none
  | .one (.ask n sg lo hi) => match F n with | some (.text t) => if fitsB sg lo hi t = true then none else some n | _ => some n
  | .rows n inner _ lo hi => match F n with | some (.rows rs) => if lo ≤ (rs.length : Int) ∧ (rs.length : Int) ≤ hi then rs.findSome? (badRow inner) else some n | _ => some n
def badForm (ps : List Pie) (F : Vs) : Option Str := ps.findSome? (badPie F)
/-- texts where texts are asked for, and no large ones -/
def TPc (f : Row) : Pc → Prop
  | .say _ => True
  | .ask n .. => ∀ t, f n = some t → t.length ≤ 1000
def TPie (F : Vs) : Pie → Prop
  | .one (.say _) => True
  | .one (.ask n ..) => ∀ x, F n = some x → ∃ t, x = .text t ∧ t.length ≤ 1000
  | .rows n inner .. => ∀ x, F n = some x → ∃ rs, x = .rows rs ∧ rs.length ≤ 1000 ∧ ∀ f ∈ rs, ∀ p ∈ inner, TPc f p
theorem findSome_at {α β : Type} {f : α → Option β} : ∀ {l : List α} {i : Nat} {a : α} {b : β}, (∀ x ∈ l.take i, f x = none) → l[i]? = some a → f a = some b → l.findSome? f = some b
  | [], i, a, b, _, h, _ => by simp at h
  | x :: r, 0, a, b, _, h, e => by
    have : x = a := by simpa using h
    rw [this, List.findSome?_cons, e]
  | x :: r, i + 1, a, b, p, h, e => by
    have h1 : f x = none := p x (by rw [List.take_succ_cons]; exact List.mem_cons_self)
    rw [List.findSome?_cons, h1]
    exact findSome_at (i := i) (fun y hy => p y (by rw [List.take_succ_cons]; exact List.mem_cons_of_mem _ hy)) (by simpa using h) e
theorem findSome_no {α β : Type} {f : α → Option β} {l : List α} (h : ∀ x ∈ l, f x = none) : l.findSome? f = none := List.findSome?_eq_none_iff.mpr h
theorem findSome_no' {α β : Type} {f : α → Option β} {l : List α} (h : l.findSome? f = none) : ∀ x ∈ l, f x = none := List.findSome?_eq_none_iff.mp h
theorem badPc_ask {f : Row} {n sg : Str} {lo hi : Int} : badPc f (.ask n sg lo hi) = match f n with | none => some n | some t => if fitsB sg lo hi t = true then none else some n := rfl
theorem badPie_ask {F : Vs} {n sg : Str} {lo hi : Int} : badPie F (.one (.ask n sg lo hi)) = match F n with | some (.text t) => if fitsB sg lo hi t = true then none else some n | _ => some n := rfl
theorem badPie_rows {F : Vs} {n gap : Str} {inner : List Pc} {lo hi : Int} : badPie F (.rows n inner gap lo hi) = match F n with | some (.rows rs) => if lo ≤ (rs.length : Int) ∧ (rs.length : Int) ≤ hi then rs.findSome? (badRow inner) else some n | _ => some n := rfl
theorem badPc_fit {f : Row} : ∀ {p : Pc}, badPc f p = none → FitPc f p
  | .say _, _ => trivial
  | .ask n sg lo hi, h => by
    cases e : f n with
    | none => rw [badPc_ask, e] at h; cases h
    | some t =>
      rw [badPc_ask, e] at h
      dsimp only at h
      by_cases c : fitsB sg lo hi t = true
      · exact ⟨t, e, fitsB_iff.mp c⟩
      · rw [if_neg c] at h; cases h
theorem badPie_fit {F : Vs} : ∀ {p : Pie}, badPie F p = none → FitPie F p
  | .one (.say _), _ => trivial
  | .one (.ask n sg lo hi), h => by
    cases e : F n with
    | none => rw [badPie_ask, e] at h; cases h
    | some x =>
      rw [badPie_ask, e] at h
      cases x with
      | text t =>
        dsimp only at h
        by_cases c : fitsB sg lo hi t = true
        · exact ⟨t, e, fitsB_iff.mp c⟩
        · rw [if_neg c] at h; cases h
      | rows rs => cases h
  | .rows n inner gap lo hi, h => by
    cases e : F n with
    | none => rw [badPie_rows, e] at h; cases h
    | some x =>
      rw [badPie_rows, e] at h
      cases x with
      | text t => cases h
      | rows rs =>
        dsimp only at h
        by_cases c : lo ≤ (rs.length : Int) ∧ (rs.length : Int) ≤ hi
        · rw [if_pos c] at h
          exact ⟨rs, e, c.1, c.2, fun f hf p hp => badPc_fit (findSome_no' (findSome_no' h f hf) p hp)⟩
        · rw [if_neg c] at h; cases h
section
variable {P : Program} {w : World} {K : PySem.W.Frag} {mg : Str → Option Value} {base : Heap} {D : Adr}
/-! ### BadValue -/
/-- it is refused with this name -/
def RefV (D : Adr) (E : XK) (H : Hp) (n : Str) : Prop := ∀ H' d, Same H H' → H' d = some (.xd [("name", .str n)]) → E (.ref D.cBadValue) (some d) H'
theorem RefV.mono {E : XK} {H H' : Hp} {n : Str} (r : RefV D E H n) (e : Same H H') : RefV D E H' n := fun H2 d e2 => r H2 d (e.trans e2)
theorem scBV : FnScope ["self", "name", "words"] ["self", "name", "words"] (defScope sBadValueI) := ⟨rfl, rfl, rfl, by decide +kernel, rfl, by decide +kernel, by decide +kernel⟩
def spBV (D : Adr) : Sp := fun vs H Q _ => ∃ (a : Addr) (n : Str) (wd : V), vs = [.ref a, .str n, wd] ∧ H a = some (XMade a D.cBadValue none) ∧ ∀ d, H d = none → d ≠ a → Q .non (L2.upd (L2.upd (L2.upd H a (XMade a D.cBadValue none)) a (XMade a D.cBadValue (some d))) d (.xd [("name", .str n)]))
theorem ok_BV (T : Txt w K mg D) : FnOk P w K mg base CX0 1 D.aBadValueI D.dBadValueI ["self", "name", "words"] (spBV D) := by
  obtain ⟨dfl, F⟩ := T.fBadValueI
  refine F.ok scBV (fun vs H Q E h => ?_) (fun cdv A outer s H vs Q E hr h => ?_)
  · obtain ⟨a, n, wd, rfl, _⟩ := h; rfl
  · obtain ⟨a, n, wd, rfl, ha, q⟩ := h
    refine ⟨_, pss_cons (ps_expr (pe_init (pe_glob (v := .ref D.cFormError) rfl T.mgFormError rfl) T.xbFormError (pa_cons (pv 0) (pa_cons (pv 1) (pa_cons (pv 2) pa_nil))))) (pss_one (ps_fldX (pv 0) (pv 1) rfl)), ?_⟩
    refine ⟨rfl, _, rfl, _, rfl, _, rfl, a, D.cBadValue, none, [.str n, wd], rfl, (by show 2 ≤ 1000; decide), ha, T.xiBadValue.xm, ?_⟩
    refine ⟨_, rfl, _, rfl, a, D.cBadValue, rfl, upd_same, T.xiBadValue.xm, T.nBadValueName, fun d hd ne => q d ?_ ne⟩
    rw [upd_ne ne] at hd
    exact hd
theorem bv_done {X : Cx} {E : XK} {H : Hp} {n : Str} {wd : V} {a : Addr} (r : RefV D E H n) (ha : H a = none) (n0 : X.s₀.heap.get? a = none) :
    spBV D [.ref a, .str n, wd] (L2.upd H a (XMade a D.cBadValue none)) (fun v H2 => v = .non ∧ ∃ a' dx, V.ref a = .ref a' ∧ X.s₀.heap.get? a' = none ∧ H2 a' = some (XMade a' D.cBadValue dx) ∧ E (.ref D.cBadValue) dx (del H2 a')) E0 := by
  refine ⟨a, n, wd, rfl, upd_same, fun d hd ne => ⟨rfl, a, some d, rfl, n0, ?_, r _ d (fun b o h => ?_) ?_⟩⟩
  · rw [upd_ne (Ne.symm ne), upd_same]
  · rw [upd_ne ne] at hd
    have h1 := ne_of_none h ha
    have h2 := ne_of_none h hd
    rw [del_ne h1, upd_ne h2, upd_ne h1, upd_ne h1, upd_ne h1]
    exact h
  · rw [del_ne ne, upd_same]
/-! ### value_of -/
def spVOx (K : PySem.W.Frag) (D : Adr) : Sp := fun vs H Q E => ∃ (a C d : Addr) (kvs : List (Key × V)) (n : Str) (lo hi : Int), vs = [.ref a, .ref d] ∧ HasV K C ∧ Fld H a C [("name", .str n), ("least", .int lo), ("most", .int hi)] ∧ Rd H d (.dK kvs) ∧
  ((valV kvs (Sum.inr n) = none ∧ RefV D E H n) ∨ ∃ u k, valV kvs (Sum.inr n) = some u ∧ LenV K u H k ∧ ((lo ≤ (k : Int) ∧ (k : Int) ≤ hi) → Q u H) ∧ (¬ (lo ≤ (k : Int) ∧ (k : Int) ≤ hi) → RefV D E H n))
theorem okx_VO (T : Txt w K mg D) : FnOk P w K mg base (CXr P w) 3 D.aValueOf D.dValueOf ["part", "values"] (spVOx K D) := by
  have G : FnOk P w K mg base CX0 1 D.aBadValueI D.dBadValueI ["self", "name", "words"] (spBV D) := ok_BV T
  refine T.fValueOf.okR scVO (fun vs H Q E h => ?_) (fun cdv A outer s H vs Q E hr h hX => ?_)
  · obtain ⟨a, C, d, kvs, n, lo, hi, rfl, _⟩ := h; rfl
  · obtain ⟨a, C, d, kvs, n, lo, hi, rfl, B, ⟨dx, fs, ha, hf⟩, hd, h⟩ := h
    have hu := hu_of hr
    have en := hf ("name", .str n) List.mem_cons_self
    have el := hf ("least", .int lo) (List.mem_cons_of_mem _ List.mem_cons_self)
    have em := hf ("most", .int hi) (List.mem_cons_of_mem _ (List.mem_cons_of_mem _ List.mem_cons_self))
    refine ⟨_, pss_cons (ps_if (pt_cmp (pc_dnotin hu (pe_fld (pv 0) rfl) (pv 1))) (pss_one (ps_raiseI (E := E) T.xiBadValue.xm (pe_makeX T.xiBadValue G hr rfl T.mgBadValue T.bBadValueI .nil pass0 (pa_cons (pe_fld (pv 0) rfl) (pa_cons pe_str pa_nil))) hX)) pss_nil)
      (pss_cons (ps_set (i := 2) scVO.nd rfl (Or.inl rfl) (pe_dget hu (pv 1) (pe_fld (pv 0) rfl) (fun _ _ => rfl)))
      (pss_cons (ps_if (pt_cmpR op_lt (pe_callB call_len rfl T.zLen PySem.boot_len (pa_cons (pv 2) pa_nil)) (pe_fld (pv 0) rfl) (nomark _)) (pss_one (ps_raiseI (E := E) T.xiBadValue.xm (pe_makeX T.xiBadValue G hr rfl T.mgBadValue T.bBadValueI .nil pass0 (pa_cons (pe_fld (pv 0) rfl) (pa_cons pe_str pa_nil))) hX)) pss_nil)
      (pss_cons (ps_if (pt_cmpR op_gt (pe_callB call_len rfl T.zLen PySem.boot_len (pa_cons (pv 2) pa_nil)) (pe_fld (pv 0) rfl) (nomark _)) (pss_one (ps_raiseI (E := E) T.xiBadValue.xm (pe_makeX T.xiBadValue G hr rfl T.mgBadValue T.bBadValueI .nil pass0 (pa_cons (pe_fld (pv 0) rfl) (pa_cons pe_str pa_nil))) hX)) pss_nil)
      (pss_one (ps_ret (pv 2)))))), ?_⟩
    rcases h with ⟨hv, r⟩ | ⟨u, k, hv, hlen, q, qn⟩
    · have dg : DGet H d (.str n) none := .inl ⟨kvs, Sum.inr n, hd, rfl, hv.symm⟩
      refine ⟨_, rfl, a, C, dx, _, _, rfl, ha, B.cl, B.n, en, _, rfl, d, none, rfl, dg, _, rfl, iteT ?_⟩
      exact ⟨_, rfl, a, C, dx, _, _, rfl, ha, B.cl, B.n, en, (by show 2 ≤ 1000; decide), fun a' ha' n0 => bv_done r ha' n0⟩
    · have dg : DGet H d (.str n) (some u) := .inl ⟨kvs, Sum.inr n, hd, rfl, hv.symm⟩
      refine ⟨_, rfl, a, C, dx, _, _, rfl, ha, B.cl, B.n, en, _, rfl, d, some u, rfl, dg, _, rfl, iteF ?_⟩
      refine ⟨_, rfl, _, rfl, a, C, dx, _, _, rfl, ha, B.cl, B.n, en, d, u, rfl, dg, ?_⟩
      refine ⟨_, rfl, u, k, rfl, hlen, _, rfl, a, C, dx, _, _, rfl, ha, B.cl, B.l, el, _, _, rfl, rfl, _, rfl, ite2 (fun c => ?_) (fun c => ?_)⟩
      · have c : (k : Int) < lo := of_decide_eq_true c
        exact ⟨_, rfl, a, C, dx, _, _, rfl, ha, B.cl, B.n, en, (by show 2 ≤ 1000; decide), fun a' ha' n0 => bv_done (qn fun z => by omega) ha' n0⟩
      have c : ¬ (k : Int) < lo := fun z => c (decide_eq_true z)
      refine ⟨_, rfl, u, k, rfl, hlen, _, rfl, a, C, dx, _, _, rfl, ha, B.cl, B.m, em, _, _, rfl, rfl, _, rfl, ite2 (fun c2 => ?_) (fun c2 => ?_)⟩
      · have c2 : hi < (k : Int) := of_decide_eq_true c2
        exact ⟨_, rfl, a, C, dx, _, _, rfl, ha, B.cl, B.n, en, (by show 2 ≤ 1000; decide), fun a' ha' n0 => bv_done (qn fun z => by omega) ha' n0⟩
      have c2 : ¬ hi < (k : Int) := fun z => c2 (decide_eq_true z)
      exact ⟨_, rfl, q ⟨by omega, by omega⟩⟩
/-! ### filled_ask -/
def spFAx (D : Adr) : Sp := fun vs H Q E => ∃ (d : Addr) (kvs : List (Key × V)) (n sg : Str) (lo hi : Int) (v : V), vs = [v, .ref d] ∧ (Pc.ask n sg lo hi).Obj D.cl H v ∧ Rd H d (.dK kvs) ∧
  ((valV kvs (Sum.inr n) = none ∧ RefV D E H n) ∨ ∃ t, valV kvs (Sum.inr n) = some (.str t) ∧ t.length ≤ 1000 ∧ (Fits sg lo hi t → Q (.str t) H) ∧ (¬ Fits sg lo hi t → RefV D E H n))
theorem okx_FA (T : Txt w K mg D) : FnOk P w K mg base (CXr P w) 4 D.aFilledAsk D.dFilledAsk ["ask", "values"] (spFAx D) := by
  have GB : FnOk P w K mg base CX0 1 D.aBadValueI D.dBadValueI ["self", "name", "words"] (spBV D) := ok_BV T
  have G : FnOk P w K mg base (CXr P w) 3 D.aValueOf D.dValueOf ["part", "values"] (spVOx K D) := okx_VO T
  refine T.fFilledAsk.okR scFA (fun vs H Q E h => ?_) (fun cdv A outer s H vs Q E hr h hX => ?_)
  · obtain ⟨d, kvs, n, sg, lo, hi, v, rfl, _⟩ := h; rfl
  · obtain ⟨d, kvs, n, sg, lo, hi, v, rfl, ⟨a, rfl, hfl⟩, hd, h⟩ := h
    have hr2 : Room 2 _ := hr.mono (by decide)
    refine ⟨_, pss_cons (ps_set (i := 2) scFA.nd rfl (Or.inl rfl) (pe_call (E := E) G hr rfl T.mValueOf T.fValueOf.kp T.bValueOf .nil (passR hX) (pa_cons (pv 0) (pa_cons (pv 1) pa_nil))))
      (pss_cons (ps_for own_cx rfl (pi_str (pv 2)) (pg_name (i := 3) scFA.nd rfl (Or.inl rfl)) (pss_one (ps_if (pt_cmpR op_notInSign (pv 3) (pe_fld (pv 0) rfl) rfl) (pss_one (ps_raiseI (E := E) T.xiBadValue.xm (pe_makeX T.xiBadValue GB hr2 rfl T.mgBadValue T.bBadValueI .nil pass0 (pa_cons (pe_fld (pv 0) rfl) (pa_cons pe_str pa_nil))) hX)) pss_nil)))
      (pss_one (ps_ret (pv 2)))), ?_⟩
    have hflv : Fld H a D.cAsk [("name", .str n), ("least", .int lo), ("most", .int hi)] := hfl.sub (allc List.mem_cons_self (allc (List.mem_cons_of_mem _ (List.mem_cons_of_mem _ List.mem_cons_self)) (allc (List.mem_cons_of_mem _ (List.mem_cons_of_mem _ (List.mem_cons_of_mem _ List.mem_cons_self))) alln)))
    refine ⟨_, rfl, _, rfl, a, D.cAsk, d, kvs, n, lo, hi, rfl, ⟨T.kAsk.cl, T.nAskName, T.nAskLeast, T.nAskMost⟩, hflv, hd, ?_⟩
    rcases h with h | ⟨t, hv, hz, q, qn⟩
    · exact .inl h
    refine .inr ⟨.str t, t.length, hv, ⟨small hz, rfl⟩, fun hb => ?_, fun hb => qn fun f => hb ⟨f.lo, f.hi⟩⟩
    obtain ⟨dx, fs, ha, hf⟩ := hfl
    have es := hf ("signs", .str sg) (List.mem_cons_of_mem _ List.mem_cons_self)
    have en := hf ("name", .str n) List.mem_cons_self
    refine ⟨_, rfl, t, rfl, for_str (fun i σ H' => H' = H ∧ (∀ c ∈ t.cps.toList.take i, c ∈ sg.cps.toList) ∧ ∃ o, σ = [some (.ref a), some (.ref d), some (.str t), o]) ⟨rfl, (fun c z => by cases z), none, rfl⟩ (fun i c σ H' hc e => ?_) (fun σ H' e => ?_)⟩
    · obtain ⟨rfl, hall, o, rfl⟩ := e
      have hc' : t.cps.toList[i]? = some c := by rw [Array.getElem?_toList]; exact hc
      refine ⟨_, rfl, _, rfl, a, _, dx, _, _, rfl, ha, T.kAsk.cl, T.nAskSigns, es, c, sg, rfl, rfl, _, rfl, ?_⟩
      by_cases hm : c ∈ sg.cps.toList
      · refine iteNS hm ⟨rfl, fun y hy => ?_, _, rfl⟩
        rw [take_snoc hc'] at hy
        rcases List.mem_append.mp hy with z | z
        · exact hall y z
        · have : y = c := by simpa using z
          rw [this]; exact hm
      · refine iteN hm ?_
        exact ⟨_, rfl, a, _, dx, _, _, rfl, ha, T.kAsk.cl, T.nAskName, en, (by show 2 ≤ 1000; decide), fun a' ha' n0 => bv_done (qn fun f => hm (f.all c (List.mem_of_getElem? hc'))) ha' n0⟩
    · obtain ⟨rfl, hall, o, rfl⟩ := e
      refine ⟨_, rfl, q ⟨hb.1, hb.2, fun c hc => hall c ?_⟩⟩
      rw [← Array.length_toList, List.take_length]
      exact hc
end
end Lf

set_option Elab.async false
set_option linter.all false
set_option maxRecDepth 100000
set_option maxHeartbeats 4000000
namespace Lf
open PySem L2
section
variable {P : Program} {w : World} {K : PySem.W.Frag} {mg : Str → Option Value} {base : Heap} {D : Adr}
/-! ### filled_part, filled_parts -/
def spFPx {α β : Type} (D : Adr) (Ob : Hp → α → V → Prop) (VA : Hp → β → V → Prop) (ty : β → α → Prop) (wr : β → α → Str) (bad : β → α → Option Str) : Sp := fun vs H Q E => ∃ (a : α) (b : β) (v d : V), vs = [v, d] ∧ Ob H a v ∧ VA H b d ∧ ty b a ∧
  (bad b a = none → ∀ H', Same H H' → Q (.str (wr b a)) H') ∧ ∀ n, bad b a = some n → RefV D E H n
def TyR (f : Row) (p : Pc) : Prop := p.ok ∧ TPc f p
theorem okx_FPR (T : Txt w K mg D) : FnOk P w K mg base (CXr P w) 5 D.aFilledPart D.dFilledPart ["part", "values"] (spFPx D (fun H p v => Pc.Obj D.cl H p v) RowEx TyR wPc badPc) := by
  have G : FnOk P w K mg base (CXr P w) 4 D.aFilledAsk D.dFilledAsk ["ask", "values"] (spFAx D) := okx_FA T
  refine T.fFilledPart.okR scFP (fun vs H Q E h => ?_) (fun cdv A outer s H vs Q E hr h hX => ?_)
  · obtain ⟨a, b, v, d, rfl, _⟩ := h; rfl
  · obtain ⟨p, f, v, d, rfl, hp, ⟨da, kvs, rfl, hd, hv⟩, ⟨ok, ty⟩, q, qn⟩ := h
    refine ⟨_, pss_cons (ps_if (pt_val (pe_callB call_isinst rfl T.zIsinstance PyProof.Rows.boot_isinstance (pa_cons (pv 0) (pa_cons (pe_glob (v := .ref D.cSay) rfl T.mgSay rfl) pa_nil)))) (pss_one (ps_ret (pe_fld (pv 0) rfl))) pss_nil)
      (pss_cons (ps_if (pt_val (pe_callB call_isinst rfl T.zIsinstance PyProof.Rows.boot_isinstance (pa_cons (pv 0) (pa_cons (pe_glob (v := .ref D.cAsk) rfl T.mgAsk rfl) pa_nil)))) (pss_one (ps_ret (pe_call (E := E) G hr rfl T.mFilledAsk T.fFilledAsk.kp T.bFilledAsk .nil (passR hX) (pa_cons (pv 0) (pa_cons (pv 1) pa_nil))))) pss_nil)
      (pss_one ps_never)), ?_⟩
    cases p with
    | say t =>
      obtain ⟨a, rfl, dx, fs, ha, hf⟩ := hp
      refine ⟨_, rfl, _, _, true, .inl ⟨_, rfl, T.isSaySay⟩, ty_of T.kSay ha, _, rfl, iteT ?_⟩
      exact ⟨_, rfl, a, _, dx, _, _, rfl, ha, T.kSay.cl, T.nSayText, hf _ List.mem_cons_self, q rfl H (Same.refl H)⟩
    | ask n sg lo hi =>
      obtain ⟨a, rfl, dx, fs, ha, hf⟩ := id hp
      refine ⟨_, rfl, _, _, false, .inl ⟨_, rfl, T.isAskSay⟩, ty_of T.kAsk ha, _, rfl, iteF ?_⟩
      refine ⟨_, rfl, _, _, true, .inl ⟨_, rfl, T.isAskAsk⟩, ty_of T.kAsk ha, _, rfl, iteT ?_⟩
      refine ⟨_, rfl, _, rfl, da, kvs, n, sg, lo, hi, _, rfl, hp, hd, ?_⟩
      have hvn := hv n
      cases e : f n with
      | none =>
        rw [e] at hvn
        refine .inl ⟨hvn, qn n ?_⟩
        show (match f n with | none => some n | some t => if fitsB sg lo hi t = true then none else some n) = some n
        rw [e]
      | some t =>
        rw [e] at hvn
        refine .inr ⟨t, hvn, ty t e, fun ft => ?_, fun ft => qn n ?_⟩
        · have := q (by
            show (match f n with | none => some n | some t => if fitsB sg lo hi t = true then none else some n) = none
            rw [e]; exact if_pos (fitsB_iff.mpr ft)) H (Same.refl H)
          rw [wPc_ask e] at this
          exact this
        · show (match f n with | none => some n | some t => if fitsB sg lo hi t = true then none else some n) = some n
          rw [e]; exact if_neg fun z => ft (fitsB_iff.mp z)
def spFPsx {α β : Type} (D : Adr) (Ob : Hp → α → V → Prop) (VA : Hp → β → V → Prop) (ty : β → α → Prop) (wr : β → α → Str) (bad : β → α → Option Str) : Sp := fun vs H Q E => ∃ (l : Addr) (us : List V) (as : List α) (b : β) (d : V), vs = [.ref l, d] ∧ H l = some (.lst us) ∧ Paired (Ob H) as us ∧ VA H b d ∧ as.length ≤ 100 ∧ (∀ a ∈ as, ty b a ∧ (bad b a = none → (wr b a).length ≤ 500)) ∧
  (as.findSome? (bad b) = none → ∀ H', Same H H' → Q (.str (cat (as.map (wr b)))) H') ∧ ∀ n, as.findSome? (bad b) = some n → RefV D E H n
theorem okx_fparts (T : Txt w K mg D) {α β : Type} {Ob : Hp → α → V → Prop} {VA : Hp → β → V → Prop} {ty : β → α → Prop} {wr : β → α → Str} {bad : β → α → Option Str} {k : Nat} (G : FnOk P w K mg base (CXr P w) k D.aFilledPart D.dFilledPart ["part", "values"] (spFPx D Ob VA ty wr bad))
    (obM : ∀ {H H' : Hp}, Same H H' → ∀ {a : α} {v : V}, Ob H a v → Ob H' a v) (vaM : ∀ {H H' : Hp}, Same H H' → ∀ {b : β} {v : V}, VA H b v → VA H' b v) :
    FnOk P w K mg base (CXr P w) (k + 1) D.aFilledParts D.dFilledParts ["parts", "values"] (spFPsx D Ob VA ty wr bad) := by
  refine T.fFilledParts.okR scFPs (fun vs H Q E h => ?_) (fun cdv A outer s H vs Q E hr h hX => ?_)
  · obtain ⟨l, us, as, b, d, rfl, _⟩ := h; rfl
  · obtain ⟨l, us, as, b, d, rfl, hl, hp, hd, h100, hw, q, qn⟩ := h
    have hus : us.length = as.length := hp.length.symm
    refine ⟨_, pss_one (ps_ret (pe_bm PySem.F.plainAttrs_str PySem.F.slot_str_join PySem.F.type_str_join mt_join pe_str (pa_cons (pe_compX (cp := [(1, "values")]) (EX := E) (te := tCall (spFPx D Ob VA ty wr bad) [] E (tCons (tVar 0) (tCons (tVar 1) tNil)))
      (CompScope.of (defScope sFilledParts) ["parts", "values"] rfl rfl (by decide +kernel)) hX (pi_list (pv 0)) (fun _ _ _ _ _ _ => pts_nil) (fun _ _ _ _ _ _ hx => pe_call G hr rfl T.mFilledPart T.fFilledPart.kp T.bFilledPart .nil hx (pa_cons (pv 0) (pa_cons (pv 1) pa_nil)))) pa_nil))), ?_⟩
    refine ⟨rfl, _, rfl, l, rfl, ⟨_, SqL.of hl⟩, comp_list (xs := us) (fun i ys H' => Same H H' ∧ ys = ((as.take i).map fun a => V.str (wr b a)) ∧ ∀ a ∈ as.take i, bad b a = none) ⟨Same.refl H, rfl, fun _ z => by cases z⟩ (fun i ys H' hi e => ⟨SqL.of (e.1 _ _ hl), ?_⟩) (small (by omega)) (fun i x ys H' hx e => ?_) (fun ys H' e r hr' => ?_)⟩
    · rw [e.2.1, List.length_map, List.length_take]; omega
    · obtain ⟨e1, rfl, e3⟩ := e
      obtain ⟨a, ea, pa⟩ := Paired.two hp hx
      refine ⟨_, rfl, _, rfl, a, b, x, d, rfl, obM e1 pa, vaM e1 hd, (hw a (List.mem_of_getElem? ea)).1, fun hb H5 e5 => ⟨e1.trans e5, ?_, ?_⟩, fun n hb => (qn n (findSome_at e3 ea hb)).mono e1⟩
      · rw [take_snoc ea, List.map_append]
        rfl
      · rw [take_snoc ea]
        intro y hy
        rcases List.mem_append.mp hy with z | z
        · exact e3 y z
        · have : y = a := by simpa using z
          rw [this]; exact hb
    · obtain ⟨e1, rfl, e3⟩ := e
      rw [hus, List.take_length] at e3 ⊢
      refine ⟨_, r, as.map (wr b), rfl, rfl, SqL.of (by rw [upd_same, List.map_map]; rfl), ?_, q (findSome_no e3) _ (e1.trans (same_new hr' _))⟩
      refine joinOk_of (n := 500) (fun t ht => ?_) (by rw [List.length_map]; exact Nat.le_trans (Nat.mul_le_mul_right 500 h100) (by decide))
      obtain ⟨a, ha, rfl⟩ := List.mem_map.mp ht
      exact (hw a ha).2 (e3 a ha)
theorem okx_FPsR (T : Txt w K mg D) : FnOk P w K mg base (CXr P w) 6 D.aFilledParts D.dFilledParts ["parts", "values"] (spFPsx D (fun H p v => Pc.Obj D.cl H p v) RowEx TyR wPc badPc) :=
  okx_fparts T (okx_FPR T) (fun e _ _ h => Pc.Obj.mono e h) (fun e _ _ h => RowEx.mono e h)
/-! ### filled_rows -/
def spFRx (D : Adr) : Sp := fun vs H Q E => ∃ (H0 : Hp) (d : Addr) (kvs : List (Key × V)) (n : Str) (inner : List Pc) (gap : Str) (lo hi : Int) (v : V), vs = [v, .ref d] ∧ (Pie.rows n inner gap lo hi).Obj D.cl H0 H v ∧ (Pie.rows n inner gap lo hi).ok ∧ Rd H d (.dK kvs) ∧
  ((valV kvs (Sum.inr n) = none ∧ RefV D E H n) ∨ ∃ u rs, valV kvs (Sum.inr n) = some u ∧ ValEx H (.rows rs) u ∧ rs.length ≤ 1000 ∧ (∀ f ∈ rs, ∀ p ∈ inner, TPc f p) ∧
    (¬ (lo ≤ (rs.length : Int) ∧ (rs.length : Int) ≤ hi) → RefV D E H n) ∧ ((lo ≤ (rs.length : Int) ∧ (rs.length : Int) ≤ hi) → (rs.findSome? (badRow inner) = none → ∀ H', Same H H' → Q (.str (Str.join gap (rs.map (wRow inner)))) H') ∧ ∀ m, rs.findSome? (badRow inner) = some m → RefV D E H m))
theorem okx_FR (T : Txt w K mg D) : FnOk P w K mg base (CXr P w) 7 D.aFilledRows D.dFilledRows ["rows", "values"] (spFRx D) := by
  have GV : FnOk P w K mg base (CXr P w) 3 D.aValueOf D.dValueOf ["part", "values"] (spVOx K D) := okx_VO T
  have G : FnOk P w K mg base (CXr P w) 6 D.aFilledParts D.dFilledParts ["parts", "values"] (spFPsx D (fun H p v => Pc.Obj D.cl H p v) RowEx TyR wPc badPc) := okx_FPsR T
  refine T.fFilledRows.okR scFR (fun vs H Q E h => ?_) (fun cdv A outer s H vs Q E hr h hX => ?_)
  · obtain ⟨H0, d, kvs, n, inner, gap, lo, hi, v, rfl, _⟩ := h; rfl
  · obtain ⟨H0, d, kvs, n, inner, gap, lo, hi, v, rfl, ⟨a, l, ws, rfl, hfl, hl, _, hin⟩, ⟨_, hpo, hg, _, _, h3⟩, hd, h⟩ := h
    have hr3 : Room 3 _ := hr.mono (by decide)
    refine ⟨_, pss_cons (ps_setCompX (i := 2) (cp := [(0, "rows")]) (EX := E) (te := tCall (spFPsx D (fun H p v => Pc.Obj D.cl H p v) RowEx TyR wPc badPc) [] E (tCons (tFld K (tVar 1) "parts") (tCons (tVar 0) tNil))) scFR.nd rfl rfl (CompScope.of (defScope sFilledRows) ["rows", "values", "texts"] rfl rfl (by decide +kernel)) hX
        (pi_list (pe_call (E := E) GV hr3 rfl T.mValueOf T.fValueOf.kp T.bValueOf .nil (passR hX) (pa_cons (pv 0) (pa_cons (pv 1) pa_nil)))) (fun _ _ _ _ _ _ => pts_nil)
        (fun _ _ _ _ _ _ hx => pe_call G hr rfl T.mFilledParts T.fFilledParts.kp T.bFilledParts .nil hx (pa_cons (pe_fld (pv 1) rfl) (pa_cons (pv 0) pa_nil))))
      (pss_one (ps_ret (pe_bm PySem.F.plainAttrs_str PySem.F.slot_str_join PySem.F.type_str_join mt_join (pe_fld (pv 0) rfl) (pa_cons (pv 2) pa_nil)))), ?_⟩
    have hflv : Fld H a D.cRows [("name", .str n), ("least", .int lo), ("most", .int hi)] := hfl.sub (allc List.mem_cons_self (allc (List.mem_cons_of_mem _ (List.mem_cons_of_mem _ (List.mem_cons_of_mem _ List.mem_cons_self))) (allc (List.mem_cons_of_mem _ (List.mem_cons_of_mem _ (List.mem_cons_of_mem _ (List.mem_cons_of_mem _ List.mem_cons_self)))) alln)))
    obtain ⟨dx, fs, ha, hf⟩ := hfl
    have ep := hf ("parts", .ref l) (List.mem_cons_of_mem _ List.mem_cons_self)
    have eg := hf ("gap", .str gap) (List.mem_cons_of_mem _ (List.mem_cons_of_mem _ List.mem_cons_self))
    refine ⟨_, rfl, _, rfl, a, D.cRows, d, kvs, n, lo, hi, rfl, ⟨T.kRows.cl, T.nRowsName, T.nRowsLeast, T.nRowsMost⟩, hflv, hd, ?_⟩
    rcases h with h | ⟨u, rs, hv, ⟨m, us, rfl, hm, hrs⟩, hsz, hty, qn, qq⟩
    · exact .inl h
    have hus : us.length = rs.length := hrs.length.symm
    refine .inr ⟨.ref m, us.length, hv, .inl ⟨us, SqL.of hm, rfl⟩, fun hb => ?_, fun hb => qn fun z => hb (by rw [hus]; exact z)⟩
    rw [hus] at hb
    obtain ⟨q, qe⟩ := qq hb
    refine ⟨m, rfl, ⟨_, SqL.of hm⟩, comp_list (xs := us) (fun i ys H' => Same H H' ∧ ys = ((rs.take i).map fun f => V.str (wRow inner f)) ∧ ∀ f ∈ rs.take i, badRow inner f = none) ⟨Same.refl H, rfl, fun _ z => by cases z⟩ (fun i ys H' hi e => ⟨SqL.of (e.1 _ _ hm), ?_⟩) (small (by omega)) (fun i x ys H' hx e => ?_) (fun ys H' e r hr' => ?_)⟩
    · rw [e.2.1, List.length_map, List.length_take]; omega
    · obtain ⟨e1, rfl, e3⟩ := e
      obtain ⟨f, ef, pf⟩ := Paired.two hrs hx
      have mf := List.mem_of_getElem? ef
      refine ⟨_, rfl, a, _, dx, _, _, rfl, e1 _ _ ha, T.kRows.cl, T.nRowsParts, ep, _, rfl, l, ws, inner, f, x, rfl, e1 _ _ hl, Paired.mapP hin fun _ _ z => z.mono e1, pf.mono e1, Nat.le_trans hpo.hi (by decide), fun p hp => ⟨⟨hpo.all p hp, hty f mf p hp⟩, fun hb => Nat.le_trans (wPc_len (hpo.all p hp) (badPc_fit hb)) (by decide)⟩, fun hb H5 e5 => ⟨e1.trans e5, ?_, ?_⟩, fun m' hb => (qe m' (findSome_at e3 ef hb)).mono e1⟩
      · rw [take_snoc ef, List.map_append]
        rfl
      · rw [take_snoc ef]
        intro y hy
        rcases List.mem_append.mp hy with z | z
        · exact e3 y z
        · have : y = f := by simpa using z
          rw [this]; exact hb
    · obtain ⟨e1, rfl, e3⟩ := e
      rw [hus, List.take_length] at e3 ⊢
      have e2 := same_new hr' (.lst (rs.map fun f => V.str (wRow inner f)))
      refine ⟨_, rfl, a, _, dx, _, _, rfl, e2 _ _ (e1 _ _ ha), T.kRows.cl, T.nRowsGap, eg, rfl, _, rfl, gap, r, rs.map (wRow inner), rfl, rfl, SqL.of (by rw [upd_same, List.map_map]; rfl), ?_, q (findSome_no e3) _ (e1.trans e2)⟩
      refine joinOk_of (n := 500) (fun t ht => ?_) (by rw [List.length_map]; exact Nat.le_trans (Nat.mul_le_mul_right 500 (show rs.length ≤ 100 by omega)) (by decide))
      obtain ⟨f, hf', rfl⟩ := List.mem_map.mp ht
      have z1 := wRow_len hpo (f := f) fun p hp => badPc_fit (findSome_no' (e3 f hf') p hp)
      have z2 := hg.hi
      omega
/-! ### the form's own parts, and fill -/
def TyF (F : Vs) (p : Pie) : Prop := p.ok ∧ TPie F p
theorem okx_FPF (T : Txt w K mg D) : FnOk P w K mg base (CXr P w) 8 D.aFilledPart D.dFilledPart ["part", "values"] (spFPx D (ObE D.cl) VsEx TyF wPie badPie) := by
  have G : FnOk P w K mg base (CXr P w) 4 D.aFilledAsk D.dFilledAsk ["ask", "values"] (spFAx D) := okx_FA T
  have GR : FnOk P w K mg base (CXr P w) 7 D.aFilledRows D.dFilledRows ["rows", "values"] (spFRx D) := okx_FR T
  refine T.fFilledPart.okR scFP (fun vs H Q E h => ?_) (fun cdv A outer s H vs Q E hr h hX => ?_)
  · obtain ⟨a, b, v, d, rfl, _⟩ := h; rfl
  · obtain ⟨p, F, v, d, rfl, ⟨H0, hp⟩, ⟨da, kvs, rfl, hd, hv, hno⟩, ⟨ok, ty⟩, q, qn⟩ := h
    have hr4 : Room 4 _ := hr.mono (by decide)
    refine ⟨_, pss_cons (ps_if (pt_val (pe_callB call_isinst rfl T.zIsinstance PyProof.Rows.boot_isinstance (pa_cons (pv 0) (pa_cons (pe_glob (v := .ref D.cSay) rfl T.mgSay rfl) pa_nil)))) (pss_one (ps_ret (pe_fld (pv 0) rfl))) pss_nil)
      (pss_cons (ps_if (pt_val (pe_callB call_isinst rfl T.zIsinstance PyProof.Rows.boot_isinstance (pa_cons (pv 0) (pa_cons (pe_glob (v := .ref D.cAsk) rfl T.mgAsk rfl) pa_nil)))) (pss_one (ps_ret (pe_call (E := E) G hr4 rfl T.mFilledAsk T.fFilledAsk.kp T.bFilledAsk .nil (passR hX) (pa_cons (pv 0) (pa_cons (pv 1) pa_nil))))) pss_nil)
      (pss_one (ps_ret (pe_call (E := E) GR hr rfl T.mFilledRows T.fFilledRows.kp T.bFilledRows .nil (passR hX) (pa_cons (pv 0) (pa_cons (pv 1) pa_nil)))))), ?_⟩
    cases p with
    | one p =>
      cases p with
      | say t =>
        obtain ⟨a, rfl, dx, fs, ha, hf⟩ := hp
        refine ⟨_, rfl, _, _, true, .inl ⟨_, rfl, T.isSaySay⟩, ty_of T.kSay ha, _, rfl, iteT ?_⟩
        exact ⟨_, rfl, a, _, dx, _, _, rfl, ha, T.kSay.cl, T.nSayText, hf _ List.mem_cons_self, q rfl H (Same.refl H)⟩
      | ask n sg lo hi =>
        obtain ⟨a, rfl, dx, fs, ha, hf⟩ := id hp
        refine ⟨_, rfl, _, _, false, .inl ⟨_, rfl, T.isAskSay⟩, ty_of T.kAsk ha, _, rfl, iteF ?_⟩
        refine ⟨_, rfl, _, _, true, .inl ⟨_, rfl, T.isAskAsk⟩, ty_of T.kAsk ha, _, rfl, iteT ?_⟩
        refine ⟨_, rfl, _, rfl, da, kvs, n, sg, lo, hi, _, rfl, hp, hd, ?_⟩
        have eb : badPie F (.one (.ask n sg lo hi)) = match F n with | some (.text t) => if fitsB sg lo hi t = true then none else some n | _ => some n := rfl
        cases e : F n with
        | none => exact .inl ⟨hno n e, qn n (by rw [eb, e])⟩
        | some x =>
          obtain ⟨t, rfl, hz⟩ := ty x e
          obtain ⟨u, eu, hu⟩ := hv n _ e
          cases (show u = .str t from hu)
          refine .inr ⟨t, eu, hz, fun ft => ?_, fun ft => qn n ?_⟩
          · have := q (by rw [eb, e]; exact if_pos (fitsB_iff.mpr ft)) H (Same.refl H)
            rw [wPie_ask e] at this
            exact this
          · rw [eb, e]; exact if_neg fun z => ft (fitsB_iff.mp z)
    | rows n inner gap lo hi =>
      obtain ⟨a, l, ws, rfl, hfl, _⟩ := id hp
      obtain ⟨dx, fs, ha, hf⟩ := hfl
      refine ⟨_, rfl, _, _, false, .inl ⟨_, rfl, T.isRowsSay⟩, ty_of T.kRows ha, _, rfl, iteF ?_⟩
      refine ⟨_, rfl, _, _, false, .inl ⟨_, rfl, T.isRowsAsk⟩, ty_of T.kRows ha, _, rfl, iteF ?_⟩
      refine ⟨_, rfl, _, rfl, H0, da, kvs, n, inner, gap, lo, hi, _, rfl, hp, ok, hd, ?_⟩
      have eb : badPie F (.rows n inner gap lo hi) = match F n with | some (.rows rs) => if lo ≤ (rs.length : Int) ∧ (rs.length : Int) ≤ hi then rs.findSome? (badRow inner) else some n | _ => some n := rfl
      cases e : F n with
      | none => exact .inl ⟨hno n e, qn n (by rw [eb, e])⟩
      | some x =>
        obtain ⟨rs, rfl, hz, hty⟩ := ty x e
        obtain ⟨u, eu, hu⟩ := hv n _ e
        refine .inr ⟨u, rs, eu, hu, hz, hty, fun hb => qn n (by rw [eb, e]; exact if_neg hb), fun hb => ⟨fun hn H' e' => ?_, fun m hm => qn m (by rw [eb, e]; exact (if_pos hb).trans hm)⟩⟩
        have := q (by rw [eb, e]; exact (if_pos hb).trans hn) H' e'
        rw [wPie_rows e] at this
        exact this
theorem okx_FPsF (T : Txt w K mg D) : FnOk P w K mg base (CXr P w) 9 D.aFilledParts D.dFilledParts ["parts", "values"] (spFPsx D (ObE D.cl) VsEx TyF wPie badPie) :=
  okx_fparts T (okx_FPF T) (fun e _ _ ⟨H0, h⟩ => ⟨H0, h.mono e⟩) (fun e _ _ h => VsEx.mono e h)
def spFillx (D : Adr) : Sp := fun vs H Q E => ∃ (H0 : Hp) (ps : List Pie) (F : Vs) (v d : V), vs = [v, d] ∧ FormAt D.cl H0 H ps v ∧ FormOk ps ∧ VsEx H F d ∧ (∀ p ∈ ps, TPie F p) ∧ (badForm ps F = none → ∀ H', Same H H' → Q (.str (wForm ps F)) H') ∧ ∀ n, badForm ps F = some n → RefV D E H n
theorem okx_fill (T : Txt w K mg D) : FnOk P w K mg base (CXr P w) 10 D.aFill D.dFill ["form", "values"] (spFillx D) := by
  have G : FnOk P w K mg base (CXr P w) 9 D.aFilledParts D.dFilledParts ["parts", "values"] (spFPsx D (ObE D.cl) VsEx TyF wPie badPie) := okx_FPsF T
  refine T.fFill.okR scFill (fun vs H Q E h => ?_) (fun cdv A outer s H vs Q E hr h hX => ?_)
  · obtain ⟨H0, ps, F, v, d, rfl, _⟩ := h; rfl
  · obtain ⟨H0, ps, F, v, d, rfl, ⟨a, l, ws, m, us, rfl, hfl, hl, _, hpl, _⟩, ok, hd, hty, q, qn⟩ := h
    obtain ⟨dx, fs, ha, hf⟩ := hfl
    refine ⟨_, pss_one (ps_ret (pe_call (E := E) G hr rfl T.mFilledParts T.fFilledParts.kp T.bFilledParts .nil (passR hX) (pa_cons (pe_fld (pv 0) rfl) (pa_cons (pv 1) pa_nil)))), ?_⟩
    exact ⟨_, rfl, a, _, dx, _, _, rfl, ha, T.kForm.cl, T.nFormPlan, hf _ List.mem_cons_self, _, rfl, l, ws, ps, F, d, rfl, hl, Paired.mapP hpl fun _ _ z => ⟨H0, z⟩, hd, Nat.le_trans ok.hi (by decide), fun p hp => ⟨⟨ok.all p hp, hty p hp⟩, fun hb => Nat.le_trans (wPie_len (ok.all p hp) (badPie_fit hb)) (by decide)⟩, q, qn⟩
end
end Lf

set_option Elab.async false
set_option linter.all false
set_option maxRecDepth 100000
set_option maxHeartbeats 1000000
namespace Lf
open PySem L2
def cellOf (ns : List Int) (k : Int) : Int := if k < (ns.length : Int) then ns.getD k.toNat 0 else 0
def drawOf (ns : List Int) (k : Int) : Int :=
  (((cellOf ns (k % 61) + 7919 * k + 104729) * 48271 % 2147483647) * ((cellOf ns (k % 61) + 7919 * k + 104729) * 48271 % 2147483647) % 2147483647) * 16807 % 2147483647 / 8
theorem Same.updN {H H' : Hp} {r : Addr} (e : Same H H') (h : H r = none) (o : HO) : Same H (L2.upd H' r o) := fun b u q => by rw [upd_ne (ne_of_none q h)]; exact e b u q
theorem atI_in {α : Type} {xs : List α} {i : Int} (h0 : 0 ≤ i) (h1 : i < (xs.length : Int)) : ∃ v, v ∈ xs ∧ atI xs i = some v ∧ xs[i.toNat]? = some v := by
  have hk : i.toNat < xs.length := by omega
  have e : i = ((i.toNat : Nat) : Int) := by omega
  have q : atI xs ((i.toNat : Nat) : Int) = some xs[i.toNat] := atI_nat (List.getElem?_eq_getElem hk)
  rw [← e] at q
  exact ⟨xs[i.toNat], List.getElem_mem hk, q, List.getElem?_eq_getElem hk⟩
theorem atI_strs {zs : List Str} {i : Int} (h0 : 0 ≤ i) (h1 : i < (zs.length : Int)) : ∃ z, z ∈ zs ∧ atI (zs.map V.str) i = some (.str z) ∧ zs[i.toNat]? = some z := by
  obtain ⟨v, _, e, _⟩ := atI_in (xs := zs.map V.str) (i := i) h0 (by rw [List.length_map]; exact h1)
  have hk : i.toNat < zs.length := by omega
  refine ⟨zs[i.toNat], List.getElem_mem hk, ?_, List.getElem?_eq_getElem hk⟩
  have e2 : i = ((i.toNat : Nat) : Int) := by omega
  have q : atI (zs.map V.str) ((i.toNat : Nat) : Int) = some (.str zs[i.toNat]) := atI_nat (by rw [List.getElem?_map, List.getElem?_eq_getElem hk]; rfl)
  rw [← e2] at q
  exact q
section
variable {P : Program} {w : World} {K : PySem.W.Frag} {mg : Str → Option Value} {base : Heap} {D : Adr}
structure Scr (K : PySem.W.Frag) (H : Hp) (a : Addr) (ns : List Int) : Prop where
  at' : SqL K H a (ns.map V.int)
  few : ns.length ≤ 63
theorem Scr.mono {H H' : Hp} {a : Addr} {ns : List Int} (e : Same H H') (h : Scr K H a ns) : Scr K H' a ns := ⟨e.seq h.at', h.few⟩
theorem scCell : FnScope ["script", "k"] ["script", "k"] (defScope sLawCellAt) := ⟨rfl, rfl, rfl, by decide +kernel, rfl, by decide +kernel, by decide +kernel⟩
def spCell (K : PySem.W.Frag) : Sp := fun vs H Q _ => ∃ (a : Addr) (ns : List Int) (k : Int), vs = [.ref a, .int k] ∧ Scr K H a ns ∧ 0 ≤ k ∧ Q (.int (cellOf ns k)) H
theorem ok_cell (T : Txt w K mg D) : FnOk P w K mg base CX0 1 D.aLawCellAt D.dLawCellAt ["script", "k"] (spCell K) := by
  refine T.fLawCellAt.ok scCell (fun vs H Q E h => ?_) (fun cdv A outer s H vs Q E hr h => ?_)
  · obtain ⟨a, ns, k, rfl, _⟩ := h; rfl
  · obtain ⟨a, ns, k, rfl, ⟨hS, h63⟩, h0, q⟩ := h
    have hl : (ns.map V.int).length = ns.length := List.length_map _
    refine ⟨_, pss_cons (ps_if (pt_cmpR op_lt (pv 1) (pe_callB call_len_seq rfl T.zLen PySem.boot_len (pa_cons (pv 0) pa_nil)) (nomark _)) (pss_one (ps_ret (pe_ix ix_list (pv 0) (pv 1) (fun _ _ => rfl)))) pss_nil) (pss_one (ps_ret pe_int)), ?_⟩
    refine ⟨_, rfl, _, rfl, a, _, rfl, .inl hS, _, _, rfl, rfl, _, rfl, ?_⟩
    by_cases c : k < (((ns.map V.int).length : Nat) : Int)
    · have c' := c
      rw [hl] at c'
      obtain ⟨i, hi⟩ : ∃ i : Nat, k = (i : Int) := ⟨k.toNat, by omega⟩
      subst hi
      have hi' : i < ns.length := by omega
      refine iteD c ⟨_, rfl, _, rfl, a, _, _, _, rfl, rfl, hS, atI_nat (v := .int ns[i]) (by rw [List.getElem?_map, List.getElem?_eq_getElem hi']; rfl), ?_⟩
      have e : cellOf ns (i : Int) = ns[i] := by
        unfold cellOf
        rw [if_pos c', Int.toNat_natCast, List.getD_eq_getElem?_getD, List.getElem?_eq_getElem hi']
        rfl
      rw [e] at q
      exact q
    · refine iteDF c ?_
      rw [hl] at c
      have e : cellOf ns k = 0 := by unfold cellOf; rw [if_neg c]
      rw [e] at q
      exact q
theorem scDraw : FnScope ["script", "k", "stir"] ["script", "k"] (defScope sLawDraw) := ⟨rfl, rfl, rfl, by decide +kernel, rfl, by decide +kernel, by decide +kernel⟩
def spDraw (K : PySem.W.Frag) : Sp := fun vs H Q _ => ∃ (a : Addr) (ns : List Int) (k : Int), vs = [.ref a, .int k] ∧ Scr K H a ns ∧ 0 ≤ k ∧ k ≤ 1000000 ∧ Q (.int (drawOf ns k)) H
theorem ok_draw (T : Txt w K mg D) : FnOk P w K mg base CX0 2 D.aLawDraw D.dLawDraw ["script", "k"] (spDraw K) := by
  have G : FnOk P w K mg base CX0 1 D.aLawCellAt D.dLawCellAt ["script", "k"] (spCell K) := ok_cell T
  refine T.fLawDraw.ok scDraw (fun vs H Q E h => ?_) (fun cdv A outer s H vs Q E hr h => ?_)
  · obtain ⟨a, ns, k, rfl, _⟩ := h; rfl
  · obtain ⟨a, ns, k, rfl, hS, h0, h1, q⟩ := h
    refine ⟨_, pss_cons (ps_set (i := 2) scDraw.nd rfl (Or.inl rfl) (pe_op op_mod (pe_op op_mul (pe_op op_add (pe_op op_add (pe_call G hr rfl T.mLawCellAt T.fLawCellAt.kp T.bLawCellAt .nil pass0 (pa_cons (pv 0) (pa_cons (pe_op op_mod (pv 1) pe_int) pa_nil))) (pe_op op_mul pe_int (pv 1))) pe_int) pe_int) pe_int))
      (pss_cons (ps_set (i := 2) scDraw.nd rfl (Or.inl rfl) (pe_op op_mod (pe_op op_mul (pv 2) (pv 2)) pe_int))
      (pss_one (ps_ret (pe_op op_fdiv (pe_op op_mod (pe_op op_mul (pv 2) pe_int) pe_int) pe_int)))), ?_⟩
    refine ⟨_, rfl, _, rfl, _, _, rfl, rfl, (by show (0 : Int) < 61; decide), a, ns, k % 61, rfl, hS, Int.emod_nonneg _ (by decide), _, rfl, _, _, rfl, rfl, .inl ⟨by decide, by decide⟩, _, _, rfl, rfl, _, _, rfl, rfl, _, _, rfl, rfl, .inr ⟨by decide, by decide⟩, _, _, rfl, rfl, (by show (0 : Int) < 2147483647; decide), ?_⟩
    have b0 : 0 ≤ (cellOf ns (k % 61) + 7919 * k + 104729) * 48271 % 2147483647 := Int.emod_nonneg _ (by decide)
    have b1 : (cellOf ns (k % 61) + 7919 * k + 104729) * 48271 % 2147483647 < 2147483647 := Int.emod_lt_of_pos _ (by decide)
    refine ⟨_, rfl, _, rfl, _, _, rfl, rfl, .inl ⟨by omega, by omega⟩, _, _, rfl, rfl, (by show (0 : Int) < 2147483647; decide), ?_⟩
    exact ⟨_, rfl, _, _, rfl, rfl, .inr ⟨by decide, by decide⟩, _, _, rfl, rfl, (by show (0 : Int) < 2147483647; decide), _, _, rfl, rfl, ⟨by decide, by decide⟩, q⟩
end
end Lf

set_option Elab.async false
set_option linter.all false
set_option maxRecDepth 100000
set_option maxHeartbeats 1000000
namespace Lf
open PySem L2
section
variable {P : Program} {w : World} {K : PySem.W.Frag} {mg : Str → Option Value} {base : Heap} {D : Adr}
theorem scWord : FnScope ["script", "k", "piece", "size", "word", "j"] ["script", "k", "piece"] (defScope sLawWord) := ⟨rfl, rfl, rfl, by decide +kernel, rfl, by decide +kernel, by decide +kernel⟩
def spWord (K : PySem.W.Frag) : Sp := fun vs H Q _ => ∃ (a : Addr) (ns : List Int) (k : Int) (v : V) (n sg : Str) (lo hi : Int), vs = [.ref a, .int k, v] ∧ Scr K H a ns ∧ 0 ≤ k ∧ k ≤ 900000 ∧ (Pc.ask n sg lo hi).At H v ∧ (Pc.ask n sg lo hi).ok ∧ ∀ t, Fits sg lo hi t → Q (.str t) H
theorem snoc_cps (t : Str) (c : Nat) : (t ++ (⟨#[c]⟩ : Str)).cps.toList = t.cps.toList ++ [c] := by
  show (t.cps ++ #[c]).toList = _
  simp
theorem ok_word (T : Txt w K mg D) : FnOk P w K mg base CX0 3 D.aLawWord D.dLawWord ["script", "k", "piece"] (spWord K) := by
  have G : FnOk P w K mg base CX0 2 D.aLawDraw D.dLawDraw ["script", "k"] (spDraw K) := ok_draw T
  refine T.fLawWord.ok scWord (fun vs H Q E h => ?_) (fun cdv A outer s H vs Q E hr h => ?_)
  · obtain ⟨a, ns, k, v, n, sg, lo, hi, rfl, _⟩ := h; rfl
  · obtain ⟨a, ns, k, v, n, sg, lo, hi, rfl, hS, h0, h1, ⟨p, rfl, hp⟩, ⟨hn, hsg, hnd, b0, b1, b2⟩, q⟩ := h
    refine ⟨_, pss_cons (ps_set (i := 3) scWord.nd rfl (Or.inl rfl) (pe_op op_add (pe_ix ix_tup (pv 2) pe_int (fun _ _ => rfl)) (pe_op op_mod (pe_call G hr rfl T.mLawDraw T.fLawDraw.kp T.bLawDraw .nil pass0 (pa_cons (pv 0) (pa_cons (pv 1) pa_nil))) (pe_op op_add (pe_op op_sub (pe_ix ix_tup (pv 2) pe_int (fun _ _ => rfl)) (pe_ix ix_tup (pv 2) pe_int (fun _ _ => rfl))) pe_int))))
      (pss_cons (ps_set (i := 4) scWord.nd rfl (Or.inl rfl) pe_str)
      (pss_cons (ps_for PassesOwn.never rfl (pi_range1 rfl T.zRange (pa_cons (pv 3) pa_nil)) (pg_name (i := 5) scWord.nd rfl (Or.inl rfl))
        (pss_one (ps_set (i := 4) scWord.nd rfl (Or.inl rfl) (pe_op op_add_str (pv 4) (pe_ix ix_str (pe_ix ix_tup (pv 2) pe_int (fun _ _ => rfl)) (pe_op op_mod (pe_call G hr rfl T.mLawDraw T.fLawDraw.kp T.bLawDraw .nil pass0 (pa_cons (pv 0) (pa_cons (pe_op op_add (pe_op op_add (pv 1) pe_int) (pv 5)) pa_nil))) (pe_callB call_len_str rfl T.zLen PySem.boot_len (pa_cons (pe_ix ix_tup (pv 2) pe_int (fun _ _ => rfl)) pa_nil))) (fun _ _ => rfl))))))
      (pss_one (ps_ret (pv 4))))), ?_⟩
    have d0 : 0 ≤ drawOf ns k % (hi - lo + 1) := Int.emod_nonneg _ (by omega)
    have d1 : drawOf ns k % (hi - lo + 1) < hi - lo + 1 := Int.emod_lt_of_pos _ (by omega)
    refine ⟨_, rfl, p, _, _, _, rfl, rfl, SqT.of hp, rfl, _, rfl, _, rfl, a, ns, k, rfl, hS, h0, by omega, _, rfl, p, _, _, _, rfl, rfl, SqT.of hp, rfl, _, rfl, p, _, _, _, rfl, rfl, SqT.of hp, rfl, _, _, rfl, rfl, _, _, rfl, rfl, _, _, rfl, rfl, (by show 0 < hi - lo + 1; omega), _, _, rfl, rfl, ?_⟩
    have hz1 : 1 ≤ sg.length := hsg.lo
    have hz2 : sg.length ≤ 20 := hsg.hi
    refine ⟨_, rfl, lo + drawOf ns k % (hi - lo + 1), rfl, by omega, by omega, ?_⟩
    generalize hm : (lo + drawOf ns k % (hi - lo + 1)).toNat = m
    refine for_range (lo := 0) (n := m) (fun i σ H' => H' = H ∧ ∃ (t : Str) (o : Option V), σ = [some (.ref a), some (.int k), some (.ref p), some (.int (lo + drawOf ns k % (hi - lo + 1))), some (.str t), o] ∧ t.length = i ∧ ∀ c ∈ t.cps.toList, c ∈ sg.cps.toList)
      ⟨rfl, "", none, rfl, rfl, (fun c h => nomatch h)⟩ (fun i σ H' hi' e => ?_) (fun σ H' e => ?_)
    · obtain ⟨rfl, t, o, rfl, el, ec⟩ := e
      have hd0 : 0 ≤ drawOf ns (k + 1 + (0 + (i : Int))) % (sg.length : Int) := Int.emod_nonneg _ (by omega)
      have hd1 : drawOf ns (k + 1 + (0 + (i : Int))) % (sg.length : Int) < (sg.length : Int) := Int.emod_lt_of_pos _ (by omega)
      obtain ⟨c, hc, eat, _⟩ := atI_in (xs := sg.cps.toList) hd0 (by rw [show sg.cps.toList.length = sg.length by simp [Str.length]]; exact hd1)
      refine ⟨_, rfl, _, rfl, p, _, _, _, rfl, rfl, SqT.of hp, rfl, _, rfl, _, rfl, _, _, rfl, rfl, _, rfl, _, _, rfl, rfl, a, ns, k + 1 + (0 + (i : Int)), rfl, hS, by omega, by omega, _, rfl, p, _, _, _, rfl, rfl, SqT.of hp, rfl, sg, rfl, small (by omega), _, _, rfl, rfl, (by show 0 < (sg.length : Int); omega), sg, _, c, rfl, rfl, small (by omega), eat, t, ⟨#[c]⟩, rfl, rfl, small (by show t.length + 1 ≤ 1000; omega), ?_⟩
      refine ⟨rfl, t ++ ⟨#[c]⟩, _, rfl, by rw [strLen_append, el]; rfl, fun x hx => ?_⟩
      rw [snoc_cps] at hx
      rcases List.mem_append.mp hx with z | z
      · exact ec x z
      · have : x = c := by simpa using z
        rw [this]; exact hc
    · obtain ⟨rfl, t, o, rfl, el, ec⟩ := e
      exact ⟨_, rfl, q t ⟨by omega, by omega, ec⟩⟩
end
end Lf

set_option Elab.async false
set_option linter.all false
set_option maxRecDepth 100000
set_option maxHeartbeats 1000000
namespace Lf
open PySem L2
/-- the texts of a dict -/
def rowOf (kvs : List (Key × V)) : Row := fun n => match valV kvs (Sum.inr n) with | some (.str t) => some t | _ => none
theorem rowOf_some {kvs : List (Key × V)} {n t : Str} (h : rowOf kvs n = some t) : valV kvs (Sum.inr n) = some (.str t) := by
  unfold rowOf at h
  cases e : valV kvs (Sum.inr n : Key) with
  | none => rw [e] at h; cases h
  | some v =>
    rw [e] at h
    cases v <;> first | (cases h; rfl) | cases h
theorem rowOf_of {kvs : List (Key × V)} {n t : Str} (h : valV kvs (Sum.inr n) = some (.str t)) : rowOf kvs n = some t := by unfold rowOf; rw [h]
structure RowOk (kvs : List (Key × V)) : Prop where
  txt : ∀ p ∈ kvs, (∃ n, p.1 = Sum.inr n) ∧ ∃ t, p.2 = .str t
  few : kvs.length ≤ 10
  nd : (kvs.map (·.1)).Nodup
theorem RowOk.nil : RowOk [] := ⟨fun _ h => (nomatch h), Nat.zero_le _, List.nodup_nil⟩
theorem RowOk.put {kvs : List (Key × V)} {n t : Str} (h : RowOk kvs) (hn : valV kvs (Sum.inr n) = none) (hl : kvs.length < 10) : RowOk (putK kvs (Sum.inr n) (.str t)) := by
  refine ⟨fun p hp => ?_, ?_, nd_putK _ h.nd hn⟩
  · rw [putK_new _ hn] at hp
    rcases List.mem_append.mp hp with z | z
    · exact h.txt p z
    · have : p = (Sum.inr n, .str t) := by simpa using z
      subst this
      exact ⟨⟨n, rfl⟩, t, rfl⟩
  · rw [putK_new _ hn, List.length_append]
    exact hl
theorem rowOf_put {kvs : List (Key × V)} {n t m : Str} : rowOf (putK kvs (Sum.inr n) (.str t)) m = if m = n then some t else rowOf kvs m := by
  unfold rowOf
  rw [valV_put]
  by_cases e : m = n
  · subst e; simp
  · have : ¬ (Sum.inr m : Key) = Sum.inr n := fun z => e (Sum.inr.inj z)
    rw [if_neg this, if_neg e]
theorem FitPc.other {kvs : List (Key × V)} {n t : Str} {p : Pc} (hn : n ∉ p.nm) (h : FitPc (rowOf kvs) p) : FitPc (rowOf (putK kvs (Sum.inr n) (.str t))) p := by
  cases p with
  | say _ => trivial
  | ask m sg lo hi =>
    obtain ⟨u, e, f⟩ := h
    refine ⟨u, ?_, f⟩
    rw [rowOf_put, if_neg (fun z => hn (by rw [← z]; exact List.mem_singleton.mpr rfl))]
    exact e
theorem flat_take {α : Type} {f : α → List Str} {l : List α} {i : Nat} {x : α} (h : l[i]? = some x) (nd : (l.flatMap f).Nodup) : ∀ n ∈ f x, n ∉ (l.take i).flatMap f := by
  intro n hn hm
  have e : l = l.take i ++ (x :: l.drop (i + 1)) := by
    have hi := (List.getElem?_eq_some_iff.mp h).1
    have hx : l[i] = x := (List.getElem?_eq_some_iff.mp h).2
    rw [← hx, ← List.drop_eq_getElem_cons hi, List.take_append_drop]
  rw [e, List.flatMap_append, List.flatMap_cons, List.nodup_append] at nd
  exact nd.2.2 n hm n (List.mem_append_left _ hn) rfl
section
variable {P : Program} {w : World} {K : PySem.W.Frag} {mg : Str → Option Value} {base : Heap} {D : Adr}
theorem scRowL : FnScope ["script", "k", "pieces", "values", "j"] ["script", "k", "pieces"] (defScope sLawRow) := ⟨rfl, rfl, rfl, by decide +kernel, rfl, by decide +kernel, by decide +kernel⟩
def spRowL (K : PySem.W.Frag) : Sp := fun vs H Q _ => ∃ (a l : Addr) (ns : List Int) (k : Int) (us : List V) (ps : List Pc), vs = [.ref a, .int k, .ref l] ∧ Scr K H a ns ∧ 0 ≤ k ∧ k ≤ 800000 ∧ H l = some (.lst us) ∧ Paired (Pc.At H) ps us ∧ PartsOk ps ∧
  ∀ (d : Addr) (kvs : List (Key × V)), H d = none → RowOk kvs → kvs.length ≤ 3 → FitRow ps (rowOf kvs) → (∀ n, valV kvs (Sum.inr n) ≠ none → n ∈ ps.flatMap Pc.nm) → Q (.ref d) (L2.upd H d (.dK kvs))
theorem ok_rowL (T : Txt w K mg D) : FnOk P w K mg base CX0 4 D.aLawRow D.dLawRow ["script", "k", "pieces"] (spRowL K) := by
  have G : FnOk P w K mg base CX0 3 D.aLawWord D.dLawWord ["script", "k", "piece"] (spWord K) := ok_word T
  refine T.fLawRow.ok scRowL (fun vs H Q E h => ?_) (fun cdv A outer s H vs Q E hr h => ?_)
  · obtain ⟨a, l, ns, k, us, ps, rfl, _⟩ := h; rfl
  · obtain ⟨a, l, ns, k, us, ps, rfl, hS, h0, h1, hl, hp, ok, q⟩ := h
    have hu := hu_of hr
    have hus : us.length = ps.length := hp.length.symm
    have h3 := ok.hi
    refine ⟨_, pss_cons (ps_set (i := 3) scRowL.nd rfl (Or.inl rfl) pe_dnewK)
      (pss_cons (ps_for PassesOwn.never rfl (pi_range1 rfl T.zRange (pa_cons (pe_callB call_len_seq rfl T.zLen PySem.boot_len (pa_cons (pv 2) pa_nil)) pa_nil)) (pg_name (i := 4) scRowL.nd rfl (Or.inl rfl))
        (pss_one (ps_if (pt_cmpR op_eq (pe_ix ix_tup (pe_ix ix_list (pv 2) (pv 4) (fun _ _ => rfl)) pe_int (fun _ _ => rfl)) pe_str (nomark _))
          (pss_one (ps_dput hu (pv 3) (pe_ix ix_tup (pe_ix ix_list (pv 2) (pv 4) (fun _ _ => rfl)) pe_int (fun _ _ => rfl)) (pe_call G hr rfl T.mLawWord T.fLawWord.kp T.bLawWord .nil pass0 (pa_cons (pv 0) (pa_cons (pe_op op_add (pv 1) (pe_op op_mul pe_int (pv 4))) (pa_cons (pe_ix ix_list (pv 2) (pv 4) (fun _ _ => rfl)) pa_nil)))) rfl)) pss_nil)))
      (pss_one (ps_ret (pv 3)))), ?_⟩
    intro d hd
    have s1 := same_new hd (.dK [])
    refine ⟨_, rfl, l, us, rfl, .inl (SqL.of (s1 _ _ hl)), _, rfl, by omega, by omega, ?_⟩
    rw [Int.toNat_natCast]
    refine for_range (lo := 0) (n := us.length) (fun i σ H' => ∃ (kvs : List (Key × V)) (o : Option V), σ = [some (.ref a), some (.int k), some (.ref l), some (.ref d), o] ∧ H' = L2.upd H d (.dK kvs) ∧ RowOk kvs ∧ kvs.length ≤ i ∧ (∀ p ∈ ps.take i, FitPc (rowOf kvs) p) ∧ ∀ n, valV kvs (Sum.inr n) ≠ none → n ∈ (ps.take i).flatMap Pc.nm)
      ⟨[], none, rfl, rfl, RowOk.nil, Nat.le_refl _, (fun _ z => nomatch z), (fun n z => absurd rfl z)⟩ (fun i σ H' hi e => ?_) (fun σ H' e => ?_)
    · obtain ⟨kvs, o, rfl, rfl, rok, rl, rf, rn⟩ := e
      have s2 := same_new hd (.dK kvs)
      have hx : us[i]? = some us[i] := List.getElem?_eq_getElem hi
      obtain ⟨p, ep, pat⟩ := Paired.two hp hx
      have hat : atI us (0 + (i : Int)) = some us[i] := by rw [Int.zero_add]; exact atI_nat hx
      have okp := ok.all p (List.mem_of_getElem? ep)
      have fresh := flat_take (f := Pc.nm) ep ok.nd
      have tk := take_snoc ep
      obtain ⟨b, eb, hb⟩ := pat
      rw [eb] at hat
      cases p with
      | say z =>
        refine ⟨_, rfl, _, rfl, l, us, _, _, rfl, rfl, SqL.of (s2 _ _ hl), hat, b, _, _, _, rfl, rfl, SqT.of (s2 _ _ hb), rfl, rfl, _, rfl, iteDF ne_as.symm ?_⟩
        refine ⟨kvs, _, rfl, rfl, rok, by omega, fun x hx' => ?_, fun n hn => ?_⟩
        · rw [tk] at hx'
          rcases List.mem_append.mp hx' with y | y
          · exact rf x y
          · have : x = .say z := by simpa using y
            subst this; trivial
        · rw [tk, List.flatMap_append]; exact List.mem_append_left _ (rn n hn)
      | ask m sg lo hi' =>
        have hm := fresh m (List.mem_singleton.mpr rfl)
        have hnone : valV kvs (Sum.inr m : Key) = none := by
          cases z : valV kvs (Sum.inr m : Key) with
          | none => rfl
          | some v => exact absurd (rn m (by rw [z]; exact fun y => nomatch y)) hm
        refine ⟨_, rfl, _, rfl, l, us, _, _, rfl, rfl, SqL.of (s2 _ _ hl), hat, b, _, _, _, rfl, rfl, SqT.of (s2 _ _ hb), rfl, rfl, _, rfl, iteD rfl ?_⟩
        refine ⟨_, rfl, _, rfl, _, rfl, _, _, rfl, rfl, .inl ⟨by decide, by decide⟩, _, _, rfl, rfl, _, rfl, _, rfl, l, us, _, _, rfl, rfl, SqL.of (s2 _ _ hl), hat, a, ns, k + 6 * (0 + (i : Int)), _, m, sg, lo, hi', rfl, hS.mono s2, by omega, by omega, ⟨b, rfl, s2 _ _ hb⟩, okp, fun t ft => ?_⟩
        refine ⟨_, rfl, _, rfl, _, rfl, l, us, _, _, rfl, rfl, SqL.of (s2 _ _ hl), hat, b, _, _, _, rfl, rfl, SqT.of (s2 _ _ hb), rfl, d, _, rfl, DPut.k (k := Sum.inr m) upd_same (small1000 (by omega)), ?_⟩
        refine ⟨putK kvs (Sum.inr m) (.str t), _, rfl, upd_upd_same, rok.put hnone (by omega), Nat.le_trans (length_putK _ _ _) (by omega), fun x hx' => ?_, fun n hn => ?_⟩
        · rw [tk] at hx'
          rcases List.mem_append.mp hx' with y | y
          · exact FitPc.other (fun z => hm (List.mem_flatMap.mpr ⟨x, y, z⟩)) (rf x y)
          · have : x = .ask m sg lo hi' := by simpa using y
            subst this
            exact ⟨t, by rw [rowOf_put, if_pos rfl], ft⟩
        · rw [tk, List.flatMap_append]
          rw [valV_put] at hn
          by_cases z : (Sum.inr n : Key) = Sum.inr m
          · rw [Sum.inr.inj z]
            exact List.mem_append_right _ (by simp [Pc.nm])
          · rw [if_neg z] at hn
            exact List.mem_append_left _ (rn n hn)
    · obtain ⟨kvs, o, rfl, rfl, rok, rl, rf, rn⟩ := e
      rw [hus, List.take_length] at rf rn
      exact ⟨_, rfl, q d kvs hd rok (by omega) rf rn⟩
end
end Lf

set_option Elab.async false
set_option linter.all false
set_option maxRecDepth 100000
set_option maxHeartbeats 1000000
namespace Lf
open PySem L2
def kNone : Key := Sum.inr "none"
/-- a row of the values: its texts fit, and besides there may stand none -/
structure RowG (inner : List Pc) (rk : List (Key × V)) : Prop where
  ok : RowOk rk
  few : rk.length ≤ 3 ∨ (rk.length ≤ 4 ∧ valV rk kNone ≠ none)
  fit : FitRow inner (rowOf rk)
/-- an item of a list of rows: no dict of those in d -/
def RowsG (H : Hp) (d : Addr) (inner : List Pc) (us : List V) : Prop := ∀ u ∈ us, ∃ a rk, u = .ref a ∧ a ≠ d ∧ H a = some (.dK rk) ∧ RowG inner rk
def ValF (H : Hp) (d : Addr) (kvs : List (Key × V)) : Pie → Prop
  | .one (.say _) => True
  | .one (.ask n sg lo hi) => ∃ t, valV kvs (Sum.inr n) = some (.str t) ∧ Fits sg lo hi t
  | .rows n inner _ lo hi => ∃ l us, valV kvs (Sum.inr n) = some (.ref l) ∧ H l = some (.lst us) ∧ lo ≤ (us.length : Int) ∧ (us.length : Int) ≤ hi ∧ RowsG H d inner us
/-- every value is a text or a list of rows -/
def VOk (H : Hp) (d : Addr) (v : V) : Prop := (∃ t, v = .str t) ∨ ∃ l us inner, v = .ref l ∧ H l = some (.lst us) ∧ us.length ≤ 3 ∧ RowsG H d inner us
structure DatOk (H : Hp) (d : Addr) (kvs : List (Key × V)) : Prop where
  all : ∀ p ∈ kvs, (∃ n, p.1 = Sum.inr n) ∧ VOk H d p.2
  nd : (kvs.map (·.1)).Nodup
theorem RowsG.mono {H H' : Hp} (e : Same H H') {d : Addr} {inner : List Pc} {us : List V} (h : RowsG H d inner us) : RowsG H' d inner us := fun u hu => by
  obtain ⟨a, rk, h1, h2, h3, h4⟩ := h u hu
  exact ⟨a, rk, h1, h2, e _ _ h3, h4⟩
theorem RowsG.upd {H : Hp} {d : Addr} {o : HO} {inner : List Pc} {us : List V} (h : RowsG H d inner us) : RowsG (L2.upd H d o) d inner us := fun u hu => by
  obtain ⟨a, rk, h1, h2, h3, h4⟩ := h u hu
  exact ⟨a, rk, h1, h2, by rw [upd_ne h2]; exact h3, h4⟩
theorem VOk.mono {H H' : Hp} (e : Same H H') {d : Addr} {v : V} (h : VOk H d v) : VOk H' d v := by
  rcases h with h | ⟨l, us, inner, h1, h2, h3, h4⟩
  · exact .inl h
  · exact .inr ⟨l, us, inner, h1, e _ _ h2, h3, h4.mono e⟩
theorem VOk.upd {H : Hp} {d : Addr} {ks : List (Key × V)} (hd : H d = some (.dK ks)) {o : HO} {v : V} (h : VOk H d v) : VOk (L2.upd H d o) d v := by
  rcases h with h | ⟨l, us, inner, h1, h2, h3, h4⟩
  · exact .inl h
  · exact .inr ⟨l, us, inner, h1, by rw [upd_ne (ne_of h2 hd (by intro z; cases z))]; exact h2, h3, h4.upd⟩
theorem DatOk.mono {H H' : Hp} (e : Same H H') {d : Addr} {kvs : List (Key × V)} (h : DatOk H d kvs) : DatOk H' d kvs := ⟨fun p hp => ⟨(h.all p hp).1, (h.all p hp).2.mono e⟩, h.nd⟩
theorem ValF.mono {H H' : Hp} (e : Same H H') {d : Addr} {kvs : List (Key × V)} : ∀ {p : Pie}, ValF H d kvs p → ValF H' d kvs p
  | .one (.say _), _ => trivial
  | .one (.ask ..), h => h
  | .rows .., ⟨l, us, h1, h2, h3, h4, h5⟩ => ⟨l, us, h1, e _ _ h2, h3, h4, h5.mono e⟩
theorem valV_other {kvs : List (Key × V)} {n m : Str} {v : V} (h : m ≠ n) : valV (putK kvs (Sum.inr n) v) (Sum.inr m) = valV kvs (Sum.inr m) := by
  rw [valV_put, if_neg fun z => h (Sum.inr.inj z)]
theorem valV_this {kvs : List (Key × V)} {n : Str} {v : V} : valV (putK kvs (Sum.inr n) v) (Sum.inr n) = some v := by rw [valV_put, if_pos rfl]
/-- another name is put -/
theorem ValF.put {H : Hp} {d : Addr} {ks kvs : List (Key × V)} (hd : H d = some (.dK ks)) {n : Str} {v : V} {o : HO} : ∀ {p : Pie}, n ∉ p.nm → ValF H d kvs p → ValF (L2.upd H d o) d (putK kvs (Sum.inr n) v) p
  | .one (.say _), _, _ => trivial
  | .one (.ask m ..), hn, ⟨t, h1, h2⟩ => ⟨t, by rw [valV_other (fun z => hn (by rw [← z]; exact List.mem_singleton.mpr rfl))]; exact h1, h2⟩
  | .rows m .., hn, ⟨l, us, h1, h2, h3, h4, h5⟩ => ⟨l, us, by rw [valV_other (fun z => hn (by rw [← z]; exact List.mem_singleton.mpr rfl))]; exact h1, by rw [upd_ne (ne_of h2 hd (by intro z; cases z))]; exact h2, h3, h4, h5.upd⟩
theorem DatOk.put {H : Hp} {d : Addr} {kvs : List (Key × V)} (hd : H d = some (.dK kvs)) {n : Str} {v : V} {o : HO} (h : DatOk H d kvs) (hn : valV kvs (Sum.inr n) = none) (hv : VOk H d v) : DatOk (L2.upd H d o) d (putK kvs (Sum.inr n) v) := by
  refine ⟨fun p hp => ?_, nd_putK _ h.nd hn⟩
  rw [putK_new _ hn] at hp
  rcases List.mem_append.mp hp with z | z
  · exact ⟨(h.all p z).1, (h.all p z).2.upd hd⟩
  · have : p = (Sum.inr n, v) := by simpa using z
    subst this
    exact ⟨⟨n, rfl⟩, hv.upd hd⟩
/-- behind i pieces -/
structure Half (H H' : Hp) (d : Addr) (kvs : List (Key × V)) (ps : List Pie) : Prop where
  same : Same H H'
  here : H' d = some (.dK kvs)
  dat : DatOk H' d kvs
  few : kvs.length ≤ ps.length
  val : ∀ p ∈ ps, ValF H' d kvs p
  nms : ∀ n, valV kvs (Sum.inr n) ≠ none → n ∈ ps.flatMap Pie.nm
theorem Half.mono {H H' H2 : Hp} {d : Addr} {kvs : List (Key × V)} {ps : List Pie} (e : Same H' H2) (h : Half H H' d kvs ps) : Half H H2 d kvs ps :=
  ⟨h.same.trans e, e _ _ h.here, h.dat.mono e, h.few, fun p hp => (h.val p hp).mono e, h.nms⟩
theorem Half.say {H H' : Hp} {d : Addr} {kvs : List (Key × V)} {ps : List Pie} (h : Half H H' d kvs ps) (z : Str) : Half H H' d kvs (ps ++ [.one (.say z)]) := by
  refine ⟨h.same, h.here, h.dat, by rw [List.length_append]; exact Nat.le_trans h.few (Nat.le_add_right _ _), fun p hp => ?_, fun n hn => ?_⟩
  · rcases List.mem_append.mp hp with y | y
    · exact h.val p y
    · have : p = .one (.say z) := by simpa using y
      subst this; trivial
  · rw [List.flatMap_append]; exact List.mem_append_left _ (h.nms n hn)
theorem Half.put {H H' : Hp} {d : Addr} {kvs : List (Key × V)} {ps : List Pie} {p : Pie} {n : Str} {v : V} (h : Half H H' d kvs ps) (h0 : H d = none) (hp : p.nm = [n]) (hn : n ∉ ps.flatMap Pie.nm) (hv : VOk H' d v)
    (hval : ValF (L2.upd H' d (.dK (putK kvs (Sum.inr n) v))) d (putK kvs (Sum.inr n) v) p) : Half H (L2.upd H' d (.dK (putK kvs (Sum.inr n) v))) d (putK kvs (Sum.inr n) v) (ps ++ [p]) := by
  have hnone : valV kvs (Sum.inr n : Key) = none := by
    cases z : valV kvs (Sum.inr n : Key) with
    | none => rfl
    | some v => exact absurd (h.nms n (by rw [z]; exact fun y => nomatch y)) hn
  refine ⟨Same.updN h.same h0 _, upd_same, h.dat.put h.here hnone hv, ?_, fun x hx => ?_, fun m hm => ?_⟩
  · rw [putK_new _ hnone, List.length_append, List.length_append]
    exact Nat.add_le_add_right h.few 1
  · rcases List.mem_append.mp hx with y | y
    · exact (h.val x y).put h.here (fun z => hn (List.mem_flatMap.mpr ⟨x, y, z⟩))
    · have : x = p := by simpa using y
      subst this; exact hval
  · rw [List.flatMap_append]
    rw [valV_put] at hm
    by_cases z : (Sum.inr m : Key) = Sum.inr n
    · rw [Sum.inr.inj z]
      exact List.mem_append_right _ (by simp [hp])
    · rw [if_neg z] at hm
      exact List.mem_append_left _ (h.nms m hm)
theorem Half.nil {H : Hp} {d : Addr} (hd : H d = none) : Half H (L2.upd H d (.dK [])) d [] [] := ⟨same_new hd _, upd_same, ⟨(fun _ z => nomatch z), List.nodup_nil⟩, Nat.le_refl _, (fun _ z => nomatch z), fun n z => absurd rfl z⟩
section
variable {P : Program} {w : World} {K : PySem.W.Frag} {mg : Str → Option Value} {base : Heap} {D : Adr}
theorem scValues : FnScope ["script", "start", "pieces", "values", "k", "piece", "here", "many", "row"] ["script", "start", "pieces"] (defScope sLawValues) := ⟨rfl, rfl, rfl, by decide +kernel, rfl, by decide +kernel, by decide +kernel⟩
def spValues (K : PySem.W.Frag) : Sp := fun vs H Q _ => ∃ (a l : Addr) (ns : List Int) (st : Int) (us : List V) (ps : List Pie), vs = [.ref a, .int st, .ref l] ∧ Scr K H a ns ∧ 0 ≤ st ∧ st ≤ 1000 ∧ H l = some (.lst us) ∧ Paired (Pie.At H) ps us ∧ FormOk ps ∧
  ∀ (d : Addr) (kvs : List (Key × V)) (H' : Hp), Same H H' → H d = none → H' d = some (.dK kvs) → DatOk H' d kvs → kvs.length ≤ 6 → (∀ p ∈ ps, ValF H' d kvs p) → (∀ n, valV kvs (Sum.inr n) ≠ none → n ∈ ps.flatMap Pie.nm) → Q (.ref d) H'
theorem ok_values (T : Txt w K mg D) : FnOk P w K mg base CX0 5 D.aLawValues D.dLawValues ["script", "start", "pieces"] (spValues K) := by
  have G : FnOk P w K mg base CX0 2 D.aLawDraw D.dLawDraw ["script", "k"] (spDraw K) := ok_draw T
  have GW : FnOk P w K mg base CX0 3 D.aLawWord D.dLawWord ["script", "k", "piece"] (spWord K) := ok_word T
  have GR : FnOk P w K mg base CX0 4 D.aLawRow D.dLawRow ["script", "k", "pieces"] (spRowL K) := ok_rowL T
  refine T.fLawValues.ok scValues (fun vs H Q E h => ?_) (fun cdv A outer s H vs Q E hr h => ?_)
  · obtain ⟨a, l, ns, st, us, ps, rfl, _⟩ := h; rfl
  · obtain ⟨a, l, ns, st, us, ps, rfl, hS, h0, h1, hl, hp, ok, q⟩ := h
    have hu := hu_of hr
    have hr2 : Room 2 _ := hr.mono (by decide)
    have hr3 : Room 3 _ := hr.mono (by decide)
    have hus : us.length = ps.length := hp.length.symm
    have h6 := ok.hi
    refine ⟨_, pss_cons (ps_set (i := 3) scValues.nd rfl (Or.inl rfl) pe_dnewK)
      (pss_cons (ps_for PassesOwn.never rfl (pi_range1 rfl T.zRange (pa_cons (pe_callB call_len_seq rfl T.zLen PySem.boot_len (pa_cons (pv 2) pa_nil)) pa_nil)) (pg_name (i := 4) scValues.nd rfl (Or.inl rfl))
        (pss_cons (ps_set (i := 5) scValues.nd rfl (Or.inr rfl) (pe_ix ix_list (pv 2) (pv 4) (fun _ _ => rfl)))
        (pss_cons (ps_set (i := 6) scValues.nd rfl (Or.inr rfl) (pe_op op_add (pv 1) (pe_op op_mul pe_int (pv 4))))
        (pss_cons (ps_if (pt_cmpR op_eq (pe_ix ix_tup (pv 5) pe_int (fun _ _ => rfl)) pe_str (nomark _))
          (pss_one (ps_dput hu (pv 3) (pe_ix ix_tup (pv 5) pe_int (fun _ _ => rfl)) (pe_call GW hr3 rfl T.mLawWord T.fLawWord.kp T.bLawWord .nil pass0 (pa_cons (pv 0) (pa_cons (pv 6) (pa_cons (pv 5) pa_nil)))) rfl)) pss_nil)
        (pss_one (ps_if (pt_cmpR op_eq (pe_ix ix_tup (pv 5) pe_int (fun _ _ => rfl)) pe_str (nomark _))
          (pss_cons (ps_set (i := 7) scValues.nd rfl (Or.inl rfl) (pe_op op_add (pe_ix ix_tup (pv 5) pe_int (fun _ _ => rfl)) (pe_op op_mod (pe_call G hr2 rfl T.mLawDraw T.fLawDraw.kp T.bLawDraw .nil pass0 (pa_cons (pv 0) (pa_cons (pv 6) pa_nil))) (pe_op op_add (pe_op op_sub (pe_ix ix_tup (pv 5) pe_int (fun _ _ => rfl)) (pe_ix ix_tup (pv 5) pe_int (fun _ _ => rfl))) pe_int))))
          (pss_cons (ps_setComp (i := 8) (cp := [(0, "script"), (6, "here"), (5, "piece")]) (te := tCall (spRowL K) [] E0 (tCons (tVar 1) (tCons (tOp (rI0 fun i j => .int (i + j)) (tOp (rI0 fun i j => .int (i + j)) (tVar 2) (tC (.int 1))) (tOp (rI CMul fun i j => .int (i * j)) (tC (.int 25)) (tVar 0))) (tCons (tOp (rIxT K) (tVar 3) (tC (.int 2))) tNil)))) scValues.nd rfl rfl
            (CompScope.of (defScope sLawValues) ["script", "start", "pieces", "values", "k", "piece", "here", "many", "row"] rfl rfl (by decide +kernel)) rfl (pi_range1 rfl T.zRange (pa_cons (pv 7) pa_nil)) (fun _ _ _ _ _ => pts_nil)
            (fun _ _ _ _ _ => pe_call GR hr rfl T.mLawRow T.fLawRow.kp T.bLawRow .nil pass0 (pa_cons (pv 1) (pa_cons (pe_op op_add (pe_op op_add (pv 2) pe_int) (pe_op op_mul pe_int (pv 0))) (pa_cons (pe_ix ix_tup (pv 3) pe_int (fun _ _ => rfl)) pa_nil)))))
          (pss_one (ps_dput hu (pv 3) (pe_ix ix_tup (pv 5) pe_int (fun _ _ => rfl)) (pv 8) rfl)))) pss_nil))))))
      (pss_one (ps_ret (pv 3)))), ?_⟩
    intro d hd
    have s1 := same_new hd (.dK [])
    refine ⟨_, rfl, l, us, rfl, .inl (SqL.of (s1 _ _ hl)), _, rfl, by omega, by omega, ?_⟩
    rw [Int.toNat_natCast]
    refine for_range (lo := 0) (n := us.length) (fun i σ H' => ∃ (kvs : List (Key × V)) (o4 o5 o6 o7 o8 : Option V), σ = [some (.ref a), some (.int st), some (.ref l), some (.ref d), o4, o5, o6, o7, o8] ∧ Half H H' d kvs (ps.take i))
      ⟨[], none, none, none, none, none, rfl, Half.nil hd⟩ (fun i σ H' hi e => ?_) (fun σ H' e => ?_)
    · obtain ⟨kvs, o4, o5, o6, o7, o8, rfl, hf⟩ := e
      have s2 := hf.same
      have hx : us[i]? = some us[i] := List.getElem?_eq_getElem hi
      obtain ⟨p, ep, pat⟩ := Paired.two hp hx
      have hat : atI us (0 + (i : Int)) = some us[i] := by rw [Int.zero_add]; exact atI_nat hx
      have okp := ok.all p (List.mem_of_getElem? ep)
      have fresh := flat_take (f := Pie.nm) ep ok.nd
      have hlen : kvs.length < sizeLine := small1000 (by have := hf.few; rw [List.length_take] at this; omega)
      rw [take_snoc ep]
      refine ⟨_, rfl, _, rfl, l, us, _, _, rfl, rfl, SqL.of (s2 _ _ hl), hat, ?_⟩
      refine ⟨_, rfl, _, rfl, _, _, rfl, rfl, .inl ⟨by decide, by decide⟩, _, _, rfl, rfl, ?_⟩
      cases p with
      | one p =>
        obtain ⟨b, eb, hb⟩ := pat
        rw [eb]
        cases p with
        | say z =>
          refine ⟨_, rfl, b, _, _, _, rfl, rfl, SqT.of (s2 _ _ hb), rfl, rfl, _, rfl, iteDF ne_as.symm ?_⟩
          refine ⟨_, rfl, b, _, _, _, rfl, rfl, SqT.of (s2 _ _ hb), rfl, rfl, _, rfl, iteDF ne_sr ?_⟩
          exact ⟨kvs, _, _, _, _, _, rfl, hf.say z⟩
        | ask m sg lo hi' =>
          refine ⟨_, rfl, b, _, _, _, rfl, rfl, SqT.of (s2 _ _ hb), rfl, rfl, _, rfl, iteD rfl ?_⟩
          refine ⟨_, rfl, _, rfl, _, rfl, a, ns, _, _, m, sg, lo, hi', rfl, hS.mono s2, by omega, by omega, ⟨b, rfl, s2 _ _ hb⟩, okp, fun t ft => ?_⟩
          refine ⟨_, rfl, _, rfl, b, _, _, _, rfl, rfl, SqT.of (s2 _ _ hb), rfl, d, _, rfl, DPut.k (k := Sum.inr m) hf.here hlen, ?_⟩
          have h2 := hf.put (p := .one (.ask m sg lo hi')) hd rfl (fresh m (List.mem_singleton.mpr rfl)) (v := .str t) (.inl ⟨t, rfl⟩) ⟨t, valV_this, ft⟩
          refine ⟨_, rfl, b, _, _, _, rfl, rfl, SqT.of (h2.same _ _ hb), rfl, rfl, _, rfl, iteDF ne_ra.symm ?_⟩
          exact ⟨_, _, _, _, _, _, rfl, h2⟩
      | rows n inner gap lo hi' =>
        obtain ⟨b, r2, ws, eb, hb, hr2', hin⟩ := pat
        obtain ⟨hn, hpo, hg, b0, b1, b2⟩ := okp
        rw [eb]
        refine ⟨_, rfl, b, _, _, _, rfl, rfl, SqT.of (s2 _ _ hb), rfl, rfl, _, rfl, iteDF ne_ra ?_⟩
        refine ⟨_, rfl, b, _, _, _, rfl, rfl, SqT.of (s2 _ _ hb), rfl, rfl, _, rfl, iteD rfl ?_⟩
        refine ⟨_, rfl, b, _, _, _, rfl, rfl, SqT.of (s2 _ _ hb), rfl, _, rfl, _, rfl, a, ns, _, rfl, hS.mono s2, by omega, by omega, _, rfl, b, _, _, _, rfl, rfl, SqT.of (s2 _ _ hb), rfl, _, rfl, b, _, _, _, rfl, rfl, SqT.of (s2 _ _ hb), rfl, _, _, rfl, rfl, _, _, rfl, rfl, _, _, rfl, rfl, (by show 0 < hi' - lo + 1; omega), _, _, rfl, rfl, ?_⟩
        generalize drawOf ns (st + 90 * (0 + (i : Int))) = c
        have d0 : 0 ≤ c % (hi' - lo + 1) := Int.emod_nonneg _ (by omega)
        have d1 : c % (hi' - lo + 1) < hi' - lo + 1 := Int.emod_lt_of_pos _ (by omega)
        refine ⟨_, rfl, lo + c % (hi' - lo + 1), rfl, by omega, by omega, ?_⟩
        generalize hm : (lo + c % (hi' - lo + 1)).toNat = m
        refine comp_range (lo := 0) (n := m) (fun j ys H5 => Same H' H5 ∧ ys.length = j ∧ RowsG H5 d inner ys) ⟨Same.refl _, rfl, fun _ z => nomatch z⟩ (fun j ys H5 _ e => Nat.le_of_eq e.2.1) (small (by omega)) (fun j ys H5 hj e => ?_) (fun ys H5 e r hr' => ?_)
        · obtain ⟨e1, e2, e3⟩ := e
          have s3 := s2.trans e1
          refine ⟨_, rfl, _, rfl, _, _, rfl, rfl, _, rfl, _, _, rfl, rfl, .inl ⟨by decide, by decide⟩, _, _, rfl, rfl, _, rfl, b, _, _, _, rfl, rfl, SqT.of (s3 _ _ hb), rfl, a, r2, ns, _, ws, inner, rfl, hS.mono s3, by omega, by omega, s3 _ _ hr2', Paired.mapP hin fun _ _ z => z.mono s3, hpo, fun x rk hx' rok rl rf rn => ?_⟩
          have s4 := same_new hx' (.dK rk)
          refine ⟨e1.trans s4, by rw [List.length_append, e2]; rfl, fun u hu' => ?_⟩
          rcases List.mem_append.mp hu' with y | y
          · exact e3.mono s4 u y
          · have : u = .ref x := by simpa using y
            subst this
            exact ⟨x, rk, rfl, Ne.symm (ne_of_none (e1 _ _ hf.here) hx'), upd_same, rok, .inl rl, rf⟩
        · obtain ⟨e1, e2, e3⟩ := e
          have s4 := same_new hr' (.lst ys)
          have h1' := hf.mono (e1.trans s4)
          have s5 := h1'.same
          refine ⟨_, rfl, _, rfl, _, rfl, b, _, _, _, rfl, rfl, SqT.of (s5 _ _ hb), rfl, d, _, rfl, DPut.k (k := Sum.inr n) h1'.here hlen, ?_⟩
          have hrd : r ≠ d := ne_of upd_same h1'.here (by intro z; cases z)
          refine ⟨_, _, _, _, _, _, rfl, h1'.put (p := .rows n inner gap lo hi') hd rfl (fresh n (List.mem_singleton.mpr rfl)) (.inr ⟨r, ys, inner, rfl, upd_same, by omega, e3.mono s4⟩) ⟨r, ys, valV_this, by rw [upd_ne hrd]; exact upd_same, by omega, by omega, (e3.mono s4).upd⟩⟩
    · obtain ⟨kvs, o4, o5, o6, o7, o8, rfl, hf⟩ := e
      rw [hus, List.take_length] at hf
      exact ⟨_, rfl, q d kvs H' hf.same hd hf.here hf.dat (Nat.le_trans hf.few h6) hf.val hf.nms⟩
end
end Lf

set_option Elab.async false
set_option linter.all false
set_option maxRecDepth 100000
set_option maxHeartbeats 1000000
namespace Lf
open PySem L2
theorem sE (x : Str) : Str.empty ++ x = x := by
  show (⟨#[] ++ x.cps⟩ : Str) = x
  rw [Array.empty_append]
theorem sE' (x : Str) : x ++ Str.empty = x := by
  show (⟨x.cps ++ #[]⟩ : Str) = x
  rw [Array.append_empty]
theorem sA (x y z : Str) : (x ++ y) ++ z = x ++ (y ++ z) := by
  show (⟨(x.cps ++ y.cps) ++ z.cps⟩ : Str) = ⟨x.cps ++ (y.cps ++ z.cps)⟩
  rw [Array.append_assoc]
theorem cat_snoc : ∀ (l : List Str) (x : Str), cat (l ++ [x]) = cat l ++ x
  | [], x => (sE x).symm
  | [t], x => by
    show (t ++ Str.empty) ++ x = t ++ x
    rw [sE']
  | t :: u :: r, x => by
    have ih := cat_snoc (u :: r) x
    show (t ++ Str.empty) ++ cat ((u :: r) ++ [x]) = ((t ++ Str.empty) ++ cat (u :: r)) ++ x
    rw [ih]; exact (sA _ _ _).symm
section
variable {P : Program} {w : World} {K : PySem.W.Frag} {mg : Str → Option Value} {base : Heap} {D : Adr}
theorem scLine : FnScope ["pieces", "values", "text", "piece"] ["pieces", "values"] (defScope sLawLine) := ⟨rfl, rfl, rfl, by decide +kernel, rfl, by decide +kernel, by decide +kernel⟩
def spLine : Sp := fun vs H Q _ => ∃ (l : Addr) (us : List V) (ps : List Pc) (f : Row) (d : V), vs = [.ref l, d] ∧ H l = some (.lst us) ∧ Paired (Pc.At H) ps us ∧ RowAt H f d ∧ ps.length ≤ 3 ∧ (∀ p ∈ ps, p.ok ∧ FitPc f p) ∧ Q (.str (wRow ps f)) H
theorem ok_line (T : Txt w K mg D) : FnOk P w K mg base CX0 1 D.aLawLine D.dLawLine ["pieces", "values"] spLine := by
  refine T.fLawLine.ok scLine (fun vs H Q E h => ?_) (fun cdv A outer s H vs Q E hr h => ?_)
  · obtain ⟨l, us, ps, f, d, rfl, _⟩ := h; rfl
  · obtain ⟨l, us, ps, f, d, rfl, hl, hp, ⟨da, kvs, rfl, hd, hv⟩, h3, hok, q⟩ := h
    have hu := hu_of hr
    have hus : us.length = ps.length := hp.length.symm
    refine ⟨_, pss_cons (ps_set (i := 2) scLine.nd rfl (Or.inl rfl) pe_str)
      (pss_cons (ps_for PassesOwn.never rfl (pi_list (pv 0)) (pg_name (i := 3) scLine.nd rfl (Or.inl rfl))
        (pss_one (ps_if (pt_cmpR op_eq (pe_ix ix_tup (pv 3) pe_int (fun _ _ => rfl)) pe_str (nomark _))
          (pss_one (ps_set (i := 2) scLine.nd rfl (Or.inl rfl) (pe_op op_add_str (pv 2) (pe_ix ix_tup (pv 3) pe_int (fun _ _ => rfl)))))
          (pss_one (ps_set (i := 2) scLine.nd rfl (Or.inl rfl) (pe_op op_add_str (pv 2) (pe_dget hu (pv 1) (pe_ix ix_tup (pv 3) pe_int (fun _ _ => rfl)) (fun _ _ => rfl))))))))
      (pss_one (ps_ret (pv 2)))), ?_⟩
    refine ⟨_, rfl, l, rfl, ⟨_, SqL.of hl⟩, for_list (xs := us) (fun i σ H' => H' = H ∧ ∃ o, σ = [some (.ref l), some (.ref da), some (.str (cat ((ps.take i).map (wPc f)))), o]) ⟨rfl, none, rfl⟩ (fun i σ H' hi e => by rw [e.1]; exact SqL.of hl) (fun i x σ H' hx e => ?_) (fun σ H' e => ?_)⟩
    · obtain ⟨rfl, o, rfl⟩ := e
      obtain ⟨p, ep, b, rfl, hb⟩ := Paired.two hp hx
      obtain ⟨okp, fp⟩ := hok p (List.mem_of_getElem? ep)
      have hz := wPc_len okp fp
      have hi : i < us.length := (List.getElem?_eq_some_iff.mp hx).1
      have hc : (cat ((ps.take i).map (wPc f))).length ≤ 36 := by
        refine Nat.le_trans (cat_len (n := 12) fun t ht => ?_) ?_
        · obtain ⟨p', hp', rfl⟩ := List.mem_map.mp ht
          obtain ⟨o1, o2⟩ := hok p' (List.mem_of_mem_take hp')
          exact wPc_len o1 o2
        · rw [List.length_map, List.length_take]; omega
      have et : cat ((ps.take (i + 1)).map (wPc f)) = cat ((ps.take i).map (wPc f)) ++ wPc f p := by rw [take_snoc ep, List.map_append]; exact cat_snoc _ _
      rw [et]
      cases p with
      | say z =>
        refine ⟨_, rfl, b, _, _, _, rfl, rfl, SqT.of hb, rfl, rfl, _, rfl, iteD rfl ?_⟩
        exact ⟨_, rfl, _, rfl, b, _, _, _, rfl, rfl, SqT.of hb, rfl, _, z, rfl, rfl, small (by have : z.length ≤ 12 := hz; omega), rfl, _, rfl⟩
      | ask n sg lo hi' =>
        obtain ⟨t, e1, e2⟩ := fp
        rw [wPc_ask e1] at hz ⊢
        refine ⟨_, rfl, b, _, _, _, rfl, rfl, SqT.of hb, rfl, rfl, _, rfl, iteDF ne_as ?_⟩
        exact ⟨_, rfl, _, rfl, _, rfl, b, _, _, _, rfl, rfl, SqT.of hb, rfl, da, _, rfl, .inl ⟨kvs, Sum.inr n, hd, rfl, (hv n t e1).symm⟩, _, t, rfl, rfl, small (by omega), rfl, _, rfl⟩
    · obtain ⟨rfl, o, rfl⟩ := e
      rw [hus, List.take_length]
      exact ⟨_, rfl, q⟩
/-! ### _law_written -/
theorem scWritten : FnScope ["pieces", "values", "text", "piece"] ["pieces", "values"] (defScope sLawWritten) := ⟨rfl, rfl, rfl, by decide +kernel, rfl, by decide +kernel, by decide +kernel⟩
def spWritten : Sp := fun vs H Q _ => ∃ (l : Addr) (us : List V) (ps : List Pie) (F : Vs) (d : Addr) (kvs : List (Key × V)), vs = [.ref l, .ref d] ∧ H l = some (.lst us) ∧ Paired (Pie.At H) ps us ∧ FormOk ps ∧ Rd H d (.dK kvs) ∧ (∀ n x, F n = some x → ∃ u, valV kvs (Sum.inr n) = some u ∧ ValAt H x u) ∧ (∀ p ∈ ps, FitPie F p) ∧ ∀ H', Same H H' → Q (.str (wForm ps F)) H'
theorem ok_written (T : Txt w K mg D) : FnOk P w K mg base CX0 2 D.aLawWritten D.dLawWritten ["pieces", "values"] spWritten := by
  have G : FnOk P w K mg base CX0 1 D.aLawLine D.dLawLine ["pieces", "values"] spLine := ok_line T
  refine T.fLawWritten.ok scWritten (fun vs H Q E h => ?_) (fun cdv A outer s H vs Q E hr h => ?_)
  · obtain ⟨l, us, ps, F, d, kvs, rfl, _⟩ := h; rfl
  · obtain ⟨l, us, ps, F, d, kvs, rfl, hl, hp, ok, hd, hv, hfit, q⟩ := h
    have hu := hu_of hr
    have hus : us.length = ps.length := hp.length.symm
    have h6 := ok.hi
    refine ⟨_, pss_cons (ps_set (i := 2) scWritten.nd rfl (Or.inl rfl) pe_str)
      (pss_cons (ps_for PassesOwn.never rfl (pi_list (pv 0)) (pg_name (i := 3) scWritten.nd rfl (Or.inr rfl))
        (pss_one (ps_if (pt_cmpR op_eq (pe_ix ix_tup (pv 3) pe_int (fun _ _ => rfl)) pe_str (nomark _))
          (pss_one (ps_set (i := 2) scWritten.nd rfl (Or.inl rfl) (pe_op op_add_str (pv 2) (pe_bm PySem.F.plainAttrs_str PySem.F.slot_str_join PySem.F.type_str_join mt_join (pe_ix ix_tup (pv 3) pe_int (fun _ _ => rfl))
            (pa_cons (pe_comp (cp := [(3, "piece")]) (te := tCall spLine [] E0 (tCons (tOp (rIxT K) (tVar 1) (tC (.int 2))) (tCons (tVar 0) tNil))) (CompScope.of (defScope sLawWritten) ["pieces", "values", "text", "piece"] rfl rfl (by decide +kernel)) rfl
              (pi_list (pe_dget hu (pv 1) (pe_ix ix_tup (pv 3) pe_int (fun _ _ => rfl)) (fun _ _ => rfl))) (fun _ _ _ _ _ => pts_nil)
              (fun _ _ _ _ _ => pe_call G hr rfl T.mLawLine T.fLawLine.kp T.bLawLine .nil pass0 (pa_cons (pe_ix ix_tup (pv 1) pe_int (fun _ _ => rfl)) (pa_cons (pv 0) pa_nil)))) pa_nil)))))
          (pss_one (ps_set (i := 2) scWritten.nd rfl (Or.inl rfl) (pe_op op_add_str (pv 2) (pe_call G hr rfl T.mLawLine T.fLawLine.kp T.bLawLine .nil pass0 (pa_cons (pe_lst (pa_cons (pv 3) pa_nil)) (pa_cons (pv 1) pa_nil)))))))))
      (pss_one (ps_ret (pv 2)))), ?_⟩
    refine ⟨_, rfl, l, rfl, ⟨_, SqL.of hl⟩, for_list (xs := us) (fun i σ H' => Same H H' ∧ ∃ o, σ = [some (.ref l), some (.ref d), some (.str (cat ((ps.take i).map (wPie F)))), o]) ⟨Same.refl _, none, rfl⟩ (fun i σ H' hi e => SqL.of (e.1 _ _ hl)) (fun i x σ H' hx e => ?_) (fun σ H' e => ?_)⟩
    · obtain ⟨s1, o, rfl⟩ := e
      obtain ⟨p, ep, pat⟩ := Paired.two hp hx
      have mp := List.mem_of_getElem? ep
      have okp := ok.all p mp
      have fp := hfit p mp
      have hz := wPie_len okp fp
      have hi : i < us.length := (List.getElem?_eq_some_iff.mp hx).1
      have hc : (cat ((ps.take i).map (wPie F))).length ≤ 750 := by
        refine Nat.le_trans (cat_len (n := 150) fun t ht => ?_) ?_
        · obtain ⟨p', hp', rfl⟩ := List.mem_map.mp ht
          exact wPie_len (ok.all p' (List.mem_of_mem_take hp')) (hfit p' (List.mem_of_mem_take hp'))
        · rw [List.length_map, List.length_take]; omega
      have et : cat ((ps.take (i + 1)).map (wPie F)) = cat ((ps.take i).map (wPie F)) ++ wPie F p := by rw [take_snoc ep, List.map_append]; exact cat_snoc _ _
      rw [et]
      have hd1 : Rd H' d (.dK kvs) := Rd.mono s1 hd
      have pat1 := pat.mono s1
      have one : ∀ (q : Pc), p = .one q → x = x → FitPc (rowOf kvs) q ∧ wPc (rowOf kvs) q = wPie F p := by
        rintro q rfl _
        cases q with
        | say z => exact ⟨trivial, rfl⟩
        | ask n sg lo hi' =>
          obtain ⟨t, e1, e2⟩ := fp
          obtain ⟨u, e3, e4⟩ := hv n _ e1
          cases (show u = .str t from e4)
          have e5 := rowOf_of e3
          exact ⟨⟨t, e5, e2⟩, by rw [wPc_ask e5, wPie_ask e1]⟩
      have mono1 : ∀ (q : Pc), q.ok → FitPc (rowOf kvs) q → ∀ y ∈ [q], y.ok ∧ FitPc (rowOf kvs) y := fun q h1 h2 y hy => by
        have : y = q := by simpa using hy
        subst this; exact ⟨h1, h2⟩
      cases p with
      | one p =>
        obtain ⟨b, rfl, hb⟩ := pat1
        cases p with
        | say z =>
          refine ⟨_, rfl, b, _, _, _, rfl, rfl, SqT.of hb, rfl, rfl, _, rfl, iteDF ne_sr ?_⟩
          refine ⟨_, rfl, _, rfl, (by show 1 ≤ sizeLine; decide), fun r hr' => ⟨_, rfl, ?_⟩⟩
          obtain ⟨f1, f2⟩ := one _ rfl rfl
          have s2 := same_new hr' (.lst [.ref b])
          rw [← f2] at hz ⊢
          exact ⟨r, [.ref b], [Pc.say z], rowOf kvs, .ref d, rfl, upd_same, .cons ⟨b, rfl, s2 _ _ hb⟩ .nil, ⟨d, kvs, rfl, Rd.mono s2 hd1, fun _ _ e => rowOf_some e⟩, (by show 1 ≤ 3; decide), mono1 _ okp f1, _, _, rfl, rfl, small (Nat.le_trans (Nat.add_le_add hc hz) (by decide)), s1.trans s2, _, rfl⟩
        | ask n sg lo hi' =>
          refine ⟨_, rfl, b, _, _, _, rfl, rfl, SqT.of hb, rfl, rfl, _, rfl, iteDF ne_ra.symm ?_⟩
          refine ⟨_, rfl, _, rfl, (by show 1 ≤ sizeLine; decide), fun r hr' => ⟨_, rfl, ?_⟩⟩
          obtain ⟨f1, f2⟩ := one _ rfl rfl
          have s2 := same_new hr' (.lst [.ref b])
          rw [← f2] at hz ⊢
          exact ⟨r, [.ref b], [Pc.ask n sg lo hi'], rowOf kvs, .ref d, rfl, upd_same, .cons ⟨b, rfl, s2 _ _ hb⟩ .nil, ⟨d, kvs, rfl, Rd.mono s2 hd1, fun _ _ e => rowOf_some e⟩, (by show 1 ≤ 3; decide), mono1 _ okp f1, _, _, rfl, rfl, small (Nat.le_trans (Nat.add_le_add hc hz) (by decide)), s1.trans s2, _, rfl⟩
      | rows n inner gap lo hi' =>
        obtain ⟨b, r2, ws, rfl, hb, hr2', hin⟩ := pat1
        obtain ⟨rs, e1, f1, f2, f3⟩ := fp
        obtain ⟨u, e3, lv, vs, rfl, hlv, hrs⟩ := hv n _ e1
        obtain ⟨hn, hpo, hg, b0, b1, b2⟩ := okp
        rw [wPie_rows e1] at hz ⊢
        have hvs : vs.length = rs.length := hrs.length.symm
        have hlv1 := s1 _ _ hlv
        refine ⟨_, rfl, b, _, _, _, rfl, rfl, SqT.of hb, rfl, rfl, _, rfl, iteD rfl ?_⟩
        refine ⟨_, rfl, _, rfl, b, _, _, _, rfl, rfl, SqT.of hb, rfl, rfl, _, rfl, _, rfl, b, _, _, _, rfl, rfl, SqT.of hb, rfl, d, _, rfl, .inl ⟨kvs, Sum.inr n, hd1, rfl, e3.symm⟩, lv, rfl, ⟨_, SqL.of hlv1⟩, ?_⟩
        refine comp_list (xs := vs) (fun j ys H5 => H5 = H' ∧ ys = (rs.take j).map fun f => V.str (wRow inner f)) ⟨rfl, rfl⟩ (fun j ys H5 hj e => ⟨by rw [e.1]; exact SqL.of hlv1, ?_⟩) (small (by omega)) (fun j x ys H5 hx e => ?_) (fun ys H5 e r hr' => ?_)
        · rw [e.2, List.length_map, List.length_take]; omega
        · obtain ⟨rfl, rfl⟩ := e
          obtain ⟨f, ef, pf⟩ := Paired.two hrs hx
          have mf := List.mem_of_getElem? ef
          refine ⟨_, rfl, b, _, _, _, rfl, rfl, SqT.of hb, rfl, _, rfl, r2, ws, inner, f, x, rfl, hr2', hin, pf.mono s1, hpo.hi, fun y hy => ⟨hpo.all y hy, f3 f mf y hy⟩, rfl, ?_⟩
          rw [take_snoc ef, List.map_append]
          rfl
        · obtain ⟨rfl, rfl⟩ := e
          rw [hvs, List.take_length]
          have s2 := same_new hr' (.lst (rs.map fun f => V.str (wRow inner f)))
          refine ⟨gap, r, rs.map (wRow inner), rfl, rfl, SqL.of (by rw [upd_same, List.map_map]; rfl), ?_, _, _, rfl, rfl, small (by omega), s1.trans s2, _, rfl⟩
          refine joinOk_of (n := 500) (fun t ht => ?_) (by rw [List.length_map]; exact Nat.le_trans (Nat.mul_le_mul_right 500 (show rs.length ≤ 100 by omega)) (by decide))
          obtain ⟨f, hf', rfl⟩ := List.mem_map.mp ht
          have z1 := wRow_len hpo (f3 f hf')
          have z2 := hg.hi
          omega
    · obtain ⟨s1, o, rfl⟩ := e
      rw [hus, List.take_length]
      exact ⟨_, rfl, q H' s1⟩
end
end Lf

set_option Elab.async false
set_option linter.all false
set_option maxRecDepth 100000
set_option maxHeartbeats 1000000
namespace L2
open PySem PySem.Spec PyProof.Rows
theorem call_dict_of {X : Cx} : CallR X (.type "dict") (fun xs H Q => ∃ p kvs, xs = [.ref p] ∧ Rd H p (.dK kvs) ∧ ∀ l, H l = none → Q (.ref l) (upd H l (.dK kvs))) := by
  intro pins s σ H xs us Q I r h
  obtain ⟨p, kvs, rfl, hq, q⟩ := h
  obtain ⟨u, rfl, rx⟩ := vals1 r
  cases rx
  exact d_copyOf I hq fun l s' hl I' => ⟨.ref l, _, I', rfl, q l hl⟩
theorem keys_old {kvs : List (Key × V)} {k : Key} (v : V) (h : valV kvs k ≠ none) : (putK kvs k v).map (·.1) = kvs.map (·.1) := by
  unfold putK
  rw [valV_any, Option.isSome_iff_ne_none.mpr h, if_pos rfl, List.map_map]
  refine List.map_congr_left fun p _ => ?_
  show (if p.1 = k then (p.1, v) else p).1 = p.1
  by_cases z : p.1 = k
  · rw [if_pos z]
  · rw [if_neg z]
theorem valV_mem : ∀ {kvs : List (Key × V)} {k : Key} {v : V}, (kvs.map (·.1)).Nodup → (k, v) ∈ kvs → valV kvs k = some v
  | p :: r, k, v, nd, h => by
    rcases List.mem_cons.mp h with z | z
    · rw [← z]; exact valV_pos rfl
    · have nd' := List.nodup_cons.mp nd
      rw [valV_neg (fun e => nd'.1 (by show p.1 ∈ _; rw [e]; exact List.mem_map.mpr ⟨(k, v), z, rfl⟩))]
      exact valV_mem nd'.2 z
end L2
namespace Lf
open PySem L2
/-- texts by texts -/
structure RowT (rk : List (Key × V)) : Prop where
  txt : ∀ p ∈ rk, (∃ n, p.1 = Sum.inr n) ∧ ∃ t, p.2 = .str t
  nd : (rk.map (·.1)).Nodup
def RowsC (H : Hp) (d : Addr) (us : List V) : Prop := ∀ u ∈ us, ∃ a rk, u = .ref a ∧ a ≠ d ∧ H a = some (.dK rk) ∧ RowT rk
def VOc (H : Hp) (d : Addr) (v : V) : Prop := (∃ t, v = .str t) ∨ ∃ l us, v = .ref l ∧ H l = some (.lst us) ∧ us.length ≤ 10 ∧ RowsC H d us
structure DatC (H : Hp) (d : Addr) (kvs : List (Key × V)) : Prop where
  all : ∀ p ∈ kvs, (∃ n, p.1 = Sum.inr n) ∧ VOc H d p.2
  nd : (kvs.map (·.1)).Nodup
theorem RowsC.mono {H H' : Hp} (e : Same H H') {d : Addr} {us : List V} (h : RowsC H d us) : RowsC H' d us := fun u hu => by
  obtain ⟨a, rk, h1, h2, h3, h4⟩ := h u hu
  exact ⟨a, rk, h1, h2, e _ _ h3, h4⟩
theorem DatC.mono {H H' : Hp} (e : Same H H') {d : Addr} {kvs : List (Key × V)} (h : DatC H d kvs) : DatC H' d kvs := ⟨fun p hp => ⟨(h.all p hp).1, by
  rcases (h.all p hp).2 with z | ⟨l, us, h1, h2, h3, h4⟩
  · exact .inl z
  · exact .inr ⟨l, us, h1, e _ _ h2, h3, h4.mono e⟩⟩, h.nd⟩
/-- a copy of a row -/
def CpR (H : Hp) (m : Addr) (u u' : V) : Prop := ∃ a a' rk, u = .ref a ∧ u' = .ref a' ∧ H a = some (.dK rk) ∧ H a' = some (.dK rk) ∧ RowT rk ∧ a ≠ m ∧ a' ≠ m
def Cp (H : Hp) (m : Addr) (v v' : V) : Prop := (∃ t, v = .str t ∧ v' = .str t) ∨ ∃ l us l' us', v = .ref l ∧ v' = .ref l' ∧ H l = some (.lst us) ∧ H l' = some (.lst us') ∧ l ≠ m ∧ l' ≠ m ∧ Paired (CpR H m) us us'
def Mv (m : Addr) (H H' : Hp) : Prop := ∀ b o, H b = some o → b ≠ m → ((∃ xs, o = .lst xs) ∨ ∃ k, o = .dK k) → H' b = some o
theorem CpR.mv {H H' : Hp} {m : Addr} (e : Mv m H H') {u u' : V} (h : CpR H m u u') : CpR H' m u u' := by
  obtain ⟨a, a', rk, h1, h2, h3, h4, h5, h6, h7⟩ := h
  exact ⟨a, a', rk, h1, h2, e _ _ h3 h6 (.inr ⟨_, rfl⟩), e _ _ h4 h7 (.inr ⟨_, rfl⟩), h5, h6, h7⟩
theorem Cp.mv {H H' : Hp} {m : Addr} (e : Mv m H H') {u u' : V} (h : Cp H m u u') : Cp H' m u u' := by
  rcases h with h | ⟨l, us, l', us', h1, h2, h3, h4, h5, h6, h7⟩
  · exact .inl h
  · exact .inr ⟨l, us, l', us', h1, h2, e _ _ h3 h5 (.inl ⟨_, rfl⟩), e _ _ h4 h6 (.inl ⟨_, rfl⟩), h5, h6, Paired.mapP h7 fun _ _ z => z.mv e⟩
theorem Mv.same {H H' : Hp} {m : Addr} (e : Same H H') : Mv m H H' := fun b o h _ _ => e b o h
theorem Mv.upd {H : Hp} {m : Addr} {o : HO} : Mv m H (L2.upd H m o) := fun b o h n _ => by rw [upd_ne n]; exact h
theorem Mv.thaw {H : Hp} {m d : Addr} {x : Obj} {y : HO} {o : HO} (hd : H d = some (.frz x y)) : Mv m H (L2.upd H d o) := fun b o h n k => by
  rw [upd_ne (ne_of h hd (by rcases k with ⟨_, rfl⟩ | ⟨_, rfl⟩ <;> intro z <;> cases z))]; exact h
theorem Mv.trans {H H' H2 : Hp} {m : Addr} (e : Mv m H H') (e' : Mv m H' H2) : Mv m H H2 := fun b o h n k => e' b o (e b o h n k) n k
/-- behind i names: d is held, all else stands -/
structure Cpy (H H' : Hp) (d m : Addr) (x : Obj) (kvs mk done : List (Key × V)) : Prop where
  keep : ∀ b o, b ≠ d → H b = some o → H' b = some o
  held : H' d = some (.frz x (.dK kvs))
  here : H' m = some (.dK mk)
  keys : mk.map (·.1) = done.map (·.1)
  all : ∀ p ∈ done, ∃ v', valV mk p.1 = some v' ∧ Cp H' m p.2 v'
  ks : ∀ k, valV mk k ≠ none → k ∈ done.map (·.1)
theorem Cpy.put {H H' : Hp} {d m : Addr} {x : Obj} {kvs mk done : List (Key × V)} {k : Key} {u v : V} (h : Cpy H H' d m x kvs mk done) (hm : H m = none) (hdm : d ≠ m) (hk : k ∉ done.map (·.1)) {H2 : Hp} (e : ∀ b o, b ≠ m → H' b = some o → H2 b = some o) {mk2 : List (Key × V)}
    (e2 : mk2.map (·.1) = mk.map (·.1) ++ [k]) (e3 : ∀ j, valV mk2 j = if j = k then some v else valV mk j) (hc : Cp H2 m u v) : Cpy H (L2.upd H2 m (.dK mk2)) d m x kvs mk2 (done ++ [(k, u)]) := by
  refine ⟨fun b o hb q => ?_, ?_, upd_same, ?_, fun p hp => ?_, fun j hj => ?_⟩
  · rw [upd_ne (ne_of_none q hm)]; exact e _ _ (ne_of_none q hm) (h.keep b o hb q)
  · rw [upd_ne hdm]; exact e _ _ hdm h.held
  · rw [e2, h.keys, List.map_append]; rfl
  · rcases List.mem_append.mp hp with z | z
    · obtain ⟨v', h1, h2⟩ := h.all p z
      refine ⟨v', ?_, h2.mv (Mv.trans (fun b o z n _ => e b o n z) Mv.upd)⟩
      rw [e3, if_neg (fun q => hk (by rw [← q]; exact List.mem_map.mpr ⟨p, z, rfl⟩))]
      exact h1
    · have : p = (k, u) := by simpa using z
      subst this
      exact ⟨v, by rw [e3, if_pos rfl], hc.mv Mv.upd⟩
  · rw [List.map_append]
    by_cases q : j = k
    · rw [q]; exact List.mem_append_right _ (List.mem_singleton.mpr rfl)
    · rw [e3, if_neg q] at hj
      exact List.mem_append_left _ (h.ks j hj)
section
variable {P : Program} {w : World} {K : PySem.W.Frag} {mg : Str → Option Value} {base : Heap} {D : Adr}
theorem scCopyL : FnScope ["values", "made", "name"] ["values"] (defScope sLawCopy) := ⟨rfl, rfl, rfl, by decide +kernel, rfl, by decide +kernel, by decide +kernel⟩
def spCopyL : Sp := fun vs H Q _ => ∃ (d : Addr) (kvs : List (Key × V)), vs = [.ref d] ∧ H d = some (.dK kvs) ∧ DatC H d kvs ∧ kvs.length ≤ 100 ∧
  ∀ (m : Addr) (mk : List (Key × V)) (H' : Hp), Same H H' → H m = none → H' m = some (.dK mk) → mk.map (·.1) = kvs.map (·.1) → (∀ p ∈ kvs, ∃ v', valV mk p.1 = some v' ∧ Cp H' m p.2 v') → Q (.ref m) H'
theorem ok_copyL (T : Txt w K mg D) : FnOk P w K mg base CX0 1 D.aLawCopy D.dLawCopy ["values"] spCopyL := by
  refine T.fLawCopy.ok scCopyL (fun vs H Q E h => ?_) (fun cdv A outer s H vs Q E hr h => ?_)
  · obtain ⟨d, kvs, rfl, _⟩ := h; rfl
  · obtain ⟨d, kvs, rfl, hd, hD, h10, q⟩ := h
    have hu := hu_of hr
    refine ⟨_, pss_cons (ps_set (i := 1) scCopyL.nd rfl (Or.inl rfl) pe_dnewK)
      (pss_cons (ps_forD PassesOwn.never rfl (pv 0) (pg_name (i := 2) scCopyL.nd rfl (Or.inl rfl))
        (pss_cons (ps_dput hu (pv 1) (pv 2) (pe_dget hu (pv 0) (pv 2) (fun _ _ => rfl)) rfl)
        (pss_one (ps_if (pt_val (pe_callB call_isinst rfl T.zIsinstance PyProof.Rows.boot_isinstance (pa_cons (pe_dget hu (pv 0) (pv 2) (fun _ _ => rfl)) (pa_cons (pe_bltn (v := .ty "list") rfl T.zList PyProof.Rows.boot_list rfl) pa_nil))))
          (pss_one (ps_dput hu (pv 1) (pv 2) (pe_comp (cp := []) (te := tCB (fun xs H Q => ∃ p kvs, xs = [.ref p] ∧ Rd H p (.dK kvs) ∧ ∀ l, H l = none → Q (.ref l) (L2.upd H l (.dK kvs))) (tCons (tVar 0) tNil)) (CompScope.of (defScope sLawCopy) ["values", "made", "name"] rfl rfl (by decide +kernel)) rfl
            (pi_list (pe_dget hu (pv 0) (pv 2) (fun _ _ => rfl))) (fun _ _ _ _ _ => pts_nil) (fun _ _ _ _ _ => pe_callTy call_dict_of rfl T.zDict (by decide +kernel) (pa_cons (pv 0) pa_nil))) rfl)) pss_nil))))
      (pss_one (ps_ret (pv 1)))), ?_⟩
    intro m hm
    have hdm : d ≠ m := ne_of_none hd hm
    refine ⟨_, rfl, d, kvs, rfl, same_new hm _ _ _ hd, fun x => ⟨fun i σ H' => ∃ (mk : List (Key × V)) (o2 : Option V), σ = [some (.ref d), some (.ref m), o2] ∧ i ≤ kvs.length ∧ Cpy H H' d m x kvs mk (kvs.take i), ?_, ?_, ?_, ?_⟩⟩
    · refine ⟨[], none, rfl, Nat.zero_le _, ⟨fun b o hb q' => ?_, upd_same, ?_, rfl, (fun _ z => nomatch z), fun k z => absurd rfl z⟩⟩
      · rw [upd_ne hb]; exact same_new hm _ _ _ q'
      · rw [upd_ne hdm.symm]; exact upd_same
    · rintro i σ H' ⟨mk, o2, rfl, hi, c⟩; exact c.held
    · rintro i σ H' k u B ⟨mk, o2, rfl, hi, c⟩ hk
      have mem := List.mem_of_getElem? hk
      have hlt : i < kvs.length := (List.getElem?_eq_some_iff.mp hk).1
      obtain ⟨⟨n, rfl⟩, vok⟩ := hD.all _ mem
      have hval : valV kvs (Sum.inr n : Key) = some u := valV_mem hD.nd mem
      have hkn : (Sum.inr n : Key) ∉ (kvs.take i).map (·.1) := by
        intro z
        have e := take_snoc hk
        have nd : ((kvs.take (i + 1)).map (·.1)).Nodup := (hD.nd).sublist ((List.take_sublist _ _).map _)
        rw [e, List.map_append, List.nodup_append] at nd
        exact nd.2.2 _ z _ (List.mem_singleton.mpr rfl) rfl
      have hnone : valV mk (Sum.inr n : Key) = none := by
        cases z : valV mk (Sum.inr n : Key) with
        | none => rfl
        | some v => exact absurd (c.ks _ (by rw [z]; exact fun y => nomatch y)) hkn
      have hlm : mk.length = i := by have := congrArg List.length c.keys; rw [List.length_map, List.length_map, List.length_take] at this; omega
      have l1 : (putK mk (Sum.inr n) u).map (·.1) = mk.map (·.1) ++ [Sum.inr n] := by rw [putK_new _ hnone, List.map_append]; rfl
      have l2 : (putK mk (Sum.inr n) u).length = mk.length + 1 := by rw [putK_new _ hnone, List.length_append]; rfl
      have dg : ∀ {H2 : Hp}, H2 d = some (.frz x (.dK kvs)) → DGet H2 d (.str n) (some u) := fun z => .inl ⟨kvs, Sum.inr n, .inr ⟨x, z⟩, rfl, hval.symm⟩
      have tk := take_snoc hk
      refine ⟨_, rfl, _, rfl, d, u, rfl, dg c.held, _, rfl, _, rfl, m, _, rfl, DPut.k (k := Sum.inr n) c.here (small1000 (by omega)), ?_⟩
      have held2 : L2.upd H' m (.dK (putK mk (Sum.inr n) u)) d = some (.frz x (.dK kvs)) := by rw [upd_ne hdm]; exact c.held
      rcases vok with ⟨t, rfl⟩ | ⟨l, us, rfl, hl, h3, hrows⟩
      · refine ⟨_, rfl, _, rfl, d, _, rfl, dg held2, _, _, false, .inr ⟨_, rfl, T.isStrList⟩, TyOf.str _, _, rfl, iteF ?_⟩
        exact ⟨_, _, rfl, hlt, by rw [tk]; exact c.put hm hdm hkn (fun _ _ _ z => z) l1 (fun j => valV_put _ _ _ _) (.inl ⟨t, rfl, rfl⟩)⟩
      · have hlm' : l ≠ m := ne_of_none hl hm
        have hld : l ≠ d := ne_of hl hd (by intro z; cases z)
        have hl2 : L2.upd H' m (.dK (putK mk (Sum.inr n) (.ref l))) l = some (.lst us) := by rw [upd_ne hlm']; exact c.keep _ _ hld hl
        refine ⟨_, rfl, _, rfl, d, _, rfl, dg held2, _, _, true, .inr ⟨_, rfl, T.isListList⟩, TyOf.lst hl2, _, rfl, iteT ?_⟩
        refine ⟨_, rfl, _, rfl, d, _, rfl, dg held2, l, rfl, ⟨_, SqL.of hl2⟩, ?_⟩
        have m2 : L2.upd H' m (.dK (putK mk (Sum.inr n) (.ref l))) m = some (.dK (putK mk (Sum.inr n) (.ref l))) := upd_same
        have row2 : ∀ u ∈ us, ∃ a rk, u = .ref a ∧ a ≠ m ∧ L2.upd H' m (.dK (putK mk (Sum.inr n) (.ref l))) a = some (.dK rk) ∧ RowT rk := fun u hu' => by
          obtain ⟨a, rk, z1, z2, z3, z4⟩ := hrows u hu'
          have am := ne_of_none z3 hm
          exact ⟨a, rk, z1, am, by rw [upd_ne am]; exact c.keep _ _ z2 z3, z4⟩
        have e12 : ∀ b o, b ≠ m → H' b = some o → L2.upd H' m (.dK (putK mk (Sum.inr n) (.ref l))) b = some o := fun b o z1 z2 => by rw [upd_ne z1]; exact z2
        revert held2 hl2 m2 row2 e12
        generalize L2.upd H' m (.dK (putK mk (Sum.inr n) (.ref l))) = H2
        intro held2 hl2 m2 row2 e12
        refine comp_list (xs := us) (fun j ys H5 => Same H2 H5 ∧ ys.length = j ∧ Paired (CpR H5 m) (us.take j) ys) ⟨Same.refl _, rfl, .nil⟩ (fun j ys H5 hj e => ⟨SqL.of (e.1 _ _ hl2), Nat.le_of_eq e.2.1⟩) (small (by omega)) (fun j x' ys H5 hx e => ?_) (fun ys H5 e r hr' => ?_)
        · obtain ⟨e1, e2, e3⟩ := e
          obtain ⟨a, rk, rfl, z1, z2, z3⟩ := row2 x' (List.mem_of_getElem? hx)
          refine ⟨_, rfl, a, rk, rfl, .inl (e1 _ _ z2), fun a' ha' => ?_⟩
          have s5 := same_new ha' (.dK rk)
          refine ⟨e1.trans s5, by rw [List.length_append, e2]; rfl, ?_⟩
          rw [take_snoc hx]
          exact (Paired.mapP e3 fun _ _ z => z.mv (Mv.same s5)).snoc ⟨a, a', rk, rfl, rfl, s5 _ _ (e1 _ _ z2), upd_same, z3, z1, Ne.symm (ne_of_none (e1 _ _ m2) ha')⟩
        · obtain ⟨e1, e2, e3⟩ := e
          rw [List.take_length] at e3
          have s5 := same_new hr' (.lst ys)
          have s15 := e1.trans s5
          have rm : r ≠ m := Ne.symm (ne_of_none (e1 _ _ m2) hr')
          refine ⟨_, rfl, _, rfl, m, _, rfl, DPut.k (k := Sum.inr n) (s15 _ _ m2) (small1000 (by omega)), ?_⟩
          refine ⟨putK (putK mk (Sum.inr n) (.ref l)) (Sum.inr n) (.ref r), _, rfl, hlt, ?_⟩
          rw [tk]
          refine c.put hm hdm hkn (fun b o z1 z2 => s15 _ _ (e12 b o z1 z2)) ?_ (fun j => ?_) (.inr ⟨l, us, r, ys, rfl, rfl, s15 _ _ hl2, upd_same, hlm', rm, Paired.mapP e3 fun _ _ z => z.mv (Mv.same s5)⟩)
          · rw [keys_old _ (by rw [valV_this]; exact fun z => nomatch z)]; exact l1
          · rw [valV_put, valV_put]
            by_cases z : j = Sum.inr n
            · rw [if_pos z, if_pos z]
            · rw [if_neg z, if_neg z, if_neg z]
    · rintro σ H' ⟨mk, o2, rfl, hi, c⟩
      rw [List.take_length] at c
      refine ⟨_, rfl, q m mk _ (fun b o z => ?_) hm (by rw [upd_ne hdm.symm]; exact c.here) c.keys (fun p hp => ?_)⟩
      · by_cases e : b = d
        · subst e; rw [hd] at z; rw [upd_same]; exact z
        · rw [upd_ne e]; exact c.keep b o e z
      · obtain ⟨v', z1, z2⟩ := c.all p hp
        exact ⟨v', z1, z2.mv (Mv.thaw c.held)⟩
end
end Lf

set_option Elab.async false
set_option linter.all false
set_option maxRecDepth 100000
set_option maxHeartbeats 1000000
namespace Lf
open PySem L2
/-! ### the values as a function -/
def rowV (H : Hp) : V → Row
  | .ref a => match H a with | some (.dK rk) => rowOf rk | _ => fun _ => none
  | _ => fun _ => none
def valO (H : Hp) : V → Option Val
  | .str t => some (.text t)
  | .ref l => match H l with | some (.lst us) => some (.rows (us.map (rowV H))) | _ => none
  | _ => none
def FOf (H : Hp) (kvs : List (Key × V)) : Vs := fun n => (valV kvs (Sum.inr n)).bind (valO H)
theorem rowV_of {H : Hp} {a : Addr} {rk : List (Key × V)} (h : H a = some (.dK rk)) : rowV H (.ref a) = rowOf rk := by
  show (match H a with | some (.dK rk) => rowOf rk | _ => fun _ => none) = _
  rw [h]
theorem valO_of {H : Hp} {l : Addr} {us : List V} (h : H l = some (.lst us)) : valO H (.ref l) = some (.rows (us.map (rowV H))) := by
  show (match H l with | some (.lst us) => some (Val.rows (us.map (rowV H))) | _ => none) = _
  rw [h]
theorem FOf_of {H : Hp} {kvs : List (Key × V)} {n : Str} {u : V} (h : valV kvs (Sum.inr n) = some u) : FOf H kvs n = valO H u := by
  show (valV kvs (Sum.inr n)).bind (valO H) = _
  rw [h]; rfl
theorem valV_some_mem {kvs : List (Key × V)} {k : Key} {v : V} (h : valV kvs k = some v) : (k, v) ∈ kvs := by
  unfold valV at h
  obtain ⟨p, hp, e⟩ := Option.map_eq_some_iff.mp h
  have h1 := List.mem_of_find?_eq_some hp
  have h2 : p.1 = k := by simpa using List.find?_some hp
  have : p = (k, v) := Prod.ext h2 e
  rw [← this]; exact h1

theorem rowOf_txt {rk : List (Key × V)} (h : RowT rk) (n : Str) : valV rk (Sum.inr n) = (rowOf rk n).map V.str := by
  cases z : valV rk (Sum.inr n : Key) with
  | none => unfold rowOf; rw [z]; rfl
  | some v =>
    obtain ⟨_, t, e⟩ := h.txt _ (valV_some_mem z)
    have e : v = .str t := e
    subst e
    rw [rowOf_of z]; rfl
theorem rowEx_of {H : Hp} {a : Addr} {rk : List (Key × V)} (ha : H a = some (.dK rk)) (h : RowT rk) : RowEx H (rowOf rk) (.ref a) := ⟨a, rk, rfl, .inl ha, rowOf_txt h⟩
theorem rows_ex {H : Hp} {d : Addr} : ∀ {us : List V}, RowsC H d us → Paired (RowEx H) (us.map (rowV H)) us
  | [], _ => .nil
  | u :: r, h => by
    obtain ⟨a, rk, e, _, ha, hk⟩ := h u List.mem_cons_self
    refine .cons ?_ (rows_ex fun x hx => h x (List.mem_cons_of_mem _ hx))
    subst e
    rw [rowV_of ha]
    exact rowEx_of ha hk
theorem FOf_none {H : Hp} {kvs : List (Key × V)} {n : Str} (z : valV kvs (Sum.inr n) = none) : FOf H kvs n = none := by show (valV kvs (Sum.inr n)).bind (valO H) = _; rw [z]; rfl
theorem VOc.val {H : Hp} {d : Addr} {u : V} (h : VOc H d u) : ∃ x, valO H u = some x := by
  rcases h with ⟨t, rfl⟩ | ⟨l, us, rfl, h2, _⟩
  · exact ⟨_, rfl⟩
  · exact ⟨_, valO_of h2⟩
theorem FOf_no {H : Hp} {d : Addr} {kvs : List (Key × V)} (h : DatC H d kvs) {n : Str} (e : FOf H kvs n = none) : valV kvs (Sum.inr n) = none := by
  cases z : valV kvs (Sum.inr n : Key) with
  | none => rfl
  | some u =>
    obtain ⟨x, ex⟩ := (h.all _ (valV_some_mem z)).2.val
    rw [FOf_of z, ex] at e
    cases e
theorem FOf_ex {H : Hp} {d : Addr} {kvs : List (Key × V)} (h : DatC H d kvs) (hd : Rd H d (.dK kvs)) : VsEx H (FOf H kvs) (.ref d) := by
  refine ⟨d, kvs, rfl, hd, fun n x e => ?_, fun n e => FOf_no h e⟩
  cases z : valV kvs (Sum.inr n : Key) with
  | none => rw [FOf_none z] at e; cases e
  | some u =>
    rw [FOf_of z] at e
    refine ⟨u, rfl, ?_⟩
    rcases (h.all _ (valV_some_mem z)).2 with ⟨t, y⟩ | ⟨l, us, y, h2, _, h4⟩
    · have y : u = .str t := y
      subst y
      cases e
      exact rfl
    · have y : u = .ref l := y
      subst y
      rw [valO_of h2] at e
      cases e
      exact ⟨l, us, rfl, h2, rows_ex h4⟩
theorem cp_rowsx {H : Hp} {m : Addr} : ∀ {us us' : List V}, Paired (CpR H m) us us' → Paired (RowEx H) (us.map (rowV H)) us'
  | _, _, .nil => .nil
  | _, _, .cons h t => by
    obtain ⟨a, a', rk, e, e', ha, ha', hk, _⟩ := h
    subst e e'
    refine .cons ?_ (cp_rowsx t)
    rw [rowV_of ha]
    exact rowEx_of ha' hk
theorem FOf_cpx {H : Hp} {d m : Addr} {kvs mk : List (Key × V)} (h : DatC H d kvs) (hm : Rd H m (.dK mk)) (hk : mk.map (·.1) = kvs.map (·.1)) (hc : ∀ p ∈ kvs, ∃ v', valV mk p.1 = some v' ∧ Cp H m p.2 v') : VsEx H (FOf H kvs) (.ref m) := by
  refine ⟨m, mk, rfl, hm, fun n x e => ?_, fun n e => ?_⟩
  · cases z : valV kvs (Sum.inr n : Key) with
    | none => rw [FOf_none z] at e; cases e
    | some u =>
      rw [FOf_of z] at e
      obtain ⟨v', e1, e2⟩ := hc _ (valV_some_mem z)
      refine ⟨v', e1, ?_⟩
      rcases e2 with ⟨t, y, y'⟩ | ⟨l, us, l', us', y, y', h2, h2', _, _, h4⟩
      · have y : u = .str t := y
        subst y y'
        cases e
        exact rfl
      · have y : u = .ref l := y
        subst y y'
        rw [valO_of h2] at e
        cases e
        exact ⟨l', us', rfl, h2', cp_rowsx h4⟩
  · have z := FOf_no h e
    cases y : valV mk (Sum.inr n : Key) with
    | none => rfl
    | some v =>
      have := valV_in y
      rw [hk] at this
      exact absurd this (valV_not z)
theorem FOf_same {H H' : Hp} {d : Addr} {kvs : List (Key × V)} (e : Same H H') (h : DatC H d kvs) : FOf H' kvs = FOf H kvs := by
  funext n
  cases z : valV kvs (Sum.inr n : Key) with
  | none => rw [FOf_none z, FOf_none z]
  | some u =>
    rw [FOf_of z, FOf_of z]
    rcases (h.all _ (valV_some_mem z)).2 with ⟨t, y⟩ | ⟨l, us, y, h2, _, h4⟩
    · have y : u = .str t := y
      subst y; rfl
    · have y : u = .ref l := y
      subst y
      rw [valO_of h2, valO_of (e _ _ h2)]
      congr 2
      refine List.map_congr_left fun v hv => ?_
      obtain ⟨a, rk, z1, _, z3, _⟩ := h4 v hv
      subst z1
      rw [rowV_of z3, rowV_of (e _ _ z3)]
/-! ### the copy equals the values -/
theorem EqT.str {K : PySem.W.Frag} {H : Hp} {t : Str} : ∀ n, EqT K H n (.str t) (.str t)
  | 0 => ⟨rfl, trivial⟩
  | n + 1 => .inl (EqT.str n)
theorem EqD.str {K : PySem.W.Frag} {H : Hp} {t : Str} : ∀ n, EqD K H n (.str t) (.str t)
  | 0 => EqT.str 0
  | n + 1 => .inl (EqT.str (n + 1))
theorem EqD.row {K : PySem.W.Frag} {H : Hp} {m : Addr} {u u' : V} (h : CpR H m u u') : EqD K H 1 u' u := by
  obtain ⟨a, a', rk, e, e', ha, ha', ok, _⟩ := h
  refine .inr (.inr ⟨a', a, rk, rk, e', e, .inl ha', .inl ha, rfl, fun k v hv => ⟨v, valV_mem ok.nd hv, ?_⟩⟩)
  obtain ⟨_, t, rfl⟩ := ok.txt _ hv
  exact EqD.str 0
theorem Paired.swap {α β : Type} {F : α → β → Prop} {G : β → α → Prop} (f : ∀ a b, F a b → G b a) : ∀ {as : List α} {bs : List β}, Paired F as bs → Paired G bs as
  | _, _, .nil => .nil
  | _, _, .cons h t => .cons (f _ _ h) (Paired.swap f t)
theorem EqD.val {K : PySem.W.Frag} {H : Hp} {m : Addr} {v v' : V} (h : Cp H m v v') : EqD K H 2 v' v := by
  rcases h with ⟨t, y, y'⟩ | ⟨l, us, l', us', y, y', h2, h2', _, _, h4⟩
  · subst y y'; exact EqD.str 2
  · exact .inr (.inl ⟨l', l, us', us, y', y, SqL.of h2', SqL.of h2, Paired.swap (fun _ _ z => EqD.row z) h4⟩)
theorem cp_eq {K : PySem.W.Frag} {H : Hp} {m : Addr} {kvs mk : List (Key × V)} (nd : (kvs.map (·.1)).Nodup) (hk : mk.map (·.1) = kvs.map (·.1)) (hc : ∀ p ∈ kvs, ∃ v', valV mk p.1 = some v' ∧ Cp H m p.2 v') :
    ∀ k v, (k, v) ∈ mk → ∃ v', valV kvs k = some v' ∧ EqD K H 2 v v' := fun k v h => by
  have hm : k ∈ kvs.map (·.1) := by rw [← hk]; exact List.mem_map.mpr ⟨(k, v), h, rfl⟩
  obtain ⟨p, hp, e⟩ := List.mem_map.mp hm
  obtain ⟨v', e1, e2⟩ := hc p hp
  have e : p.1 = k := e
  rw [e, valV_mem (by rw [hk]; exact nd) h] at e1
  cases e1
  exact ⟨p.2, valV_mem nd (by rw [← e]; exact hp), EqD.val e2⟩
end Lf

set_option Elab.async false
set_option linter.all false
set_option maxRecDepth 100000
set_option maxHeartbeats 2000000
namespace Lf
open PySem L2
section
variable {P : Program} {w : World} {K : PySem.W.Frag} {mg : Str → Option Value} {base : Heap} {D : Adr}
/-! ### _law_alone, of a BadValue -/
theorem scAlone : FnScope ["e", "found"] ["e"] (defScope sLawAlone) := ⟨rfl, rfl, rfl, by decide +kernel, rfl, by decide +kernel, by decide +kernel⟩
def spAlone (D : Adr) : Sp := fun vs H Q _ => ∃ (a : Addr) (dx : Option Addr), vs = [.ref a] ∧ H a = some (XObj a (.ref D.cBadValue) dx) ∧ ∀ H', Same H H' → Q (.int 1) H'
theorem ok_alone (T : Txt w K mg D) : FnOk P w K mg base CX0 1 D.aLawAlone D.dLawAlone ["e"] (spAlone D) := by
  refine T.fLawAlone.ok scAlone (fun vs H Q E h => ?_) (fun cdv A outer s H vs Q E hr h => ?_)
  · obtain ⟨a, dx, rfl, _⟩ := h; rfl
  · obtain ⟨a, dx, rfl, ha, q⟩ := h
    refine ⟨_, pss_cons (ps_set (i := 1) scAlone.nd rfl (Or.inl rfl) (pe_lst (pa_cons (pe_callB call_isX rfl T.zIsinstance PyProof.Rows.boot_isinstance (pa_cons (pv 0) (pa_cons (pe_glob (v := .ref D.cBadForm) rfl T.mgBadForm rfl) pa_nil)))
        (pa_cons (pe_callB call_isX rfl T.zIsinstance PyProof.Rows.boot_isinstance (pa_cons (pv 0) (pa_cons (pe_glob (v := .ref D.cBadValue) rfl T.mgBadValue rfl) pa_nil)))
        (pa_cons (pe_callB call_isX rfl T.zIsinstance PyProof.Rows.boot_isinstance (pa_cons (pv 0) (pa_cons (pe_glob (v := .ref D.cNoReading) rfl T.mgNoReading rfl) pa_nil)))
        (pa_cons (pe_callB call_isX rfl T.zIsinstance PyProof.Rows.boot_isinstance (pa_cons (pv 0) (pa_cons (pe_glob (v := .ref D.cTwofold) rfl T.mgTwofold rfl) pa_nil))) pa_nil))))))
      (pss_cons (ps_if (PW.pt (pw_or (pt_not (pt_val (pe_callB call_isX rfl T.zIsinstance PyProof.Rows.boot_isinstance (pa_cons (pv 0) (pa_cons (pe_glob (v := .ref D.cFormError) rfl T.mgFormError rfl) pa_nil)))))
          (pw_or (pt_not (pt_val (pe_callB call_isX rfl T.zIsinstance PyProof.Rows.boot_isinstance (pa_cons (pv 0) (pa_cons (pe_bltn (v := .ty "ValueError") rfl T.zValueError (by decide +kernel) rfl) pa_nil)))))
          (pw_or1 (pt_cmpR op_ne (pe_bm PySem.F.plainAttrs_list PySem.F.slot_list_count PySem.F.type_list_count mt_countB (pv 1) (pa_cons pe_bl pa_nil)) pe_int (nomark _)))))) pss_never pss_nil)
      (pss_one (ps_ret (pe_bm PySem.F.plainAttrs_list PySem.F.slot_list_index PySem.F.type_list_index mt_indexB (pv 1) (pa_cons pe_bl pa_nil))))), ?_⟩
    refine ⟨_, rfl, a, D.cBadValue, dx, false, T.xcBadValue, ha, .inl ⟨_, rfl, T.isBadValueBadForm⟩, _, rfl, a, D.cBadValue, dx, true, T.xcBadValue, ha, .inl ⟨_, rfl, T.isBadValueBadValue⟩, _, rfl, a, D.cBadValue, dx, false, T.xcBadValue, ha, .inl ⟨_, rfl, T.isBadValueNoReading⟩, _, rfl, a, D.cBadValue, dx, false, T.xcBadValue, ha, .inl ⟨_, rfl, T.isBadValueTwofold⟩, (by show 4 ≤ sizeLine; decide), fun l hl => ?_⟩
    have e1 := same_new hl (.lst [V.bl false, .bl true, .bl false, .bl false])
    have ha1 := e1 _ _ ha
    refine ⟨_, rfl, a, D.cBadValue, dx, true, T.xcBadValue, ha1, .inl ⟨_, rfl, T.isBadValueFormError⟩, _, rfl, iteF ?_⟩
    refine ⟨_, rfl, a, D.cBadValue, dx, true, T.xcBadValue, ha1, .inr ⟨_, rfl, T.isBadValueVE⟩, _, rfl, iteF ?_⟩
    refine ⟨_, rfl, .inl ⟨rfl, _, SqL.of upd_same⟩, l, [false, true, false, false], rfl, rfl, upd_same, rfl, _, rfl, iteNS rfl ?_⟩
    exact ⟨_, rfl, .inl ⟨rfl, _, SqL.of upd_same⟩, l, [false, true, false, false], 1, rfl, rfl, upd_same, rfl, (fun m hm => by cases m with | zero => rfl | succ m => omega), (by decide), q _ e1⟩
/-! ### _law_word_bad -/
theorem scWB : FnScope ["piece", "values"] ["piece", "values"] (defScope sLawWordBad) := ⟨rfl, rfl, rfl, by decide +kernel, rfl, by decide +kernel, by decide +kernel⟩
def spWB : Sp := fun vs H Q _ => ∃ (v : V) (d : Addr) (kvs : List (Key × V)) (n sg : Str) (lo hi : Int), vs = [v, .ref d] ∧ (Pc.ask n sg lo hi).At H v ∧ Rd H d (.dK kvs) ∧
  ((valV kvs (Sum.inr n) = none ∧ Q (.bl true) H) ∨ ∃ t, valV kvs (Sum.inr n) = some (.str t) ∧ t.length ≤ 1000 ∧ ∀ H', Same H H' → Q (.bl (!fitsB sg lo hi t)) H')
theorem inV_all (sg t : Str) : inV (.bl false) (t.cps.toList.map fun c => V.bl (decide (c ∈ sg.cps.toList))) = !(t.cps.toList.all fun c => decide (c ∈ sg.cps.toList)) := by
  unfold inV
  induction t.cps.toList with
  | nil => rfl
  | cons c r ih =>
    rw [List.map_cons, List.any_cons, List.all_cons, ih, Bool.not_and]
    show ((decide (c ∈ sg.cps.toList) == false) || _) = _
    cases decide (c ∈ sg.cps.toList) <;> rfl
theorem ok_WB (T : Txt w K mg D) : FnOk P w K mg base CX0 1 D.aLawWordBad D.dLawWordBad ["piece", "values"] spWB := by
  refine T.fLawWordBad.ok scWB (fun vs H Q E h => ?_) (fun cdv A outer s H vs Q E hr h => ?_)
  · obtain ⟨v, d, kvs, n, sg, lo, hi, rfl, _⟩ := h; rfl
  · obtain ⟨v, d, kvs, n, sg, lo, hi, rfl, ⟨p, rfl, hp⟩, hd, h⟩ := h
    have hu := hu_of hr
    refine ⟨_, pss_cons (ps_if (PW.pt (pw_or (pt_cmp (pc_dnotin hu (pe_ix ix_tup (pv 0) pe_int (fun _ _ => rfl)) (pv 1))) (pw_or1 (pt_not (pt_chain op_le op_le (pe_ix ix_tup (pv 0) pe_int (fun _ _ => rfl))
        (pe_callB call_len_str rfl T.zLen PySem.boot_len (pa_cons (pe_dget hu (pv 1) (pe_ix ix_tup (pv 0) pe_int (fun _ _ => rfl)) (fun _ _ => rfl)) pa_nil)) (pe_ix ix_tup (pv 0) pe_int (fun _ _ => rfl))))))) (pss_one (ps_ret pe_bl)) pss_nil)
      (pss_one (ps_ret (pe_cmpR op_in_seq pe_bl (pe_comp (cp := [(0, "piece")]) (te := tOp (rInSign false) (tVar 0) (tOp (rIxT K) (tVar 1) (tC (.int 2)))) (CompScope.of (defScope sLawWordBad) ["piece", "values"] rfl rfl (by decide +kernel)) rfl
        (pi_str (pe_dget hu (pv 1) (pe_ix ix_tup (pv 0) pe_int (fun _ _ => rfl)) (fun _ _ => rfl))) (fun _ _ _ _ _ => pts_nil) (fun _ _ _ _ _ => pe_cmpR op_inSign (pv 0) (pe_ix ix_tup (pv 1) pe_int (fun _ _ => rfl)) rfl)) rfl))), ?_⟩
    rcases h with ⟨hv, q⟩ | ⟨t, hv, hz, q⟩
    · have dg : DGet H d (.str n) none := .inl ⟨kvs, Sum.inr n, hd, rfl, hv.symm⟩
      exact ⟨_, rfl, p, _, _, _, rfl, rfl, SqT.of hp, rfl, _, rfl, d, none, rfl, dg, _, rfl, iteT (iteT q)⟩
    · have dg : ∀ {H' : Hp}, Rd H' d (.dK kvs) → DGet H' d (.str n) (some (.str t)) := fun z => .inl ⟨kvs, Sum.inr n, z, rfl, hv.symm⟩
      refine ⟨_, rfl, p, _, _, _, rfl, rfl, SqT.of hp, rfl, _, rfl, d, _, rfl, dg hd, _, rfl, iteF ?_⟩
      have fb : fitsB sg lo hi t = (decide (lo ≤ t.length) && decide ((t.length : Int) ≤ hi) && t.cps.toList.all fun c => decide (c ∈ sg.cps.toList)) := rfl
      refine ⟨_, rfl, p, _, _, _, rfl, rfl, SqT.of hp, rfl, _, rfl, _, rfl, p, _, _, _, rfl, rfl, SqT.of hp, rfl, d, _, rfl, dg hd, t, rfl, small hz, _, _, rfl, rfl, _, rfl, ?_⟩
      by_cases c1 : lo ≤ (t.length : Int)
      rotate_left
      · refine iteDF c1 ⟨_, rfl, iteT ?_⟩
        have := q H (Same.refl H)
        rw [fb, decide_eq_false c1] at this
        exact this
      refine iteD c1 ⟨_, rfl, p, _, _, _, rfl, rfl, SqT.of hp, rfl, _, _, rfl, rfl, _, rfl, ?_⟩
      by_cases c2 : (t.length : Int) ≤ hi
      rotate_left
      · rw [decide_eq_false c2]
        refine iteT ?_
        have := q H (Same.refl H)
        rw [fb, decide_eq_false c2, Bool.and_false] at this
        exact this
      rw [decide_eq_true c2]
      refine iteF ?_
      refine ⟨_, rfl, _, rfl, p, _, _, _, rfl, rfl, SqT.of hp, rfl, d, _, rfl, dg hd, t, rfl, ?_⟩
      refine comp_str (fun i ys H' => H' = H ∧ ys = ((t.cps.toList.take i).map fun c => V.bl (decide (c ∈ sg.cps.toList)))) ⟨rfl, rfl⟩ (fun i ys H' _ e => by rw [e.2, List.length_map, List.length_take]; omega) (small hz) (fun i c ys H' hc e => ?_) (fun ys H' e r hr' => ?_)
      · obtain ⟨rfl, rfl⟩ := e
        refine ⟨_, rfl, _, rfl, p, _, _, _, rfl, rfl, SqT.of hp, rfl, c, sg, rfl, rfl, rfl, ?_⟩
        have hc' : t.cps.toList[i]? = some c := by rw [Array.getElem?_toList]; exact hc
        rw [take_snoc hc', List.map_append]
        rfl
      · obtain ⟨rfl, rfl⟩ := e
        have ef : t.cps.toList.take t.cps.size = t.cps.toList := by rw [← Array.length_toList, List.take_length]
        rw [ef]
        refine ⟨r, _, rfl, .inl (SqL.of upd_same), rfl, ?_, ?_⟩
        · rw [List.all_map]
          exact List.all_eq_true.mpr fun _ _ => rfl
        · have := q _ (same_new hr' (.lst (t.cps.toList.map fun c => V.bl (decide (c ∈ sg.cps.toList)))))
          rw [fb, decide_eq_true c1, decide_eq_true c2, Bool.true_and, Bool.true_and] at this
          show Q (.bl (inV (.bl false) (t.cps.toList.map fun c => V.bl (decide (c ∈ sg.cps.toList))))) _
          rw [inV_all]
          exact this
/-! ### _law_first -/
def NoSay : Pie → Prop
  | .one (.say _) => False
  | .one (.ask ..) => True
  | .rows _ inner .. => ∀ p ∈ inner, ∃ n sg lo hi, p = Pc.ask n sg lo hi
def optV : Option Str → V
  | none => .non
  | some n => .str n
theorem scFirst : FnScope ["pieces", "values", "piece", "row", "one"] ["pieces", "values"] (defScope sLawFirst) := ⟨rfl, rfl, rfl, by decide +kernel, rfl, by decide +kernel, by decide +kernel⟩
def spFirst : Sp := fun vs H Q _ => ∃ (l d : Addr) (us : List V) (ps : List Pie) (F : Vs), vs = [.ref l, .ref d] ∧ H l = some (.lst us) ∧ Paired (Pie.At H) ps us ∧ (∀ p ∈ ps, NoSay p) ∧ VsEx H F (.ref d) ∧ (∀ p ∈ ps, TPie F p) ∧ ∀ H', Same H H' → Q (optV (badForm ps F)) H'
theorem ok_first (T : Txt w K mg D) : FnOk P w K mg base CX0 2 D.aLawFirst D.dLawFirst ["pieces", "values"] spFirst := by
  have G : FnOk P w K mg base CX0 1 D.aLawWordBad D.dLawWordBad ["piece", "values"] spWB := ok_WB T
  refine T.fLawFirst.ok scFirst (fun vs H Q E h => ?_) (fun cdv A outer s H vs Q E hr h => ?_)
  · obtain ⟨l, d, us, ps, F, rfl, _⟩ := h; rfl
  · obtain ⟨l, d, us, ps, F, rfl, hl, hp, hns, ⟨d', kvs, ed, hd, hv, hno⟩, hty, q⟩ := h
    cases ed
    have hu := hu_of hr
    have hus : us.length = ps.length := hp.length.symm
    refine ⟨_, pss_cons (ps_for PassesOwn.never rfl (pi_list (pv 0)) (pg_name (i := 2) scFirst.nd rfl (Or.inl rfl))
      (pss_one (ps_if (pt_cmpR op_eq (pe_ix ix_tup (pv 2) pe_int (fun _ _ => rfl)) pe_str (nomark _))
        (pss_one (ps_if (pt_val (pe_call G hr rfl T.mLawWordBad T.fLawWordBad.kp T.bLawWordBad .nil pass0 (pa_cons (pv 2) (pa_cons (pv 1) pa_nil)))) (pss_one (ps_ret (pe_ix ix_tup (pv 2) pe_int (fun _ _ => rfl)))) pss_nil))
        (pss_cons (ps_if (PW.pt (pw_or (pt_cmp (pc_dnotin hu (pe_ix ix_tup (pv 2) pe_int (fun _ _ => rfl)) (pv 1))) (pw_or1 (pt_not (pt_chain op_le op_le (pe_ix ix_tup (pv 2) pe_int (fun _ _ => rfl))
            (pe_callB call_len_seq rfl T.zLen PySem.boot_len (pa_cons (pe_dget hu (pv 1) (pe_ix ix_tup (pv 2) pe_int (fun _ _ => rfl)) (fun _ _ => rfl)) pa_nil)) (pe_ix ix_tup (pv 2) pe_int (fun _ _ => rfl))))))) (pss_one (ps_ret (pe_ix ix_tup (pv 2) pe_int (fun _ _ => rfl)))) pss_nil)
        (pss_one (ps_for PassesOwn.never rfl (pi_list (pe_dget hu (pv 1) (pe_ix ix_tup (pv 2) pe_int (fun _ _ => rfl)) (fun _ _ => rfl))) (pg_name (i := 3) scFirst.nd rfl (Or.inl rfl))
          (pss_one (ps_for PassesOwn.never rfl (pi_list (pe_ix ix_tup (pv 2) pe_int (fun _ _ => rfl))) (pg_name (i := 4) scFirst.nd rfl (Or.inl rfl))
            (pss_one (ps_if (pt_val (pe_call G hr rfl T.mLawWordBad T.fLawWordBad.kp T.bLawWordBad .nil pass0 (pa_cons (pv 4) (pa_cons (pv 3) pa_nil)))) (pss_one (ps_ret (pe_ix ix_tup (pv 4) pe_int (fun _ _ => rfl)))) pss_nil))))))))))
      (pss_one (ps_ret pe_non)), ?_⟩
    refine ⟨_, rfl, l, rfl, ⟨_, SqL.of hl⟩, for_list (xs := us) (fun i σ H' => Same H H' ∧ (∀ p ∈ ps.take i, badPie F p = none) ∧ ∃ o2 o3 o4, σ = [some (.ref l), some (.ref d), o2, o3, o4]) ⟨Same.refl H, (fun _ z => by cases z), none, none, none, rfl⟩ (fun i σ H' hi e => SqL.of (e.1 _ _ hl)) (fun i x σ H' hx e => ?_) (fun σ H' e => ?_)⟩
    rotate_left
    · obtain ⟨e1, e2, o2, o3, o4, rfl⟩ := e
      rw [hus, List.take_length] at e2
      have := q H' e1
      rw [show badForm ps F = none from findSome_no e2] at this
      exact this
    obtain ⟨e1, e2, o2, o3, o4, rfl⟩ := e
    obtain ⟨p, ep, pat⟩ := Paired.two hp hx
    have mp := List.mem_of_getElem? ep
    have pat1 := pat.mono e1
    have hd1 := Rd.mono e1 hd
    have step : badPie F p = none → ∀ y ∈ ps.take (i + 1), badPie F y = none := fun hb y hy => by
      rw [take_snoc ep] at hy
      rcases List.mem_append.mp hy with z | z
      · exact e2 y z
      · have : y = p := by simpa using z
        rw [this]; exact hb
    have stop : ∀ n, badPie F p = some n → ∀ H2, Same H' H2 → Q (.str n) H2 := fun n hb H2 e => by
      have := q H2 (e1.trans e)
      rw [show badForm ps F = some n from findSome_at e2 ep hb] at this
      exact this
    cases p with
    | one p =>
      cases p with
      | say t => exact (hns _ mp).elim
      | ask n sg lo hi =>
        obtain ⟨b, rfl, hb⟩ := pat1
        have eb : badPie F (.one (.ask n sg lo hi)) = match F n with | some (.text t) => if fitsB sg lo hi t = true then none else some n | _ => some n := rfl
        refine ⟨_, rfl, b, _, _, _, rfl, rfl, SqT.of hb, rfl, rfl, _, rfl, iteD rfl ?_⟩
        refine ⟨_, rfl, _, rfl, _, d, kvs, n, sg, lo, hi, rfl, ⟨b, rfl, hb⟩, hd1, ?_⟩
        cases e : F n with
        | none =>
          refine .inl ⟨hno n e, _, rfl, iteT ?_⟩
          exact ⟨_, rfl, b, _, _, _, rfl, rfl, SqT.of hb, rfl, stop n (by rw [eb, e]) _ (Same.refl _)⟩
        | some x =>
          obtain ⟨t, rfl, hz⟩ := hty _ mp x e
          obtain ⟨u, eu, hu'⟩ := hv n _ e
          cases (show u = .str t from hu')
          refine .inr ⟨t, eu, hz, fun H2 s2 => ⟨_, rfl, ?_⟩⟩
          cases fb : fitsB sg lo hi t with
          | true => exact iteF ⟨e1.trans s2, step (by rw [eb, e]; exact if_pos fb), _, _, _, rfl⟩
          | false =>
            refine iteT ⟨_, rfl, b, _, _, _, rfl, rfl, SqT.of (s2 _ _ hb), rfl, stop n (by rw [eb, e]; exact if_neg (by rw [fb]; decide)) _ s2⟩
    | rows n inner gap lo hi =>
      obtain ⟨b, r2, ws, rfl, hb, hr2', hin⟩ := pat1
      have eb : badPie F (.rows n inner gap lo hi) = match F n with | some (.rows rs) => if lo ≤ (rs.length : Int) ∧ (rs.length : Int) ≤ hi then rs.findSome? (badRow inner) else some n | _ => some n := rfl
      refine ⟨_, rfl, b, _, _, _, rfl, rfl, SqT.of hb, rfl, rfl, _, rfl, iteDF ne_ra ?_⟩
      cases e : F n with
      | none =>
        have dg : DGet H' d (.str n) none := .inl ⟨kvs, Sum.inr n, hd1, rfl, (hno n e).symm⟩
        refine ⟨_, rfl, b, _, _, _, rfl, rfl, SqT.of hb, rfl, _, rfl, d, none, rfl, dg, _, rfl, iteT (iteT ?_)⟩
        exact ⟨_, rfl, b, _, _, _, rfl, rfl, SqT.of hb, rfl, stop n (by rw [eb, e]) _ (Same.refl _)⟩
      | some x =>
        obtain ⟨rs, rfl, hz, htr⟩ := hty _ mp x e
        obtain ⟨u, eu, m, vs, rfl, hm, hrs⟩ := hv n _ e
        have hvs : vs.length = rs.length := hrs.length.symm
        have hm1 := e1 _ _ hm
        have dg : ∀ {H2 : Hp}, Same H' H2 → DGet H2 d (.str n) (some (.ref m)) := fun z => .inl ⟨kvs, Sum.inr n, Rd.mono z hd1, rfl, eu.symm⟩
        refine ⟨_, rfl, b, _, _, _, rfl, rfl, SqT.of hb, rfl, _, rfl, d, _, rfl, dg (Same.refl _), _, rfl, iteF ?_⟩
        refine ⟨_, rfl, b, _, _, _, rfl, rfl, SqT.of hb, rfl, _, rfl, _, rfl, b, _, _, _, rfl, rfl, SqT.of hb, rfl, d, _, rfl, dg (Same.refl _), m, vs, rfl, .inl (SqL.of hm1), _, _, rfl, rfl, _, rfl, ?_⟩
        by_cases c1 : lo ≤ (vs.length : Int)
        rotate_left
        · refine iteDF c1 ⟨_, rfl, iteT ⟨_, rfl, b, _, _, _, rfl, rfl, SqT.of hb, rfl, stop n ?_ _ (Same.refl _)⟩⟩
          rw [eb, e]; exact if_neg fun z => c1 (by rw [hvs]; exact z.1)
        refine iteD c1 ⟨_, rfl, b, _, _, _, rfl, rfl, SqT.of hb, rfl, _, _, rfl, rfl, _, rfl, ?_⟩
        by_cases c2 : (vs.length : Int) ≤ hi
        rotate_left
        · rw [decide_eq_false c2]
          refine iteT ⟨_, rfl, b, _, _, _, rfl, rfl, SqT.of hb, rfl, stop n ?_ _ (Same.refl _)⟩
          rw [eb, e]; exact if_neg fun z => c2 (by rw [hvs]; exact z.2)
        rw [decide_eq_true c2]
        refine iteF ?_
        have eb2 : badPie F (.rows n inner gap lo hi) = rs.findSome? (badRow inner) := by
          rw [eb, e]; exact if_pos ⟨by rw [← hvs]; exact c1, by rw [← hvs]; exact c2⟩
        refine ⟨_, rfl, _, rfl, b, _, _, _, rfl, rfl, SqT.of hb, rfl, d, _, rfl, dg (Same.refl _), m, rfl, ⟨_, SqL.of hm1⟩, ?_⟩
        refine for_list (xs := vs) (fun j σ H2 => Same H' H2 ∧ (∀ f ∈ rs.take j, badRow inner f = none) ∧ ∃ o3 o4, σ = [some (.ref l), some (.ref d), some (.ref b), o3, o4]) ⟨Same.refl _, (fun _ z => by cases z), o3, o4, rfl⟩ (fun j σ H2 _ z => SqL.of (z.1 _ _ hm1)) (fun j y σ H2 hy z => ?_) (fun σ H2 z => ?_)
        rotate_left
        · obtain ⟨z1, z2, o3, o4, rfl⟩ := z
          rw [hvs, List.take_length] at z2
          exact ⟨e1.trans z1, step (by rw [eb2]; exact findSome_no z2), _, _, _, rfl⟩
        obtain ⟨z1, z2, o3', o4', rfl⟩ := z
        obtain ⟨f, ef, a, rk, rfl, ha, hrk⟩ := Paired.two hrs hy
        have mf := List.mem_of_getElem? ef
        refine ⟨_, rfl, b, _, _, _, rfl, rfl, SqT.of (z1 _ _ hb), rfl, r2, rfl, ⟨_, SqL.of (z1 _ _ hr2')⟩, ?_⟩
        refine for_list (xs := ws) (fun k σ H3 => Same H2 H3 ∧ (∀ c ∈ inner.take k, badPc f c = none) ∧ ∃ o4, σ = [some (.ref l), some (.ref d), some (.ref b), some (.ref a), o4]) ⟨Same.refl _, (fun _ z => by cases z), _, rfl⟩ (fun k σ H3 _ z => SqL.of (z.1 _ _ (z1 _ _ hr2'))) (fun k y σ H3 hy' z => ?_) (fun σ H3 z => ?_)
        rotate_left
        · obtain ⟨y1, y2, o4, rfl⟩ := z
          have hws : ws.length = inner.length := hin.length.symm
          rw [hws, List.take_length] at y2
          refine ⟨z1.trans y1, fun g hg => ?_, _, _, rfl⟩
          rw [take_snoc ef] at hg
          rcases List.mem_append.mp hg with z | z
          · exact z2 g z
          · have : g = f := by simpa using z
            rw [this]; exact findSome_no y2
        obtain ⟨y1, y2, o4, rfl⟩ := z
        obtain ⟨c, ec, pc⟩ := Paired.two hin hy'
        have mc := List.mem_of_getElem? ec
        obtain ⟨n', sg', lo', hi', rfl⟩ := (hns _ mp) c mc
        have z13 := z1.trans y1
        obtain ⟨bc, rfl, hbc⟩ := Pc.At.mono z13 pc
        have ebc : badPc f (.ask n' sg' lo' hi') = match f n' with | none => some n' | some t => if fitsB sg' lo' hi' t = true then none else some n' := rfl
        have stop2 : badPc f (.ask n' sg' lo' hi') = some n' → ∀ H4, Same H3 H4 → Q (.str n') H4 := fun hbd H4 e4 =>
          stop n' (by rw [eb2]; exact findSome_at z2 ef (findSome_at y2 ec hbd)) H4 (z13.trans e4)
        refine ⟨_, rfl, _, rfl, _, a, rk, n', sg', lo', hi', rfl, ⟨bc, rfl, hbc⟩, Rd.mono z13 (Rd.mono e1 ha), ?_⟩
        have hvn := hrk n'
        cases ef' : f n' with
        | none =>
          rw [ef'] at hvn
          refine .inl ⟨hvn, _, rfl, iteT ?_⟩
          exact ⟨_, rfl, bc, _, _, _, rfl, rfl, SqT.of hbc, rfl, stop2 (by rw [ebc, ef']) _ (Same.refl _)⟩
        | some t =>
          rw [ef'] at hvn
          refine .inr ⟨t, hvn, htr f mf _ mc t ef', fun H4 s4 => ⟨_, rfl, ?_⟩⟩
          cases fb : fitsB sg' lo' hi' t with
          | true =>
            refine iteF ⟨y1.trans s4, fun g hg => ?_, _, rfl⟩
            rw [take_snoc ec] at hg
            rcases List.mem_append.mp hg with z | z
            · exact y2 g z
            · have : g = .ask n' sg' lo' hi' := by simpa using z
              rw [this, ebc, ef']; exact if_pos fb
          | false =>
            exact iteT ⟨_, rfl, bc, _, _, _, rfl, rfl, SqT.of (s4 _ _ hbc), rfl, stop2 (by rw [ebc, ef']; exact if_neg (by rw [fb]; decide)) _ s4⟩
/-! ### _law_tried -/
theorem scTried : FnScope ["form", "values", "found", "e"] ["form", "values"] (defScope sLawTried) := ⟨rfl, rfl, rfl, by decide +kernel, rfl, by decide +kernel, by decide +kernel⟩
def spTried (D : Adr) : Sp := fun vs H Q _ => ∃ (H0 : Hp) (ps : List Pie) (F : Vs) (v d : V), vs = [v, d] ∧ FormAt D.cl H0 H ps v ∧ FormOk ps ∧ VsEx H F d ∧ (∀ p ∈ ps, TPie F p) ∧ (badForm ps F = none → ∀ H', Same H H' → Q (.str (wForm ps F)) H') ∧
  ∀ n, badForm ps F = some n → ∀ a x H', Same H H' → H' a = some (XObj a (.ref D.cBadValue) (some x)) → H' x = some (.xd [("name", .str n)]) → Q (.ref a) H'
theorem ok_tried (T : Txt w K mg D) : FnOk P w K mg base CX0 11 D.aLawTried D.dLawTried ["form", "values"] (spTried D) := by
  have G : FnOk P w K mg base (CXr P w) 10 D.aFill D.dFill ["form", "values"] (spFillx D) := okx_fill T
  refine T.fLawTried.ok scTried (fun vs H Q E h => ?_) (fun cdv A outer s H vs Q E hr h => ?_)
  · obtain ⟨H0, ps, F, v, d, rfl, _⟩ := h; rfl
  · obtain ⟨H0, ps, F, v, d, rfl, hf, ok, hd, hty, q, qn⟩ := h
    refine ⟨_, pss_cons (ps_set (i := 2) scTried.nd rfl (Or.inl rfl) pe_non)
      (pss_cons (ps_try (i := 3) (tb := fun E => tAsg (tCall (spFillx D) [] E (tCons (tVar 0) (tCons (tVar 1) tNil))) (gName 2)) scTried.nd rfl rfl rfl T.mgFormError rfl rfl rfl
        (fun pn xe E hx => pss_one (ps_set (i := 2) scTried.nd rfl (Or.inl rfl) (pe_call G hr rfl T.mFill T.fFill.kp T.bFill .nil hx (pa_cons (pv 0) (pa_cons (pv 1) pa_nil)))))
        (fun a => pss_one (ps_set (i := 2) scTried.nd rfl (Or.inl rfl) (pv 3))))
      (pss_one (ps_ret (pv 2)))), ?_⟩
    refine ⟨_, rfl, _, rfl, H0, ps, F, v, d, rfl, hf, ok, hd, hty, fun hb H' e => ?_, fun n hb H' x e hx => ?_⟩
    · exact ⟨_, rfl, q hb H' e⟩
    · refine ⟨T.emBadValue, fun a ha => ?_⟩
      have e2 := same_new ha (XObj a (.ref D.cBadValue) (some x))
      exact ⟨_, rfl, _, rfl, qn n hb a x _ (e.trans e2) upd_same (e2 _ _ hx)⟩
end
end Lf

set_option Elab.async false
set_option linter.all false
set_option maxRecDepth 100000
set_option maxHeartbeats 2000000
namespace Lf
open PySem L2
theorem valV_drop {kvs : List (Key × V)} {k j : Key} : valV (dropK kvs k) j = if j = k then none else valV kvs j := by
  induction kvs with
  | nil => rw [show valV ([] : List (Key × V)) j = none from rfl, show valV (dropK ([] : List (Key × V)) k) j = none from rfl]; split <;> rfl
  | cons p r ih =>
    by_cases e : p.1 = k
    · rw [dropK_pos e, ih]
      by_cases z : j = k
      · rw [if_pos z, if_pos z]
      · rw [if_neg z, if_neg z, valV_neg (fun y => z (y.symm.trans e))]
    · rw [dropK_neg e]
      by_cases y : p.1 = j
      · rw [valV_pos y, valV_pos y, if_neg (fun z => e (y.trans z))]
      · rw [valV_neg y, valV_neg y, ih]
theorem nd_put {kvs : List (Key × V)} {k : Key} {v : V} (h : (kvs.map (·.1)).Nodup) : ((putK kvs k v).map (·.1)).Nodup := by
  by_cases z : valV kvs k = none
  · exact nd_putK _ h z
  · rw [keys_old _ z]; exact h
theorem mem_put {kvs : List (Key × V)} {k : Key} {v : V} {p : Key × V} (h : p ∈ putK kvs k v) : p = (k, v) ∨ p ∈ kvs := by
  by_cases z : valV kvs k = none
  · rw [putK_new _ z] at h
    rcases List.mem_append.mp h with y | y
    · exact .inr y
    · exact .inl (by simpa using y)
  · unfold putK at h
    rw [valV_any, Option.isSome_iff_ne_none.mpr z, if_pos rfl] at h
    obtain ⟨q, hq, e⟩ := List.mem_map.mp h
    by_cases y : q.1 = k
    · rw [if_pos y] at e
      exact .inl (by rw [← e, y])
    · rw [if_neg y] at e
      exact .inr (by rw [← e]; exact hq)
structure RowC (c : Nat) (N : List Str) (rk : List (Key × V)) : Prop where
  t : RowT rk
  few : rk.length ≤ 4 + c
  sm : ∀ n ∈ N, ∀ t, valV rk (Sum.inr n) = some (.str t) → t.length ≤ 1000
theorem RowC.up {c : Nat} {N : List Str} {rk : List (Key × V)} (h : RowC c N rk) : RowC (c + 1) N rk := ⟨h.t, Nat.le_trans h.few (by omega), h.sm⟩
theorem RowC.put {c : Nat} {N : List Str} {rk : List (Key × V)} {n t : Str} (h : RowC c N rk) (ht : t.length ≤ 1000) : RowC (c + 1) N (putK rk (Sum.inr n) (.str t)) := by
  refine ⟨⟨fun p hp => ?_, nd_put h.t.nd⟩, Nat.le_trans (length_putK _ _ _) (by have := h.few; omega), fun m hm u e => ?_⟩
  · rcases mem_put hp with y | y
    · subst y; exact ⟨⟨n, rfl⟩, t, rfl⟩
    · exact h.t.txt p y
  · rw [valV_put] at e
    by_cases z : (Sum.inr m : Key) = Sum.inr n
    · rw [if_pos z] at e; cases e; exact ht
    · rw [if_neg z] at e; exact h.sm m hm u e
theorem RowC.drop {c : Nat} {N : List Str} {rk : List (Key × V)} {k : Key} (h : RowC c N rk) : RowC (c + 1) N (dropK rk k) := by
  refine ⟨⟨fun p hp => h.t.txt p (dropK_mem hp), nd_dropK h.t.nd⟩, Nat.le_trans (dropK_le _ _) (by have := h.few; omega), fun m hm u e => ?_⟩
  rw [valV_drop] at e
  by_cases z : (Sum.inr m : Key) = k
  · rw [if_pos z] at e; cases e
  · rw [if_neg z] at e; exact h.sm m hm u e
def Rws (c : Nat) (N : List Str) (H : Hp) (d : Addr) (us : List V) : Prop := ∀ x ∈ us, ∃ a rk, x = .ref a ∧ a ≠ d ∧ H a = some (.dK rk) ∧ RowC c N rk
structure Vo (c : Nat) (N : List Str) (H : Hp) (d : Addr) (kvs : List (Key × V)) : Prop where
  here : H d = some (.dK kvs)
  nd : (kvs.map (·.1)).Nodup
  few : kvs.length ≤ 6 + c
  keys : ∀ p ∈ kvs, p.1 = (Sum.inr ("first" : Str) : Key) ∨ p.1 = (Sum.inr ("all" : Str) : Key) ∨ p.1 = (Sum.inr ("last" : Str) : Key)
  tx : ∀ n : Str, n = ("first" : Str) ∨ n = ("last" : Str) → ∀ u, valV kvs (Sum.inr n) = some u → ∃ t, u = .str t ∧ t.length ≤ 1000
  al : ∀ u, valV kvs (Sum.inr "all") = some u → ∃ l us, u = .ref l ∧ H l = some (.lst us) ∧ us.length ≤ 4 ∧ Rws c N H d us
theorem Rws.up {c : Nat} {N : List Str} {H : Hp} {d : Addr} {us : List V} (h : Rws c N H d us) : Rws (c + 1) N H d us := fun x hx => by
  obtain ⟨a, rk, h1, h2, h3, h4⟩ := h x hx
  exact ⟨a, rk, h1, h2, h3, h4.up⟩
theorem Rws.same {c : Nat} {N : List Str} {H H' : Hp} {d : Addr} {us : List V} (e : Same H H') (h : Rws c N H d us) : Rws c N H' d us := fun x hx => by
  obtain ⟨a, rk, h1, h2, h3, h4⟩ := h x hx
  exact ⟨a, rk, h1, h2, e _ _ h3, h4⟩
theorem Rws.upd {c : Nat} {N : List Str} {H : Hp} {d : Addr} {o : HO} {us : List V} (h : Rws c N H d us) : Rws c N (L2.upd H d o) d us := fun x hx => by
  obtain ⟨a, rk, h1, h2, h3, h4⟩ := h x hx
  exact ⟨a, rk, h1, h2, by rw [upd_ne h2]; exact h3, h4⟩
section
variable {c : Nat} {N : List Str} {H : Hp} {d : Addr} {kvs : List (Key × V)}
theorem Vo.up (h : Vo c N H d kvs) : Vo (c + 1) N H d kvs := ⟨h.here, h.nd, Nat.le_trans h.few (by omega), h.keys, h.tx, fun u e => by
  obtain ⟨l, us, h1, h2, h3, h4⟩ := h.al u e
  exact ⟨l, us, h1, h2, h3, h4.up⟩⟩
theorem Vo.same {H' : Hp} (e : Same H H') (h : Vo c N H d kvs) : Vo c N H' d kvs := ⟨e _ _ h.here, h.nd, h.few, h.keys, h.tx, fun u q => by
  obtain ⟨l, us, h1, h2, h3, h4⟩ := h.al u q
  exact ⟨l, us, h1, e _ _ h2, h3, h4.same e⟩⟩
theorem Vo.drop {k : Key} (h : Vo c N H d kvs) : Vo (c + 1) N (L2.upd H d (.dK (dropK kvs k))) d (dropK kvs k) := by
  refine ⟨upd_same, nd_dropK h.nd, Nat.le_trans (dropK_le _ _) (by have := h.few; omega), fun p hp => h.keys p (dropK_mem hp), fun n hn u e => ?_, fun u e => ?_⟩
  · rw [valV_drop] at e
    by_cases z : (Sum.inr n : Key) = k
    · rw [if_pos z] at e; cases e
    · rw [if_neg z] at e; exact h.tx n hn u e
  · rw [valV_drop] at e
    by_cases z : (Sum.inr "all" : Key) = k
    · rw [if_pos z] at e; cases e
    · rw [if_neg z] at e
      obtain ⟨l, us, h1, h2, h3, h4⟩ := h.al u e
      exact ⟨l, us, h1, by rw [upd_ne (ne_of h2 h.here (by intro z; cases z))]; exact h2, h3, h4.up.upd⟩
theorem Vo.putT {n t : Str} (h : Vo c N H d kvs) (hn : n = "first" ∨ n = "last") (ht : t.length ≤ 1000) : Vo (c + 1) N (L2.upd H d (.dK (putK kvs (Sum.inr n) (.str t)))) d (putK kvs (Sum.inr n) (.str t)) := by
  have na : ¬ (Sum.inr "all" : Key) = Sum.inr n := fun z => by
    have z := Sum.inr.inj z
    rcases hn with rfl | rfl <;> revert z <;> decide +kernel
  refine ⟨upd_same, nd_put h.nd, Nat.le_trans (length_putK _ _ _) (by have := h.few; omega), fun p hp => ?_, fun m hm u e => ?_, fun u e => ?_⟩
  · rcases mem_put hp with y | y
    · subst y
      rcases hn with rfl | rfl
      · exact .inl rfl
      · exact .inr (.inr rfl)
    · exact h.keys p y
  · rw [valV_put] at e
    by_cases z : (Sum.inr m : Key) = Sum.inr n
    · rw [if_pos z] at e; cases e; exact ⟨t, rfl, ht⟩
    · rw [if_neg z] at e; exact h.tx m hm u e
  · rw [valV_put, if_neg na] at e
    obtain ⟨l, us, h1, h2, h3, h4⟩ := h.al u e
    exact ⟨l, us, h1, by rw [upd_ne (ne_of h2 h.here (by intro z; cases z))]; exact h2, h3, h4.up.upd⟩
theorem Vo.putA {l : Addr} {us : List V} (h : Vo c N H d kvs) (hl : H l = some (.lst us)) (h4 : us.length ≤ 4) (hr : Rws c N H d us) : Vo (c + 1) N (L2.upd H d (.dK (putK kvs (Sum.inr "all") (.ref l)))) d (putK kvs (Sum.inr "all") (.ref l)) := by
  refine ⟨upd_same, nd_put h.nd, Nat.le_trans (length_putK _ _ _) (by have := h.few; omega), fun p hp => ?_, fun m hm u e => ?_, fun u e => ?_⟩
  · rcases mem_put hp with y | y
    · subst y; exact .inr (.inl rfl)
    · exact h.keys p y
  · rw [valV_put, if_neg (fun z => by
      have z := Sum.inr.inj z
      rcases hm with rfl | rfl <;> revert z <;> decide +kernel)] at e
    exact h.tx m hm u e
  · rw [valV_put, if_pos rfl] at e
    cases e
    exact ⟨l, us, rfl, by rw [upd_ne (ne_of hl h.here (by intro z; cases z))]; exact hl, h4, hr.up.upd⟩
theorem Vo.row {a : Addr} {rk rk' : List (Key × V)} (h : Vo c N H d kvs) (ha : H a = some (.dK rk)) (hn : a ≠ d) (hr : RowC c N rk → RowC (c + 1) N rk') : Vo (c + 1) N (L2.upd H a (.dK rk')) d kvs := by
  refine ⟨by rw [upd_ne (Ne.symm hn)]; exact h.here, h.nd, Nat.le_trans h.few (by omega), h.keys, h.tx, fun u e => ?_⟩
  obtain ⟨l, us, h1, h2, h3, h4⟩ := h.al u e
  refine ⟨l, us, h1, by rw [upd_ne (ne_of h2 ha (by intro z; cases z))]; exact h2, h3, fun x hx => ?_⟩
  obtain ⟨b, rb, e1, e2, e3, e4⟩ := h4 x hx
  by_cases y : b = a
  · subst y
    rw [ha] at e3; cases e3
    exact ⟨b, rk', e1, e2, upd_same, hr e4⟩
  · exact ⟨b, rb, e1, e2, by rw [upd_ne y]; exact e3, e4.up⟩
end
/-- all but dicts is as it was -/
def Kd (H H' : Hp) : Prop := ∀ b o, H b = some o → (∀ k, o ≠ .dK k) → H' b = some o
theorem Kd.of {H H' : Hp} (e : Same H H') : Kd H H' := fun b o h _ => e b o h
theorem Kd.trans {H H' H2 : Hp} (e : Kd H H') (f : Kd H' H2) : Kd H H2 := fun b o h k => f b o (e b o h k) k
theorem Kd.upd {H : Hp} {d : Addr} {ks k' : List (Key × V)} (hd : H d = some (.dK ks)) : Kd H (L2.upd H d (.dK k')) := fun b o h k => by rw [upd_ne (ne_of h hd (k _))]; exact h
theorem Kd.scr {K : PySem.W.Frag} {a : Addr} {H H' : Hp} {ns : List Int} (e : Kd H H') (h : Scr K H a ns) : Scr K H' a ns := by
  refine ⟨?_, h.few⟩
  rcases h.at' with (z | ⟨o, z⟩) | z
  · exact .inl (.inl (e a _ z (by intro k y; cases y)))
  · exact .inl (.inr ⟨o, e a _ z (by intro k y; cases y)⟩)
  · exact .inr z
theorem Kd.pc {H H' : Hp} (e : Kd H H') {p : Pc} {v : V} (h : p.At H v) : p.At H' v := by
  obtain ⟨a, rfl, ha⟩ := h
  exact ⟨a, rfl, e a _ ha (by intro k z; cases z)⟩
theorem Kd.pie {H H' : Hp} (e : Kd H H') : ∀ {p : Pie} {v : V}, p.At H v → p.At H' v
  | .one p, v, h => e.pc (p := p) h
  | .rows .., v, ⟨a, l, vs, h1, h2, h3, h4⟩ => ⟨a, l, vs, h1, e a _ h2 (by intro k z; cases z), e l _ h3 (by intro k z; cases z), Paired.mapP h4 fun _ _ z => e.pc z⟩
theorem cut4 (xs : List V) : (cutV xs none (some 4)).length ≤ 4 ∧ ∀ x ∈ cutV xs none (some 4), x ∈ xs := by
  unfold cutV
  refine ⟨?_, fun x hx => List.mem_of_mem_drop (List.mem_of_mem_take hx)⟩
  have e : HT.sIx xs.length xs.length (some (4 : Int)) = min 4 xs.length := HT.sIx_nat xs.length xs.length 4
  rw [List.length_take, e]
  omega
theorem mem_rep {us : List V} {k : Nat} {x : V} (h : x ∈ (List.replicate k us).flatten) : x ∈ us := by
  obtain ⟨l, h1, h2⟩ := List.mem_flatten.mp h
  rw [(List.mem_replicate.mp h1).2] at h2
  exact h2
def f1 : List Str := ["", "abca", "abd", "A"]
def f2 : List Str := ["0000", "x", "cc0"]
def f3 : List Str := ["z", "yyy", "xx "]
theorem f_small : (∀ z ∈ f1, z.length ≤ 1000) ∧ (∀ z ∈ f2, z.length ≤ 1000) ∧ ∀ z ∈ f3, z.length ≤ 1000 := by decide +kernel
section
variable {P : Program} {w : World} {K : PySem.W.Frag} {mg : Str → Option Value} {base : Heap} {D : Adr}
theorem scFault : FnScope ["values", "way", "cell", "names", "row", "name"] ["values", "way", "cell", "names"] (defScope sLawFault) := ⟨rfl, rfl, rfl, by decide +kernel, rfl, by decide +kernel, by decide +kernel⟩
def spFault : Sp := fun vs H Q _ => ∃ (c : Nat) (d nl : Addr) (kvs : List (Key × V)) (way cell : Int) (n0 n1 : Str), vs = [.ref d, .int way, .int cell, .ref nl] ∧ Vo c [n0, n1] H d kvs ∧ c ≤ 20 ∧ H nl = some (.lst [.str n0, .str n1]) ∧ ∀ kvs' H', Kd H H' → Vo (c + 7) [n0, n1] H' d kvs' → Q .non H'
def MidF (c k : Nat) (d nl : Addr) (way cell : Int) (N : List Str) (H : Hp) (σ : St) (H' : Hp) : Prop := ∃ kvs o4 o5, σ = [some (.ref d), some (.int way), some (.int cell), some (.ref nl), o4, o5] ∧ Kd H H' ∧ Vo (c + k) N H' d kvs
theorem ok_fault (T : Txt w K mg D) : FnOk P w K mg base CX0 1 D.aLawFault D.dLawFault ["values", "way", "cell", "names"] spFault := by
  refine T.fLawFault.ok scFault (fun vs H Q E h => ?_) (fun cdv A outer s H vs Q E hr h => ?_)
  · obtain ⟨c, d, nl, kvs, way, cell, n0, n1, rfl, _⟩ := h; rfl
  · obtain ⟨c, d, nl, kvs, way, cell, n0, n1, rfl, V0, hc, hnl, q⟩ := h
    have hu := hu_of hr
    refine ⟨_, pss_cons (ps_if (pt_cmpR op_eq (pv 1) pe_int (nomark _)) (pss_one (ps_expr (pe_dpop2 (pv 0) pe_str pe_non ⟨rfl, rfl, rfl, rfl⟩))) pss_nil)
      (pss_cons (ps_if (pt_cmpR op_eq (pv 1) pe_int (nomark _)) (pss_one (ps_dput hu (pv 0) pe_str (pe_ix ix_list (pe_strs f1 rfl) (pe_op op_mod (pv 2) pe_int) (fun _ _ => rfl)) rfl)) pss_nil)
      (pss_cons (ps_if (pt_cmpR op_eq (pv 1) pe_int (nomark _)) (pss_one (ps_expr (pe_dpop2 (pv 0) pe_str pe_non ⟨rfl, rfl, rfl, rfl⟩))) pss_nil)
      (pss_cons (ps_if (pt_cmpR op_eq (pv 1) pe_int (nomark _)) (pss_one (ps_dput hu (pv 0) pe_str (pe_slice sl_list (pe_ix ix_list (pe_lst (pa_cons (pe_lst pa_nil) (pa_cons (pe_op op_rep (pe_dget2 hu (pv 0) pe_str (pe_lst pa_nil) ⟨rfl, rfl, rfl, rfl⟩) pe_int) pa_nil))) (pe_op op_mod (pv 2) pe_int) (fun _ _ => rfl)) po_none (po_some pe_int)) rfl)) pss_nil)
      (pss_cons (ps_if (PW.pt (pw_and (pt_cmpR op_gt (pv 1) pe_int (nomark _)) (pw_and (pt_cmpR op_lt (pv 1) pe_int (nomark _)) (pw_and (pt_cmp (pc_din hu pe_str (pv 0))) (pw_and1 (pt_cmpR op_gt (pe_callB call_len_seq rfl T.zLen PySem.boot_len (pa_cons (pe_dget hu (pv 0) pe_str (fun _ _ => rfl)) pa_nil)) pe_int (nomark _)))))))
          (pss_cons (ps_set (i := 4) scFault.nd rfl (Or.inl rfl) (pe_ix ix_list (pe_dget hu (pv 0) pe_str (fun _ _ => rfl)) (pe_op op_mod (pv 2) (pe_callB call_len_seq rfl T.zLen PySem.boot_len (pa_cons (pe_dget hu (pv 0) pe_str (fun _ _ => rfl)) pa_nil))) (fun _ _ => rfl)))
          (pss_cons (ps_set (i := 5) scFault.nd rfl (Or.inl rfl) (pe_ix ix_list (pv 3) (pe_op op_mod (pv 1) pe_int) (fun _ _ => rfl)))
          (pss_one (ps_if (pt_cmpR op_lt (pv 1) pe_int (nomark _)) (pss_one (ps_expr (pe_dpop2 (pv 4) (pv 5) pe_non ⟨rfl, rfl, rfl, rfl⟩)))
            (pss_one (ps_dput hu (pv 4) (pv 5) (pe_ix ix_list (pe_strs f2 rfl) (pe_op op_mod (pe_op op_fdiv (pv 2) pe_int) pe_int) (fun _ _ => rfl)) rfl)))))) pss_nil)
      (pss_cons (ps_if (PW.pt (pw_and (pt_cmpR op_eq (pv 1) pe_int (nomark _)) (pw_and1 (pt_cmpR op_eq (pe_op op_mod (pv 2) pe_int) pe_int (nomark _))))) (pss_one (ps_expr (pe_dpop2 (pv 0) pe_str pe_non ⟨rfl, rfl, rfl, rfl⟩))) pss_nil)
      (pss_one (ps_if (PW.pt (pw_and (pt_cmpR op_eq (pv 1) pe_int (nomark _)) (pw_and1 (pt_cmpR op_eq (pe_op op_mod (pv 2) pe_int) pe_int (nomark _))))) (pss_one (ps_dput hu (pv 0) pe_str (pe_ix ix_list (pe_strs f3 rfl) (pe_op op_mod (pe_op op_fdiv (pv 2) pe_int) pe_int) (fun _ _ => rfl)) rfl)) pss_nil))))))), ?_⟩
    have st : MidF c 0 d nl way cell [n0, n1] H (start ["values", "way", "cell", "names", "row", "name"] [.ref d, .int way, .int cell, .ref nl]) H := ⟨kvs, none, none, rfl, Kd.of (Same.refl H), V0⟩
    have mod0 : ∀ (x : Int) (m : Int), 0 < m → 0 ≤ x % m ∧ x % m < m := fun x m h => ⟨Int.emod_nonneg _ (by omega), Int.emod_lt_of_pos _ h⟩
    revert st
    generalize start ["values", "way", "cell", "names", "row", "name"] [.ref d, .int way, .int cell, .ref nl] = σ0
    intro st
    -- pop("first")
    refine tSeq_cut (MidF c 1 d nl way cell [n0, n1] H) (fun σ H1 st1 => ?_) (fun k => ?_)
    rotate_left
    · obtain ⟨kv, o4, o5, rfl, kd, V⟩ := st
      refine ⟨_, rfl, rfl, _, rfl, ite2 (fun _ => ?_) (fun _ => k _ _ ⟨kv, _, _, rfl, kd, V.up⟩)⟩
      exact ⟨_, rfl, d, rfl, .inl ⟨kv, .inl V.here⟩, kv, Sum.inr "first", V.here, rfl, fun v _ => k _ _ ⟨_, _, _, rfl, kd.trans (Kd.upd V.here), V.drop⟩, fun _ => k _ _ ⟨kv, _, _, rfl, kd, V.up⟩⟩
    clear st
    -- values["first"] = ..
    refine tSeq_cut (MidF c 2 d nl way cell [n0, n1] H) (fun σ H2 st2 => ?_) (fun k => ?_)
    rotate_left
    · obtain ⟨kv, o4, o5, rfl, kd, V⟩ := st1
      refine ⟨_, rfl, rfl, _, rfl, ite2 (fun _ => ?_) (fun _ => k _ _ ⟨kv, _, _, rfl, kd, V.up⟩)⟩
      obtain ⟨m0, m1⟩ := mod0 cell 4 (by decide)
      obtain ⟨z, hz, hat, _⟩ := atI_strs (zs := f1) m0 m1
      refine ⟨(by show 4 ≤ sizeLine; decide), fun p hp => ⟨_, rfl, _, _, rfl, rfl, (by show (0 : Int) < 4; decide), p, _, _, _, rfl, rfl, SqL.of upd_same, hat, ?_⟩⟩
      have s1 := same_new hp (.lst (f1.map L2.V.str))
      have V1 := V.same s1
      exact ⟨_, rfl, d, _, rfl, DPut.k (k := Sum.inr "first") V1.here (small1000 (by have := V.few; omega)), k _ _ ⟨_, _, _, rfl, kd.trans ((Kd.of s1).trans (Kd.upd V1.here)), V1.putT (.inl rfl) (f_small.1 z hz)⟩⟩
    clear st1
    -- pop("all")
    refine tSeq_cut (MidF c 3 d nl way cell [n0, n1] H) (fun σ H3 st3 => ?_) (fun k => ?_)
    rotate_left
    · obtain ⟨kv, o4, o5, rfl, kd, V⟩ := st2
      refine ⟨_, rfl, rfl, _, rfl, ite2 (fun _ => ?_) (fun _ => k _ _ ⟨kv, _, _, rfl, kd, V.up⟩)⟩
      exact ⟨_, rfl, d, rfl, .inl ⟨kv, .inl V.here⟩, kv, Sum.inr "all", V.here, rfl, fun v _ => k _ _ ⟨_, _, _, rfl, kd.trans (Kd.upd V.here), V.drop⟩, fun _ => k _ _ ⟨kv, _, _, rfl, kd, V.up⟩⟩
    clear st2
    -- values["all"] = ..
    refine tSeq_cut (MidF c 4 d nl way cell [n0, n1] H) (fun σ H4 st4 => ?_) (fun k => ?_)
    rotate_left
    · obtain ⟨kv, o4, o5, rfl, kd, V⟩ := st3
      refine ⟨_, rfl, rfl, _, rfl, ite2 (fun _ => ?_) (fun _ => k _ _ ⟨kv, _, _, rfl, kd, V.up⟩)⟩
      obtain ⟨m0, m1⟩ := mod0 cell 2 (by decide)
      refine ⟨Nat.zero_le _, fun p1 hp1 => ?_⟩
      have s1 := same_new hp1 (.lst [])
      refine ⟨_, rfl, d, rfl, .inl ⟨kv, .inl (s1 _ _ V.here)⟩, Nat.zero_le _, fun p2 hp2 => ?_⟩
      have s2 := s1.trans (same_new hp2 (.lst []))
      have e2 : L2.upd (L2.upd H3 p1 (.lst [])) p2 (.lst []) p2 = some (.lst []) := upd_same
      have e1 : L2.upd (L2.upd H3 p1 (.lst [])) p2 (.lst []) p1 = some (.lst []) := same_new hp2 _ _ _ upd_same
      revert s2 e2 e1
      generalize L2.upd (L2.upd H3 p1 (.lst [])) p2 (.lst []) = G
      intro s2 e2 e1
      have V2 := V.same s2
      refine ⟨valV kv (Sum.inr "all"), .inl ⟨kv, Sum.inr "all", .inl V2.here, rfl, rfl⟩, ?_⟩
      obtain ⟨l, us, eg, hl, h4, hrw⟩ : ∃ l us, (valV kv (Sum.inr "all" : Key)).getD (.ref p2) = .ref l ∧ G l = some (.lst us) ∧ us.length ≤ 4 ∧ Rws (c + 3) [n0, n1] G d us := by
        cases ev : valV kv (Sum.inr "all" : Key) with
        | none => exact ⟨p2, [], rfl, e2, Nat.zero_le _, fun _ hy => by cases hy⟩
        | some u =>
          obtain ⟨l, us, rfl, hl, h4, hrw⟩ := V2.al u ev
          exact ⟨l, us, rfl, hl, h4, hrw⟩
      rw [eg]
      refine ⟨l, 4, us, rfl, rfl, hl, by decide, by decide, (by show us.length * 4 ≤ sizeLine; exact small (by omega)), fun p3 hp3 => ?_⟩
      have s3 := same_new hp3 (.lst (List.replicate ((4 : Int).toNat) us).flatten)
      refine ⟨(by show 2 ≤ sizeLine; decide), fun p4 hp4 => ?_⟩
      have s4 := same_new hp4 (.lst [.ref p1, .ref p3])
      have s34 := s3.trans s4
      have V4 := V2.same s34
      have e3 := s4 _ _ (upd_same (H := G) (a := p3) (o := .lst (List.replicate ((4 : Int).toNat) us).flatten))
      have e14 := s34 _ _ e1
      have e4 : L2.upd (L2.upd G p3 (.lst (List.replicate ((4 : Int).toNat) us).flatten)) p4 (.lst [.ref p1, .ref p3]) p4 = some (.lst [.ref p1, .ref p3]) := upd_same
      revert s4 s34 V4 e3 e14 e4
      generalize L2.upd (L2.upd G p3 (.lst (List.replicate ((4 : Int).toNat) us).flatten)) p4 (.lst [.ref p1, .ref p3]) = G4
      intro s4 s34 V4 e3 e14 e4
      obtain ⟨x, xs, hat, hx, hsub⟩ : ∃ x xs, atI [L2.V.ref p1, .ref p3] (cell % 2) = some (.ref x) ∧ G4 x = some (.lst xs) ∧ ∀ y ∈ xs, y ∈ us := by
        have h2 : cell % 2 = 0 ∨ cell % 2 = 1 := by omega
        rcases h2 with h2 | h2
        · exact ⟨p1, [], by rw [h2]; rfl, e14, fun y hy => by cases hy⟩
        · exact ⟨p3, _, by rw [h2]; rfl, e3, fun y hy => mem_rep hy⟩
      refine ⟨_, rfl, _, _, rfl, rfl, (by show (0 : Int) < 2; decide), p4, _, _, _, rfl, rfl, SqL.of e4, hat, ?_⟩
      refine ⟨_, rfl, x, xs, rfl, SqL.of hx, fun p5 hp5 => ?_⟩
      have s5 := same_new hp5 (.lst (cutV xs none (some 4)))
      have V5 := V4.same s5
      obtain ⟨k1, k2⟩ := cut4 xs
      refine ⟨_, rfl, d, _, rfl, DPut.k (k := Sum.inr "all") V5.here (small1000 (by have := V.few; omega)), k _ _ ⟨_, _, _, rfl, kd.trans ((Kd.of (s2.trans (s34.trans s5))).trans (Kd.upd V5.here)), V5.putA upd_same k1 fun y hy => ?_⟩⟩
      exact (hrw.same (s34.trans s5)) y (hsub y (k2 y hy))
    clear st3
    -- a row
    refine tSeq_cut (MidF c 5 d nl way cell [n0, n1] H) (fun σ H5 st5 => ?_) (fun k => ?_)
    rotate_left
    · obtain ⟨kv, o4, o5, rfl, kd, V⟩ := st4
      have no : MidF c 5 d nl way cell [n0, n1] H [some (.ref d), some (.int way), some (.int cell), some (.ref nl), o4, o5] H4 := ⟨kv, _, _, rfl, kd, V.up⟩
      refine ⟨_, rfl, _, _, rfl, rfl, _, rfl, ite2 (fun c1 => ?_) (fun _ => iteF (k _ _ no))⟩
      refine ⟨_, rfl, _, _, rfl, rfl, _, rfl, ite2 (fun c2 => ?_) (fun _ => iteF (k _ _ no))⟩
      cases ev : valV kv (Sum.inr "all" : Key) with
      | none => exact ⟨_, rfl, d, none, rfl, .inl ⟨kv, Sum.inr "all", .inl V.here, rfl, ev.symm⟩, _, rfl, iteF (iteF (k _ _ no))⟩
      | some u =>
        obtain ⟨l, us, rfl, hl, h4, hrw⟩ := V.al u ev
        have dg : DGet H4 d (.str "all") (some (.ref l)) := .inl ⟨kv, Sum.inr "all", .inl V.here, rfl, ev.symm⟩
        refine ⟨_, rfl, d, _, rfl, dg, _, rfl, iteT ⟨_, rfl, d, _, rfl, dg, l, us, rfl, .inl (SqL.of hl), _, _, rfl, rfl, _, rfl, ite2 (fun c3 => ?_) (fun _ => k _ _ no)⟩⟩
        have c3 : (0 : Int) < (us.length : Int) := of_decide_eq_true c3
        have m := mod0 cell us.length c3
        obtain ⟨x, hx, hat, _⟩ := atI_in (xs := us) m.1 m.2
        obtain ⟨a, rk, rfl, nad, ha, hrk⟩ := hrw x hx
        refine ⟨_, rfl, d, _, rfl, dg, _, rfl, _, rfl, d, _, rfl, dg, l, us, rfl, .inl (SqL.of hl), _, _, rfl, rfl, c3, l, us, _, _, rfl, rfl, SqL.of hl, hat, ?_⟩
        have m2 := mod0 way 2 (by decide)
        obtain ⟨nm, hnm, hat2, _⟩ := atI_strs (zs := [n0, n1]) m2.1 m2.2
        have hnl' := kd nl _ hnl (by intro k z; cases z)
        refine ⟨_, rfl, _, rfl, _, _, rfl, rfl, (by show (0 : Int) < 2; decide), nl, _, _, _, rfl, rfl, SqL.of hnl', hat2, ?_⟩
        refine ⟨_, rfl, _, _, rfl, rfl, _, rfl, ite2 (fun _ => ?_) (fun _ => ?_)⟩
        · exact ⟨_, rfl, a, rfl, .inl ⟨rk, .inl ha⟩, _, rfl, rk, Sum.inr nm, ha, rfl, fun v _ => k _ _ ⟨_, _, _, rfl, kd.trans (Kd.upd ha), V.row ha nad fun z => z.drop⟩, fun _ => k _ _ ⟨kv, _, _, rfl, kd, V.up⟩⟩
        · obtain ⟨m0, m1⟩ := mod0 (cell / 3) 3 (by decide)
          obtain ⟨z, hz, hat3, _⟩ := atI_strs (zs := f2) m0 m1
          refine ⟨(by show 3 ≤ sizeLine; decide), fun p hp => ⟨_, rfl, _, _, rfl, rfl, ⟨by decide, by decide⟩, _, _, rfl, rfl, (by show (0 : Int) < 3; decide), p, _, _, _, rfl, rfl, SqL.of upd_same, hat3, ?_⟩⟩
          have s1 := same_new hp (.lst (f2.map L2.V.str))
          have V1 := V.same s1
          exact ⟨_, rfl, _, rfl, a, _, rfl, DPut.k (k := Sum.inr nm) (s1 _ _ ha) (small1000 (by have := hrk.few; omega)), k _ _ ⟨_, _, _, rfl, kd.trans ((Kd.of s1).trans (Kd.upd (s1 _ _ ha))), V1.row (s1 _ _ ha) nad fun y => y.put (f_small.2.1 z hz)⟩⟩
    clear st4
    -- pop("last")
    refine tSeq_cut (MidF c 6 d nl way cell [n0, n1] H) (fun σ H6 st6 => ?_) (fun k => ?_)
    rotate_left
    · obtain ⟨kv, o4, o5, rfl, kd, V⟩ := st5
      have no : MidF c 6 d nl way cell [n0, n1] H [some (.ref d), some (.int way), some (.int cell), some (.ref nl), o4, o5] H5 := ⟨kv, _, _, rfl, kd, V.up⟩
      refine ⟨_, rfl, rfl, _, rfl, ite2 (fun _ => ?_) (fun _ => iteF (k _ _ no))⟩
      refine ⟨_, rfl, _, _, rfl, rfl, (by show (0 : Int) < 2; decide), rfl, _, rfl, ite2 (fun _ => ?_) (fun _ => k _ _ no)⟩
      exact ⟨_, rfl, d, rfl, .inl ⟨kv, .inl V.here⟩, kv, Sum.inr "last", V.here, rfl, fun v _ => k _ _ ⟨_, _, _, rfl, kd.trans (Kd.upd V.here), V.drop⟩, fun _ => k _ _ ⟨kv, _, _, rfl, kd, V.up⟩⟩
    clear st5
    -- values["last"] = ..
    obtain ⟨kv, o4, o5, rfl, kd, V⟩ := st6
    refine ⟨_, rfl, rfl, _, rfl, ite2 (fun _ => ?_) (fun _ => iteF (q kv H6 kd V.up))⟩
    refine ⟨_, rfl, _, _, rfl, rfl, (by show (0 : Int) < 2; decide), rfl, _, rfl, ite2 (fun _ => ?_) (fun _ => q kv H6 kd V.up)⟩
    obtain ⟨m0, m1⟩ := mod0 (cell / 2) 3 (by decide)
    obtain ⟨z, hz, hat, _⟩ := atI_strs (zs := f3) m0 m1
    refine ⟨(by show 3 ≤ sizeLine; decide), fun p hp => ⟨_, rfl, _, _, rfl, rfl, ⟨by decide, by decide⟩, _, _, rfl, rfl, (by show (0 : Int) < 3; decide), p, _, _, _, rfl, rfl, SqL.of upd_same, hat, ?_⟩⟩
    have s1 := same_new hp (.lst (f3.map L2.V.str))
    have V1 := V.same s1
    exact ⟨_, rfl, d, _, rfl, DPut.k (k := Sum.inr "last") V1.here (small1000 (by have := V.few; omega)), q _ _ (kd.trans ((Kd.of s1).trans (Kd.upd V1.here))) (V1.putT (.inr rfl) (f_small.2.2 z hz))⟩
end
end Lf

set_option Elab.async false
set_option linter.all false
set_option maxRecDepth 100000
set_option maxHeartbeats 2000000
namespace Lf
open PySem L2
theorem lk1 {f : Str} {v : V} : List.lookup f [(f, v)] = some v := by simp [List.lookup]
theorem gn {i : Nat} {v : V} {σ : St} {H : Hp} {Q : St → Hp → Prop} (h : Q (σ.set i (some v)) H) : gName i v σ H Q := h
theorem nxi {a : St → Hp → Prop} {rt : VK} {bk ct : St → Hp → Prop} {σ : St} {H : Hp} (h : a σ H) : Ends.nx ⟨a, rt, bk, ct⟩ σ H := h
theorem into {M : St → Hp → Prop} {σ : St} {H : Hp} (Mid : St → Hp → Prop) (m : Mid σ H) (h : ∀ σ H, Mid σ H → M σ H) : M σ H := h σ H m
/-! ### forms that are right, by a look -/
def sgb (z : Str) (lo hi : Nat) : Bool := decide (lo ≤ z.length) && decide (z.length ≤ hi) && z.cps.toList.all (fun c => decide (c ∈ SIGNS.cps.toList))
theorem sgb_iff {z : Str} {lo hi : Nat} : sgb z lo hi = true ↔ SignsOk z lo hi := by
  unfold sgb
  simp only [Bool.and_eq_true, decide_eq_true_eq, List.all_eq_true]
  exact ⟨fun h => ⟨h.1.1, h.1.2, h.2⟩, fun h => ⟨⟨h.lo, h.hi⟩, h.all⟩⟩
def Pc.okb : Pc → Bool
  | .say t => sgb t 1 12
  | .ask n sg lo hi => decide (n ≠ "") && sgb sg 1 20 && decide ((sgn sg).Nodup) && decide (0 ≤ lo) && decide (lo ≤ hi) && decide (hi ≤ 4)
theorem Pc.okb_iff : ∀ {p : Pc}, p.okb = true ↔ p.ok
  | .say t => sgb_iff
  | .ask n sg lo hi => by
    unfold Pc.okb Pc.ok
    simp only [Bool.and_eq_true, decide_eq_true_eq, sgb_iff]
    exact ⟨fun h => ⟨h.1.1.1.1.1, h.1.1.1.1.2, h.1.1.1.2, h.1.1.2, h.1.2, h.2⟩, fun h => ⟨⟨⟨⟨⟨h.1, h.2.1⟩, h.2.2.1⟩, h.2.2.2.1⟩, h.2.2.2.2.1⟩, h.2.2.2.2.2⟩⟩
def inb (ps : List Pc) : Bool := decide (1 ≤ ps.length) && decide (ps.length ≤ 3) && ps.all Pc.okb && decide ((ps.flatMap Pc.nm).Nodup)
def Pie.okb : Pie → Bool
  | .one p => p.okb
  | .rows n inner gap lo hi => decide (n ≠ "") && inb inner && sgb gap 0 5 && decide (0 ≤ lo) && decide (lo ≤ hi) && decide (hi ≤ 3)
theorem Pie.okb_ok : ∀ {p : Pie}, p.okb = true → p.ok
  | .one p, h => Pc.okb_iff.mp h
  | .rows n inner gap lo hi, h => by
    unfold Pie.okb inb at h
    simp only [Bool.and_eq_true, decide_eq_true_eq, List.all_eq_true] at h
    exact ⟨h.1.1.1.1.1, ⟨h.1.1.1.1.2.1.1.1, h.1.1.1.1.2.1.1.2, fun p hp => Pc.okb_iff.mp (h.1.1.1.1.2.1.2 p hp), h.1.1.1.1.2.2⟩, sgb_iff.mp h.1.1.1.2, h.1.1.2, h.1.2, h.2⟩
def formb (ps : List Pie) : Bool := decide (1 ≤ ps.length) && decide (ps.length ≤ 6) && ps.all Pie.okb && decide ((ps.flatMap Pie.nm).Nodup)
theorem formb_ok {ps : List Pie} (h : formb ps = true) : FormOk ps := by
  unfold formb at h
  simp only [Bool.and_eq_true, decide_eq_true_eq, List.all_eq_true] at h
  exact ⟨h.1.1.1, h.1.1.2, fun p hp => Pie.okb_ok (h.1.2 p hp), h.2⟩
def ps4 (n0 n1 : Str) (lo : Int) : List Pie := [.one (.ask "first" "abc" 1 3), .rows "all" [.ask n0 "bc" 0 2, .ask n1 "01" 1 3] "-" lo 3, .one (.ask "last" "xy" 0 2)]
def nms4 : List (Str × Str) := [("who", "day"), ("first", "last"), ("last", "who")]
theorem ps4_ok {n0 n1 : Str} {lo : Int} (h : (n0, n1) ∈ nms4) (hl : lo = 0 ∨ lo = 1) : FormOk (ps4 n0 n1 lo) := by
  have k : nms4.all (fun p => formb (ps4 p.1 p.2 0) && formb (ps4 p.1 p.2 1)) = true := by decide +kernel
  have := List.all_eq_true.mp k _ h
  rw [Bool.and_eq_true] at this
  rcases hl with rfl | rfl
  · exact formb_ok this.1
  · exact formb_ok this.2
theorem ps4_ns {n0 n1 : Str} {lo : Int} : ∀ p ∈ ps4 n0 n1 lo, NoSay p := by
  refine allc trivial (allc ?_ (allc trivial alln))
  exact allc ⟨_, _, _, _, rfl⟩ (allc ⟨_, _, _, _, rfl⟩ alln)
theorem vo_start {H : Hp} {d : Addr} {kvs : List (Key × V)} {n0 n1 : Str} {lo : Int} (hd : H d = some (.dK kvs)) (hD : DatOk H d kvs) (h6 : kvs.length ≤ 6) (hV : ∀ p ∈ ps4 n0 n1 lo, ValF H d kvs p) (hN : ∀ n, valV kvs (Sum.inr n) ≠ none → n ∈ (ps4 n0 n1 lo).flatMap Pie.nm) : Vo 0 [n0, n1] H d kvs := by
  have v1 : ValF H d kvs (.one (.ask "first" "abc" 1 3)) := hV _ List.mem_cons_self
  have v2 : ValF H d kvs (.rows "all" [.ask n0 "bc" 0 2, .ask n1 "01" 1 3] "-" lo 3) := hV _ (List.mem_cons_of_mem _ List.mem_cons_self)
  have v3 : ValF H d kvs (.one (.ask "last" "xy" 0 2)) := hV _ (List.mem_cons_of_mem _ (List.mem_cons_of_mem _ List.mem_cons_self))
  refine ⟨hd, hD.nd, h6, fun p hp => ?_, fun n hn u e => ?_, fun u e => ?_⟩
  · obtain ⟨⟨n, en⟩, _⟩ := hD.all p hp
    have hv : valV kvs p.1 = some p.2 := valV_mem hD.nd hp
    rw [en] at hv
    have := hN n (by rw [hv]; exact fun y => nomatch y)
    have : n ∈ (["first", "all", "last"] : List Str) := this
    rw [en]
    rcases List.mem_cons.mp this with z | z
    · rw [z]; exact .inl rfl
    · rcases List.mem_cons.mp z with z | z
      · rw [z]; exact .inr (.inl rfl)
      · rw [List.mem_singleton.mp z]; exact .inr (.inr rfl)
  · rcases hn with rfl | rfl
    · obtain ⟨t, e1, e2⟩ := v1
      rw [e1] at e; cases e
      exact ⟨t, rfl, by have := e2.hi; omega⟩
    · obtain ⟨t, e1, e2⟩ := v3
      rw [e1] at e; cases e
      exact ⟨t, rfl, by have := e2.hi; omega⟩
  · obtain ⟨l, us, e1, e2, e3, e4, e5⟩ := v2
    rw [e1] at e; cases e
    refine ⟨l, us, rfl, e2, by omega, fun x hx => ?_⟩
    obtain ⟨a, rk, z1, z2, z3, z4⟩ := e5 x hx
    refine ⟨a, rk, z1, z2, z3, ⟨z4.ok.txt, z4.ok.nd⟩, ?_, fun n hn t et => ?_⟩
    · rcases z4.few with y | y <;> omega
    · have er := rowOf_of et
      rcases List.mem_cons.mp hn with y | y
      · subst y
        obtain ⟨t', f1, f2⟩ := z4.fit _ List.mem_cons_self
        rw [er] at f1; cases f1
        have := f2.hi; omega
      · have y := List.mem_singleton.mp y
        subst y
        obtain ⟨t', f1, f2⟩ := z4.fit _ (List.mem_cons_of_mem _ List.mem_cons_self)
        rw [er] at f1; cases f1
        have := f2.hi; omega
section
variable {c : Nat} {H : Hp} {d : Addr} {kvs : List (Key × V)} {n0 n1 : Str} {lo : Int}
theorem Vo.dat (h : Vo c [n0, n1] H d kvs) : DatC H d kvs := by
  refine ⟨fun p hp => ?_, h.nd⟩
  have hv : valV kvs p.1 = some p.2 := valV_mem h.nd hp
  rcases h.keys p hp with z | z | z
  · rw [z] at hv
    obtain ⟨t, e, _⟩ := h.tx "first" (.inl rfl) _ hv
    exact ⟨⟨_, z⟩, .inl ⟨t, e⟩⟩
  · rw [z] at hv
    obtain ⟨l, us, h1, h2, h3, h4⟩ := h.al _ hv
    refine ⟨⟨_, z⟩, .inr ⟨l, us, h1, h2, by omega, fun x hx => ?_⟩⟩
    obtain ⟨a, rk, y1, y2, y3, y4⟩ := h4 x hx
    exact ⟨a, rk, y1, y2, y3, y4.t⟩
  · rw [z] at hv
    obtain ⟨t, e, _⟩ := h.tx "last" (.inr rfl) _ hv
    exact ⟨⟨_, z⟩, .inl ⟨t, e⟩⟩
theorem Vo.ty (h : Vo c [n0, n1] H d kvs) : ∀ p ∈ ps4 n0 n1 lo, TPie (FOf H kvs) p := by
  have tx : ∀ n : Str, n = ("first" : Str) ∨ n = ("last" : Str) → ∀ x, FOf H kvs n = some x → ∃ t, x = .text t ∧ t.length ≤ 1000 := fun n hn x e => by
    cases z : valV kvs (Sum.inr n : Key) with
    | none => rw [FOf_none z] at e; cases e
    | some u =>
      obtain ⟨t, rfl, ht⟩ := h.tx n hn u z
      rw [FOf_of z] at e
      cases e
      exact ⟨t, rfl, ht⟩
  refine allc (tx _ (.inl rfl)) (allc ?_ (allc (tx _ (.inr rfl)) alln))
  intro x e
  cases z : valV kvs (Sum.inr "all" : Key) with
  | none => rw [FOf_none z] at e; cases e
  | some u =>
    obtain ⟨l, us, rfl, h2, h3, h4⟩ := h.al u z
    rw [FOf_of z, valO_of h2] at e
    cases e
    refine ⟨_, rfl, by rw [List.length_map]; omega, fun f hf => ?_⟩
    obtain ⟨y, hy, ef⟩ := List.mem_map.mp hf
    obtain ⟨a, rk, y1, y2, y3, y4⟩ := h4 y hy
    subst y1
    rw [rowV_of y3] at ef
    subst ef
    exact allc (fun t et => y4.sm n0 List.mem_cons_self t (rowOf_some et)) (allc (fun t et => y4.sm n1 (List.mem_cons_of_mem _ List.mem_cons_self) t (rowOf_some et)) alln)
end
theorem RowEx.at {H : Hp} {f : Row} {v : V} (h : RowEx H f v) : RowAt H f v := by
  obtain ⟨a, kvs, h1, h2, h3⟩ := h
  exact ⟨a, kvs, h1, h2, fun n t e => by rw [h3 n, e]; rfl⟩
theorem ValEx.at {H : Hp} : ∀ {x : Val} {v : V}, ValEx H x v → ValAt H x v
  | .text _, _, h => h
  | .rows _, _, ⟨l, vs, h1, h2, h3⟩ => ⟨l, vs, h1, h2, Paired.mapP h3 fun _ _ z => z.at⟩
section
variable {P : Program} {w : World} {K : PySem.W.Frag} {mg : Str → Option Value} {base : Heap} {D : Adr}
theorem scLaw : FnScope ["script", "names", "inner", "rows", "pieces", "values", "k", "handed", "due", "form", "found"] ["script"] (defScope sLaw) := ⟨rfl, rfl, rfl, by decide +kernel, rfl, by decide +kernel, by decide +kernel⟩
def spLaw (K : PySem.W.Frag) : Sp := fun vs H Q _ => ∃ (a : Addr) (ns : List Int), vs = [.ref a] ∧ Scr K H a ns ∧ ∀ H', Q (.bl true) H'
def MidN (a : Addr) (H : Hp) (σ : St) (H' : Hp) : Prop := ∃ nl n0 n1, σ = [some (.ref a), some (.ref nl), none, none, none, none, none, none, none, none, none] ∧ Same H H' ∧ H' nl = some (.lst [.str n0, .str n1]) ∧ (n0, n1) ∈ nms4
def MidP (a : Addr) (H : Hp) (σ : St) (H' : Hp) : Prop := ∃ nl n0 n1 li tr l us lo, σ = [some (.ref a), some (.ref nl), some (.ref li), some (.ref tr), some (.ref l), none, none, none, none, none, none] ∧ Same H H' ∧ H' nl = some (.lst [.str n0, .str n1]) ∧ (n0, n1) ∈ nms4 ∧ (lo = 0 ∨ lo = 1) ∧ H' l = some (.lst us) ∧ Paired (Pie.At H') (ps4 n0 n1 lo) us
theorem ok_law (T : Txt w K mg D) : FnOk P w K mg base CX0 13 D.aLaw D.dLaw ["script"] (spLaw K) := by
  have GV : FnOk P w K mg base CX0 5 D.aLawValues D.dLawValues ["script", "start", "pieces"] (spValues K) := ok_values T
  have GD : FnOk P w K mg base CX0 2 D.aLawDraw D.dLawDraw ["script", "k"] (spDraw K) := ok_draw T
  have GC : FnOk P w K mg base CX0 1 D.aLawCopy D.dLawCopy ["values"] spCopyL := ok_copyL T
  have GF : FnOk P w K mg base CX0 11 D.aFormI D.dFormI ["self", "pieces"] (spFormI D) := ok_formI T
  have GW : FnOk P w K mg base CX0 2 D.aLawWritten D.dLawWritten ["pieces", "values"] spWritten := ok_written T
  have GX : FnOk P w K mg base CX0 1 D.aLawFault D.dLawFault ["values", "way", "cell", "names"] spFault := ok_fault T
  have G1 : FnOk P w K mg base CX0 2 D.aLawFirst D.dLawFirst ["pieces", "values"] spFirst := ok_first T
  have GT : FnOk P w K mg base CX0 11 D.aLawTried D.dLawTried ["form", "values"] (spTried D) := ok_tried T
  have GA : FnOk P w K mg base CX0 1 D.aLawAlone D.dLawAlone ["e"] (spAlone D) := ok_alone T
  refine T.fLaw.ok scLaw (fun vs H Q E h => ?_) (fun cdv A outer s H vs Q E hr h => ?_)
  · obtain ⟨a, ns, rfl, _⟩ := h; rfl
  · obtain ⟨a, ns, rfl, hS, q⟩ := h
    have hu := hu_of hr
    have hr1 : Room 1 _ := hr.mono (by decide)
    have hr2 : Room 2 _ := hr.mono (by decide)
    have hr5 : Room 5 _ := hr.mono (by decide)
    have hr11 : Room 11 _ := hr.mono (by decide)
    refine ⟨_, pss_cons (ps_set (i := 1) scLaw.nd rfl (Or.inl rfl) (pe_ix ix_list (pe_lst (pa_cons (pe_strs ["who", "day"] rfl) (pa_cons (pe_strs ["first", "last"] rfl) (pa_cons (pe_strs ["last", "who"] rfl) pa_nil)))) (pe_op op_mod (pe_call GD hr2 rfl T.mLawDraw T.fLawDraw.kp T.bLawDraw .nil pass0 (pa_cons (pv 0) (pa_cons pe_int pa_nil))) pe_int) (fun _ _ => rfl)))
      (pss_cons (ps_set (i := 2) scLaw.nd rfl (Or.inl rfl) (pe_lst (pa_cons (pe_tup (pa_cons pe_str (pa_cons (pe_ix ix_list (pv 1) pe_int (fun _ _ => rfl)) (pa_cons pe_str (pa_cons pe_int (pa_cons pe_int pa_nil)))))) (pa_cons (pe_tup (pa_cons pe_str (pa_cons (pe_ix ix_list (pv 1) pe_int (fun _ _ => rfl)) (pa_cons pe_str (pa_cons pe_int (pa_cons pe_int pa_nil)))))) pa_nil))))
      (pss_cons (ps_set (i := 3) scLaw.nd rfl (Or.inl rfl) (pe_tup (pa_cons pe_str (pa_cons pe_str (pa_cons (pv 2) (pa_cons pe_str (pa_cons (pe_op op_mod (pe_call GD hr2 rfl T.mLawDraw T.fLawDraw.kp T.bLawDraw .nil pass0 (pa_cons (pv 0) (pa_cons pe_int pa_nil))) pe_int) (pa_cons pe_int pa_nil))))))))
      (pss_cons (ps_set (i := 4) scLaw.nd rfl (Or.inl rfl) (pe_lst (pa_cons (pe_tup (pa_cons pe_str (pa_cons pe_str (pa_cons pe_str (pa_cons pe_int (pa_cons pe_int pa_nil)))))) (pa_cons (pv 3) (pa_cons (pe_tup (pa_cons pe_str (pa_cons pe_str (pa_cons pe_str (pa_cons pe_int (pa_cons pe_int pa_nil)))))) pa_nil)))))
      (pss_cons (ps_set (i := 5) scLaw.nd rfl (Or.inl rfl) (pe_call GV hr5 rfl T.mLawValues T.fLawValues.kp T.bLawValues .nil pass0 (pa_cons (pv 0) (pa_cons pe_int (pa_cons (pv 4) pa_nil)))))
      (pss_cons (ps_for PassesOwn.never rfl (pi_range1 rfl T.zRange (pa_cons (pe_op op_mod (pe_call GD hr2 rfl T.mLawDraw T.fLawDraw.kp T.bLawDraw .nil pass0 (pa_cons (pv 0) (pa_cons pe_int pa_nil))) pe_int) pa_nil)) (pg_name (i := 6) scLaw.nd rfl (Or.inl rfl))
        (pss_one (ps_expr (pe_call GX hr1 rfl T.mLawFault T.fLawFault.kp T.bLawFault .nil pass0 (pa_cons (pv 5) (pa_cons (pe_op op_mod (pe_call GD hr2 rfl T.mLawDraw T.fLawDraw.kp T.bLawDraw .nil pass0 (pa_cons (pv 0) (pa_cons (pe_op op_add pe_int (pv 6)) pa_nil))) pe_int) (pa_cons (pe_call GD hr2 rfl T.mLawDraw T.fLawDraw.kp T.bLawDraw .nil pass0 (pa_cons (pv 0) (pa_cons (pe_op op_add pe_int (pv 6)) pa_nil))) (pa_cons (pv 1) pa_nil))))))))
      (pss_cons (ps_set (i := 7) scLaw.nd rfl (Or.inl rfl) (pe_call GC hr1 rfl T.mLawCopy T.fLawCopy.kp T.bLawCopy .nil pass0 (pa_cons (pv 5) pa_nil)))
      (pss_cons (ps_set (i := 8) scLaw.nd rfl (Or.inl rfl) (pe_call G1 hr2 rfl T.mLawFirst T.fLawFirst.kp T.bLawFirst .nil pass0 (pa_cons (pv 4) (pa_cons (pv 5) pa_nil))))
      (pss_cons (ps_set (i := 9) scLaw.nd rfl (Or.inl rfl) (pe_make T.mkForm GF hr rfl T.mgForm T.bFormI .nil pass0 (pa_cons (pv 4) pa_nil)))
      (pss_cons (ps_for PassesOwn.never rfl (pi_range1 rfl T.zRange (pa_cons pe_int pa_nil)) (pg_name (i := 6) scLaw.nd rfl (Or.inl rfl))
        (pss_cons (ps_set (i := 10) scLaw.nd rfl (Or.inl rfl) (pe_call GT hr11 rfl T.mLawTried T.fLawTried.kp T.bLawTried .nil pass0 (pa_cons (pv 9) (pa_cons (pv 7) pa_nil))))
        (pss_cons (ps_if (pt_cmpR op_neSame (pv 7) (pv 5) (nomark _)) pss_never pss_nil)
        (pss_cons (ps_if (PW.pt (pw_and (pt_cmpR op_isN (pv 8) pe_non (nomark _)) (pw_and1 (pt_cmpR op_ne (pv 10) (pe_call GW hr2 rfl T.mLawWritten T.fLawWritten.kp T.bLawWritten .nil pass0 (pa_cons (pv 4) (pa_cons (pv 5) pa_nil))) (nomark _))))) pss_never pss_nil)
        (pss_one (ps_if (PW.pt (pw_and (pt_cmpR op_notN (pv 8) pe_non (nomark _)) (pw_and1 (PW.pt (pw_or (pt_cmpR op_ne (pe_call GA hr1 rfl T.mLawAlone T.fLawAlone.kp T.bLawAlone .nil pass0 (pa_cons (pv 10) pa_nil)) pe_int (nomark _)) (pw_or1 (pt_cmpR op_ne (pe_fldX (pv 10) rfl) (pv 8) (nomark _)))))))) pss_never pss_nil))))))
      (pss_one (ps_ret pe_bl))))))))))), ?_⟩
    -- names
    refine tSeq_cut (MidN a H) (fun σ H1 st => ?_) (fun k => ?_)
    rotate_left
    · refine ⟨(by show 2 ≤ sizeLine; decide), fun p1 h1 => ⟨(by show 2 ≤ sizeLine; decide), fun p2 h2 => ⟨(by show 2 ≤ sizeLine; decide), fun p3 h3 => ⟨(by show 3 ≤ sizeLine; decide), fun p4 h4 => ?_⟩⟩⟩⟩
      have s1 := same_new h1 (.lst ((["who", "day"] : List Str).map V.str))
      have s2 := same_new h2 (.lst ((["first", "last"] : List Str).map V.str))
      have s3 := same_new h3 (.lst ((["last", "who"] : List Str).map V.str))
      have s4 := same_new h4 (.lst [.ref p1, .ref p2, .ref p3])
      have sA := s1.trans (s2.trans (s3.trans s4))
      refine ⟨_, rfl, a, ns, 8, rfl, hS.mono sA, by decide, by decide, _, _, rfl, rfl, (by show (0 : Int) < 3; decide), ?_⟩
      generalize drawOf ns 8 = c
      have h3' : c % 3 = 0 ∨ c % 3 = 1 ∨ c % 3 = 2 := by omega
      rcases h3' with e | e | e
      · exact ⟨p4, _, _, .ref p1, rfl, rfl, SqL.of upd_same, (by rw [e]; rfl), k _ _ ⟨p1, "who", "day", rfl, sA, (s2.trans (s3.trans s4)) _ _ upd_same, List.mem_cons_self⟩⟩
      · exact ⟨p4, _, _, .ref p2, rfl, rfl, SqL.of upd_same, (by rw [e]; rfl), k _ _ ⟨p2, "first", "last", rfl, sA, (s3.trans s4) _ _ upd_same, List.mem_cons_of_mem _ List.mem_cons_self⟩⟩
      · exact ⟨p4, _, _, .ref p3, rfl, rfl, SqL.of upd_same, (by rw [e]; rfl), k _ _ ⟨p3, "last", "who", rfl, sA, s4 _ _ upd_same, List.mem_cons_of_mem _ (List.mem_cons_of_mem _ List.mem_cons_self)⟩⟩
    obtain ⟨nl, n0, n1, rfl, sN, hnl, hnm⟩ := st
    -- inner, rows, pieces
    refine ⟨_, rfl, nl, _, _, _, rfl, rfl, SqL.of hnl, rfl, (by show 5 ≤ sizeLine; decide), fun t1 h1 => ?_⟩
    have s1 := same_new h1 (.tup [.str "ask", .str n0, .str "bc", .int 0, .int 2])
    refine ⟨_, rfl, nl, _, _, _, rfl, rfl, SqL.of (s1 _ _ hnl), rfl, (by show 5 ≤ sizeLine; decide), fun t2 h2 => ⟨(by show 2 ≤ sizeLine; decide), fun li h3 => ?_⟩⟩
    have s2 := same_new h2 (.tup [.str "ask", .str n1, .str "01", .int 1, .int 3])
    have s3 := same_new h3 (.lst [.ref t1, .ref t2])
    have s13 := s1.trans (s2.trans s3)
    refine ⟨_, rfl, _, rfl, a, ns, 9, rfl, (hS.mono sN).mono s13, by decide, by decide, _, _, rfl, rfl, (by show (0 : Int) < 2; decide), (by show 6 ≤ sizeLine; decide), fun tr h4 => ?_⟩
    have hlo : drawOf ns 9 % 2 = 0 ∨ drawOf ns 9 % 2 = 1 := by omega
    have s4 := same_new h4 (.tup [.str "rows", .str "all", .ref li, .str "-", .int (drawOf ns 9 % 2), .int 3])
    refine ⟨(by show 5 ≤ sizeLine; decide), fun t5 h5 => ⟨_, rfl, (by show 5 ≤ sizeLine; decide), fun t6 h6 => ⟨(by show 3 ≤ sizeLine; decide), fun l h7 => ?_⟩⟩⟩
    have s5 := same_new h5 (.tup [.str "ask", .str "first", .str "abc", .int 1, .int 3])
    have s6 := same_new h6 (.tup [.str "ask", .str "last", .str "xy", .int 0, .int 2])
    have s7 := same_new h7 (.lst [.ref t5, .ref tr, .ref t6])
    have m0 : MidP a H [some (.ref a), some (.ref nl), some (.ref li), some (.ref tr), some (.ref l), none, none, none, none, none, none] _ := ⟨nl, n0, n1, li, tr, l, [.ref t5, .ref tr, .ref t6], drawOf ns 9 % 2, rfl, sN.trans (s13.trans (s4.trans (s5.trans (s6.trans s7)))), (s13.trans (s4.trans (s5.trans (s6.trans s7)))) _ _ hnl, hnm, hlo, upd_same,
      .cons ⟨t5, rfl, (s6.trans s7) _ _ upd_same⟩ (.cons ⟨tr, li, [.ref t1, .ref t2], rfl, (s5.trans (s6.trans s7)) _ _ upd_same, (s4.trans (s5.trans (s6.trans s7))) _ _ upd_same, .cons ⟨t1, rfl, (s2.trans (s3.trans (s4.trans (s5.trans (s6.trans s7))))) _ _ upd_same⟩ (.cons ⟨t2, rfl, (s3.trans (s4.trans (s5.trans (s6.trans s7)))) _ _ upd_same⟩ .nil)⟩ (.cons ⟨t6, rfl, s7 _ _ upd_same⟩ .nil))⟩
    refine gn (nxi ?_)
    refine into (MidP a H) m0 (fun σ H2 st => ?_)
    clear m0 s7 s6 s5 h7 h6 h5 s4 h4 hlo s13 s3 s2 s1 h3 h2 h1 hnm hnl sN
    obtain ⟨nl, n0, n1, li, tr, l, us, lo, rfl, sP, hnl, hnm, hlo, hl, hp⟩ := st
    have ok := ps4_ok hnm hlo
    have hS2 := hS.mono sP
    refine ⟨_, rfl, _, rfl, a, l, ns, 300, us, ps4 n0 n1 lo, rfl, hS2, by decide, by decide, hl, hp, ok, fun d kvs H3 e3 nd hd hD h6 hV hN => ?_⟩
    have V0 := vo_start hd hD h6 hV hN
    -- the faults
    refine ⟨_, rfl, a, ns, 1, rfl, hS2.mono e3, by decide, by decide, _, _, rfl, rfl, (by show (0 : Int) < 3; decide), _, rfl, by omega, by omega, ?_⟩
    generalize hm : (drawOf ns 1 % 3).toNat = m
    have hm2 : m ≤ 2 := by omega
    refine for_range (lo := 0) (n := m) (fun i σ H' => ∃ kv o6, σ = [some (.ref a), some (.ref nl), some (.ref li), some (.ref tr), some (.ref l), some (.ref d), o6, none, none, none, none] ∧ Kd H3 H' ∧ Vo (7 * i) [n0, n1] H' d kv) ⟨kvs, none, rfl, Kd.of (Same.refl _), V0⟩ (fun i σ H' hi e => ?_) (fun σ H4 e => ?_)
    · obtain ⟨kv, o6, rfl, kd, V⟩ := e
      have hS4 := kd.scr (hS2.mono e3)
      refine ⟨_, rfl, _, rfl, _, rfl, _, _, rfl, rfl, a, ns, _, rfl, hS4, by omega, by omega, _, _, rfl, rfl, (by show (0 : Int) < 9; decide), _, rfl, _, rfl, _, _, rfl, rfl, a, ns, _, rfl, hS4, by omega, by omega, _, rfl, ?_⟩
      exact ⟨7 * i, d, nl, kv, _, _, n0, n1, rfl, V, by omega, kd nl _ (e3 _ _ hnl) (by intro k z; cases z), fun kv' H5 kd' V' => ⟨kv', _, rfl, kd.trans kd', V'⟩⟩
    obtain ⟨kv, o6, rfl, kd, V⟩ := e
    have hl4 : H4 l = some (.lst us) := kd l _ (e3 _ _ hl) (by intro k z; cases z)
    have hp4 : Paired (Pie.At H4) (ps4 n0 n1 lo) us := Paired.mapP hp fun _ _ z => kd.pie (z.mono e3)
    have hD4 := V.dat
    have hT4 : ∀ p ∈ ps4 n0 n1 lo, TPie (FOf H4 kv) p := V.ty
    refine ⟨_, rfl, d, kv, rfl, V.here, hD4, (by have := V.few; omega), fun mm mk H5 e5 nm hmm hk hc => ?_⟩
    -- due
    refine ⟨_, rfl, _, rfl, l, d, us, ps4 n0 n1 lo, FOf H4 kv, rfl, e5 _ _ hl4, Paired.mapP hp4 fun _ _ z => z.mono e5, ps4_ns, (FOf_ex hD4 (.inl V.here)).mono e5, hT4, fun H6 e6 => ?_⟩
    -- form
    refine ⟨_, rfl, fun f df nf ndf ne => ?_⟩
    have s7 : Same H6 (L2.upd (L2.upd H6 df (.own f)) f (.ins D.cForm df [])) := Same.updN (same_new ndf _) nf _
    have e46 := e5.trans e6
    refine ⟨f, df, l, us, ps4 n0 n1 lo, rfl, upd_same, s7 _ _ (e46 _ _ hl4), Paired.mapP hp4 fun _ _ z => z.mono (e46.trans s7), ok, fun H8 b8 f8 => ⟨rfl, ?_⟩⟩
    have s8 : Same H6 H8 := fun b o z => b8 b o (s7 _ _ z) (ne_of_none z nf)
    have s48 := e46.trans s8
    have s58 := e6.trans s8
    have F5 : FOf H5 kv = FOf H4 kv := FOf_same e5 hD4
    have hX5 : VsEx H5 (FOf H4 kv) (.ref mm) := by
      have := FOf_cpx (hD4.mono e5) (.inl hmm) hk hc
      rw [F5] at this
      exact this
    have hlen : mk.length = kv.length := by have := congrArg List.length hk; rw [List.length_map, List.length_map] at this; exact this
    refine ⟨2, rfl, by decide, by decide, ?_⟩
    refine for_range (lo := 0) (n := 2) (fun i σ H' => ∃ o6 o10, σ = [some (.ref a), some (.ref nl), some (.ref li), some (.ref tr), some (.ref l), some (.ref d), o6, some (.ref mm), some (optV (badForm (ps4 n0 n1 lo) (FOf H4 kv))), some (.ref f), o10] ∧ Same H8 H') ⟨_, none, rfl, Same.refl _⟩ (fun i σ H' hi e => ?_) (fun σ H' e => q _)
    obtain ⟨o6', o10, rfl, s9⟩ := e
    have cpe : ∀ {H9 : Hp}, Same H8 H9 → ∀ k v, (k, v) ∈ mk → ∃ v', valV kv k = some v' ∧ EqD K H9 2 v v' := fun {H9} z => cp_eq (m := mm) hD4.nd hk fun p hp' => by
      obtain ⟨v', z1, z2⟩ := hc p hp'
      exact ⟨v', z1, z2.mv (Mv.same (s58.trans z))⟩
    have hun := Nat.lt_of_le_of_lt (Nat.add_le_add_left (by decide : 3 ≤ 64) _) hr.units
    refine ⟨_, rfl, _, rfl, _, ps4 n0 n1 lo, FOf H4 kv, _, _, rfl, f8.mono s9, ok, hX5.mono (s58.trans s9), hT4, ?_⟩
    cases hb : badForm (ps4 n0 n1 lo) (FOf H4 kv) with
    | none =>
      refine ⟨fun _ H9 e9 => ?_, fun n hn => nomatch hn⟩
      have z := s9.trans e9
      refine ⟨_, rfl, _, rfl, 2, hun, .inr ⟨mm, d, mk, kv, rfl, rfl, .inl ((s58.trans z) _ _ hmm), .inl ((s48.trans z) _ _ V.here), hlen, cpe z⟩, _, rfl, iteF ?_⟩
      refine ⟨_, rfl, rfl, _, rfl, iteD rfl ?_⟩
      refine ⟨_, rfl, _, rfl, _, rfl, l, us, ps4 n0 n1 lo, FOf H4 kv, d, kv, rfl, (s48.trans z) _ _ hl4, Paired.mapP hp4 fun _ _ y => y.mono (s48.trans z), ok, .inl ((s48.trans z) _ _ V.here), ?_, fun p hp' => badPie_fit (findSome_no' hb p hp'), fun H10 e10 => ⟨rfl, _, rfl, iteNS rfl ?_⟩⟩
      · obtain ⟨d', kv', ed, hd', hv', _⟩ := FOf_ex hD4 (.inl V.here)
        intro n x e
        cases ed
        obtain ⟨u, u1, u2⟩ := hv' n x e
        have e2 : kv' = kv := by
          rcases hd' with y | ⟨o, y⟩
          · rw [V.here] at y; cases y; rfl
          · rw [V.here] at y; cases y
        rw [e2] at u1
        exact ⟨u, u1, u2.at.mono (s48.trans z)⟩
      refine ⟨_, rfl, rfl, _, rfl, iteNS rfl (iteF ?_)⟩
      exact ⟨_, _, rfl, z.trans e10⟩
    | some n =>
      refine ⟨(fun hn => nomatch hn), fun n' hn ea ex H9 e9 hea hex => ?_⟩
      cases hn
      have z := s9.trans e9
      refine ⟨_, rfl, _, rfl, 2, hun, .inr ⟨mm, d, mk, kv, rfl, rfl, .inl ((s58.trans z) _ _ hmm), .inl ((s48.trans z) _ _ V.here), hlen, cpe z⟩, _, rfl, iteF ?_⟩
      refine ⟨_, rfl, rfl, _, rfl, iteDF (fun y => (nomatch y)) (iteF ?_)⟩
      refine ⟨_, rfl, rfl, _, rfl, iteN (fun y => nomatch y) ?_⟩
      refine ⟨_, rfl, ea, some ex, rfl, hea, fun H10 e10 => ⟨rfl, _, rfl, iteNS rfl ?_⟩⟩
      refine ⟨_, rfl, ea, D.cBadValue, ex, _, .str n, rfl, e10 _ _ hea, e10 _ _ hex, ⟨T.xcBadValue, T.xiBadValue.xm.hd, T.nBadValueName⟩, lk1, _, rfl, rfl, _, rfl, iteNS rfl ?_⟩
      exact ⟨_, _, rfl, z.trans e10⟩
end
end Lf

set_option Elab.async false
set_option linter.all false
set_option maxRecDepth 100000
set_option maxHeartbeats 4000000
namespace Lf
open PySem L2 PyProof.Rows
theorem all_mk {l : PySem.W.OpenLaw} {w : World} {K : PySem.W.Frag} {h : Heap} {mg : Str → Option Value} {fa : Addr} (X : K.In h) (G : h.Ns mainGlobals mg) (hfa : mg "law" = some (.ref fa))
    {aNamesIn aPartsOf aPartOf aCopyOf aNeed aNeedSigns aNeedBounds aFill aFilledParts aFilledPart aFilledAsk aFilledRows aValueOf aLawCellAt aLawDraw aLawWord aLawRow aLawValues aLawLine aLawWritten aLawCopy aLawAlone aLawFault aLawWordBad aLawFirst aLawTried aLaw aBadValueI aFormI aSayI aAskI aRowsI tdBadValueI cForm cSay cAsk cRows cFormError cBadForm cBadValue cNoReading cTwofold cWords cRow cLen : Addr}
    {odNamesIn anNamesIn odPartsOf anPartsOf odPartOf anPartOf odCopyOf anCopyOf odNeed anNeed odNeedSigns anNeedSigns odNeedBounds anNeedBounds odFill anFill odFilledParts anFilledParts odFilledPart anFilledPart odFilledAsk anFilledAsk odFilledRows anFilledRows odValueOf anValueOf odLawCellAt anLawCellAt odLawDraw anLawDraw odLawWord anLawWord odLawRow anLawRow odLawValues anLawValues odLawLine anLawLine odLawWritten anLawWritten odLawCopy anLawCopy odLawAlone anLawAlone odLawFault anLawFault odLawWordBad anLawWordBad odLawFirst anLawFirst odLawTried anLawTried odLaw anLaw odBadValueI anBadValueI odFormI anFormI odSayI anSayI odAskI anAskI odRowsI anRowsI : Option Addr}
    {slNamesIn slPartsOf slPartOf slCopyOf slNeed slNeedSigns slNeedBounds slFill slFilledParts slFilledPart slFilledAsk slFilledRows slValueOf slLawCellAt slLawDraw slLawWord slLawRow slLawValues slLawLine slLawWritten slLawCopy slLawAlone slLawFault slLawWordBad slLawFirst slLawTried slLaw slBadValueI slFormI slSayI slAskI slRowsI tlBadValueI slW slR : Array (Option Value)}
    {ocNamesIn kvNamesIn dcNamesIn pmNamesIn cdNamesIn ctNamesIn ocPartsOf kvPartsOf dcPartsOf pmPartsOf cdPartsOf ctPartsOf ocPartOf kvPartOf dcPartOf pmPartOf cdPartOf ctPartOf ocCopyOf kvCopyOf dcCopyOf pmCopyOf cdCopyOf ctCopyOf ocNeed kvNeed dcNeed pmNeed cdNeed ctNeed ocNeedSigns kvNeedSigns dcNeedSigns pmNeedSigns cdNeedSigns ctNeedSigns ocNeedBounds kvNeedBounds dcNeedBounds pmNeedBounds cdNeedBounds ctNeedBounds ocFill kvFill dcFill pmFill cdFill ctFill ocFilledParts kvFilledParts dcFilledParts pmFilledParts cdFilledParts ctFilledParts ocFilledPart kvFilledPart dcFilledPart pmFilledPart cdFilledPart ctFilledPart ocFilledAsk kvFilledAsk dcFilledAsk pmFilledAsk cdFilledAsk ctFilledAsk ocFilledRows kvFilledRows dcFilledRows pmFilledRows cdFilledRows ctFilledRows ocValueOf kvValueOf dcValueOf pmValueOf cdValueOf ctValueOf ocLawCellAt kvLawCellAt dcLawCellAt pmLawCellAt cdLawCellAt ctLawCellAt ocLawDraw kvLawDraw dcLawDraw pmLawDraw cdLawDraw ctLawDraw ocLawWord kvLawWord dcLawWord pmLawWord cdLawWord ctLawWord ocLawRow kvLawRow dcLawRow pmLawRow cdLawRow ctLawRow ocLawValues kvLawValues dcLawValues pmLawValues cdLawValues ctLawValues ocLawLine kvLawLine dcLawLine pmLawLine cdLawLine ctLawLine ocLawWritten kvLawWritten dcLawWritten pmLawWritten cdLawWritten ctLawWritten ocLawCopy kvLawCopy dcLawCopy pmLawCopy cdLawCopy ctLawCopy ocLawAlone kvLawAlone dcLawAlone pmLawAlone cdLawAlone ctLawAlone ocLawFault kvLawFault dcLawFault pmLawFault cdLawFault ctLawFault ocLawWordBad kvLawWordBad dcLawWordBad pmLawWordBad cdLawWordBad ctLawWordBad ocLawFirst kvLawFirst dcLawFirst pmLawFirst cdLawFirst ctLawFirst ocLawTried kvLawTried dcLawTried pmLawTried cdLawTried ctLawTried ocLaw kvLaw dcLaw pmLaw cdLaw ctLaw ocBadValueI kvBadValueI dcBadValueI pmBadValueI cdBadValueI ctBadValueI ocFormI kvFormI dcFormI pmFormI cdFormI ctFormI ocSayI kvSayI dcSayI pmSayI cdSayI ctSayI ocAskI kvAskI dcAskI pmAskI cdAskI ctAskI ocRowsI kvRowsI dcRowsI pmRowsI cdRowsI ctRowsI : Value}
    {tS t1 t2 t3 t4 t5 t6 t7 t8 u1 u2 u3 tkBadValueI0 : Tok} {epL : Nat}
    (aCForm : PySem.W.nsIn K mainGlobals "Form" = some (some (.ref cForm)))
    (aCSay : PySem.W.nsIn K mainGlobals "Say" = some (some (.ref cSay)))
    (aCAsk : PySem.W.nsIn K mainGlobals "Ask" = some (some (.ref cAsk)))
    (aCRows : PySem.W.nsIn K mainGlobals "Rows" = some (some (.ref cRows)))
    (aCFormError : PySem.W.nsIn K mainGlobals "FormError" = some (some (.ref cFormError)))
    (aCBadForm : PySem.W.nsIn K mainGlobals "BadForm" = some (some (.ref cBadForm)))
    (aCBadValue : PySem.W.nsIn K mainGlobals "BadValue" = some (some (.ref cBadValue)))
    (aCNoReading : PySem.W.nsIn K mainGlobals "NoReading" = some (some (.ref cNoReading)))
    (aCTwofold : PySem.W.nsIn K mainGlobals "Twofold" = some (some (.ref cTwofold)))
    (nNamesIn : PySem.W.nsIn K mainGlobals "names_in" = some (some (.ref aNamesIn)))
    (lNamesIn : K.lookup aNamesIn = some ⟨ocNamesIn, odNamesIn, .func (PySem.W.fnOf "names_in" "names_in" (defArgs sNamesIn) (defBody sNamesIn) (defScope sNamesIn) .none kvNamesIn dcNamesIn pmNamesIn anNamesIn cdNamesIn ctNamesIn), slNamesIn⟩)
    (cNamesIn : PySem.W.codeIn K cdNamesIn "names_in" = true)
    (kNamesIn : PySem.W.keepIn K (.ref aNamesIn) = true)
    (nPartsOf : PySem.W.nsIn K mainGlobals "parts_of" = some (some (.ref aPartsOf)))
    (lPartsOf : K.lookup aPartsOf = some ⟨ocPartsOf, odPartsOf, .func (PySem.W.fnOf "parts_of" "parts_of" (defArgs sPartsOf) (defBody sPartsOf) (defScope sPartsOf) .none kvPartsOf dcPartsOf pmPartsOf anPartsOf cdPartsOf ctPartsOf), slPartsOf⟩)
    (cPartsOf : PySem.W.codeIn K cdPartsOf "parts_of" = true)
    (kPartsOf : PySem.W.keepIn K (.ref aPartsOf) = true)
    (nPartOf : PySem.W.nsIn K mainGlobals "part_of" = some (some (.ref aPartOf)))
    (lPartOf : K.lookup aPartOf = some ⟨ocPartOf, odPartOf, .func (PySem.W.fnOf "part_of" "part_of" (defArgs sPartOf) (defBody sPartOf) (defScope sPartOf) .none kvPartOf dcPartOf pmPartOf anPartOf cdPartOf ctPartOf), slPartOf⟩)
    (cPartOf : PySem.W.codeIn K cdPartOf "part_of" = true)
    (kPartOf : PySem.W.keepIn K (.ref aPartOf) = true)
    (nCopyOf : PySem.W.nsIn K mainGlobals "copy_of" = some (some (.ref aCopyOf)))
    (lCopyOf : K.lookup aCopyOf = some ⟨ocCopyOf, odCopyOf, .func (PySem.W.fnOf "copy_of" "copy_of" (defArgs sCopyOf) (defBody sCopyOf) (defScope sCopyOf) .none kvCopyOf dcCopyOf pmCopyOf anCopyOf cdCopyOf ctCopyOf), slCopyOf⟩)
    (cCopyOf : PySem.W.codeIn K cdCopyOf "copy_of" = true)
    (kCopyOf : PySem.W.keepIn K (.ref aCopyOf) = true)
    (nNeed : PySem.W.nsIn K mainGlobals "need" = some (some (.ref aNeed)))
    (lNeed : K.lookup aNeed = some ⟨ocNeed, odNeed, .func (PySem.W.fnOf "need" "need" (defArgs sNeed) (defBody sNeed) (defScope sNeed) .none kvNeed dcNeed pmNeed anNeed cdNeed ctNeed), slNeed⟩)
    (cNeed : PySem.W.codeIn K cdNeed "need" = true)
    (kNeed : PySem.W.keepIn K (.ref aNeed) = true)
    (nNeedSigns : PySem.W.nsIn K mainGlobals "need_signs" = some (some (.ref aNeedSigns)))
    (lNeedSigns : K.lookup aNeedSigns = some ⟨ocNeedSigns, odNeedSigns, .func (PySem.W.fnOf "need_signs" "need_signs" (defArgs sNeedSigns) (defBody sNeedSigns) (defScope sNeedSigns) .none kvNeedSigns dcNeedSigns pmNeedSigns anNeedSigns cdNeedSigns ctNeedSigns), slNeedSigns⟩)
    (cNeedSigns : PySem.W.codeIn K cdNeedSigns "need_signs" = true)
    (kNeedSigns : PySem.W.keepIn K (.ref aNeedSigns) = true)
    (nNeedBounds : PySem.W.nsIn K mainGlobals "need_bounds" = some (some (.ref aNeedBounds)))
    (lNeedBounds : K.lookup aNeedBounds = some ⟨ocNeedBounds, odNeedBounds, .func (PySem.W.fnOf "need_bounds" "need_bounds" (defArgs sNeedBounds) (defBody sNeedBounds) (defScope sNeedBounds) .none kvNeedBounds dcNeedBounds pmNeedBounds anNeedBounds cdNeedBounds ctNeedBounds), slNeedBounds⟩)
    (cNeedBounds : PySem.W.codeIn K cdNeedBounds "need_bounds" = true)
    (kNeedBounds : PySem.W.keepIn K (.ref aNeedBounds) = true)
    (nFill : PySem.W.nsIn K mainGlobals "fill" = some (some (.ref aFill)))
    (lFill : K.lookup aFill = some ⟨ocFill, odFill, .func (PySem.W.fnOf "fill" "fill" (defArgs sFill) (defBody sFill) (defScope sFill) .none kvFill dcFill pmFill anFill cdFill ctFill), slFill⟩)
    (cFill : PySem.W.codeIn K cdFill "fill" = true)
    (kFill : PySem.W.keepIn K (.ref aFill) = true)
    (nFilledParts : PySem.W.nsIn K mainGlobals "filled_parts" = some (some (.ref aFilledParts)))
    (lFilledParts : K.lookup aFilledParts = some ⟨ocFilledParts, odFilledParts, .func (PySem.W.fnOf "filled_parts" "filled_parts" (defArgs sFilledParts) (defBody sFilledParts) (defScope sFilledParts) .none kvFilledParts dcFilledParts pmFilledParts anFilledParts cdFilledParts ctFilledParts), slFilledParts⟩)
    (cFilledParts : PySem.W.codeIn K cdFilledParts "filled_parts" = true)
    (kFilledParts : PySem.W.keepIn K (.ref aFilledParts) = true)
    (nFilledPart : PySem.W.nsIn K mainGlobals "filled_part" = some (some (.ref aFilledPart)))
    (lFilledPart : K.lookup aFilledPart = some ⟨ocFilledPart, odFilledPart, .func (PySem.W.fnOf "filled_part" "filled_part" (defArgs sFilledPart) (defBody sFilledPart) (defScope sFilledPart) .none kvFilledPart dcFilledPart pmFilledPart anFilledPart cdFilledPart ctFilledPart), slFilledPart⟩)
    (cFilledPart : PySem.W.codeIn K cdFilledPart "filled_part" = true)
    (kFilledPart : PySem.W.keepIn K (.ref aFilledPart) = true)
    (nFilledAsk : PySem.W.nsIn K mainGlobals "filled_ask" = some (some (.ref aFilledAsk)))
    (lFilledAsk : K.lookup aFilledAsk = some ⟨ocFilledAsk, odFilledAsk, .func (PySem.W.fnOf "filled_ask" "filled_ask" (defArgs sFilledAsk) (defBody sFilledAsk) (defScope sFilledAsk) .none kvFilledAsk dcFilledAsk pmFilledAsk anFilledAsk cdFilledAsk ctFilledAsk), slFilledAsk⟩)
    (cFilledAsk : PySem.W.codeIn K cdFilledAsk "filled_ask" = true)
    (kFilledAsk : PySem.W.keepIn K (.ref aFilledAsk) = true)
    (nFilledRows : PySem.W.nsIn K mainGlobals "filled_rows" = some (some (.ref aFilledRows)))
    (lFilledRows : K.lookup aFilledRows = some ⟨ocFilledRows, odFilledRows, .func (PySem.W.fnOf "filled_rows" "filled_rows" (defArgs sFilledRows) (defBody sFilledRows) (defScope sFilledRows) .none kvFilledRows dcFilledRows pmFilledRows anFilledRows cdFilledRows ctFilledRows), slFilledRows⟩)
    (cFilledRows : PySem.W.codeIn K cdFilledRows "filled_rows" = true)
    (kFilledRows : PySem.W.keepIn K (.ref aFilledRows) = true)
    (nValueOf : PySem.W.nsIn K mainGlobals "value_of" = some (some (.ref aValueOf)))
    (lValueOf : K.lookup aValueOf = some ⟨ocValueOf, odValueOf, .func (PySem.W.fnOf "value_of" "value_of" (defArgs sValueOf) (defBody sValueOf) (defScope sValueOf) .none kvValueOf dcValueOf pmValueOf anValueOf cdValueOf ctValueOf), slValueOf⟩)
    (cValueOf : PySem.W.codeIn K cdValueOf "value_of" = true)
    (kValueOf : PySem.W.keepIn K (.ref aValueOf) = true)
    (nLawCellAt : PySem.W.nsIn K mainGlobals "_law_cell_at" = some (some (.ref aLawCellAt)))
    (lLawCellAt : K.lookup aLawCellAt = some ⟨ocLawCellAt, odLawCellAt, .func (PySem.W.fnOf "_law_cell_at" "_law_cell_at" (defArgs sLawCellAt) (defBody sLawCellAt) (defScope sLawCellAt) .none kvLawCellAt dcLawCellAt pmLawCellAt anLawCellAt cdLawCellAt ctLawCellAt), slLawCellAt⟩)
    (cLawCellAt : PySem.W.codeIn K cdLawCellAt "_law_cell_at" = true)
    (kLawCellAt : PySem.W.keepIn K (.ref aLawCellAt) = true)
    (nLawDraw : PySem.W.nsIn K mainGlobals "_law_draw" = some (some (.ref aLawDraw)))
    (lLawDraw : K.lookup aLawDraw = some ⟨ocLawDraw, odLawDraw, .func (PySem.W.fnOf "_law_draw" "_law_draw" (defArgs sLawDraw) (defBody sLawDraw) (defScope sLawDraw) .none kvLawDraw dcLawDraw pmLawDraw anLawDraw cdLawDraw ctLawDraw), slLawDraw⟩)
    (cLawDraw : PySem.W.codeIn K cdLawDraw "_law_draw" = true)
    (kLawDraw : PySem.W.keepIn K (.ref aLawDraw) = true)
    (nLawWord : PySem.W.nsIn K mainGlobals "_law_word" = some (some (.ref aLawWord)))
    (lLawWord : K.lookup aLawWord = some ⟨ocLawWord, odLawWord, .func (PySem.W.fnOf "_law_word" "_law_word" (defArgs sLawWord) (defBody sLawWord) (defScope sLawWord) .none kvLawWord dcLawWord pmLawWord anLawWord cdLawWord ctLawWord), slLawWord⟩)
    (cLawWord : PySem.W.codeIn K cdLawWord "_law_word" = true)
    (kLawWord : PySem.W.keepIn K (.ref aLawWord) = true)
    (nLawRow : PySem.W.nsIn K mainGlobals "_law_row" = some (some (.ref aLawRow)))
    (lLawRow : K.lookup aLawRow = some ⟨ocLawRow, odLawRow, .func (PySem.W.fnOf "_law_row" "_law_row" (defArgs sLawRow) (defBody sLawRow) (defScope sLawRow) .none kvLawRow dcLawRow pmLawRow anLawRow cdLawRow ctLawRow), slLawRow⟩)
    (cLawRow : PySem.W.codeIn K cdLawRow "_law_row" = true)
    (kLawRow : PySem.W.keepIn K (.ref aLawRow) = true)
    (nLawValues : PySem.W.nsIn K mainGlobals "_law_values" = some (some (.ref aLawValues)))
    (lLawValues : K.lookup aLawValues = some ⟨ocLawValues, odLawValues, .func (PySem.W.fnOf "_law_values" "_law_values" (defArgs sLawValues) (defBody sLawValues) (defScope sLawValues) .none kvLawValues dcLawValues pmLawValues anLawValues cdLawValues ctLawValues), slLawValues⟩)
    (cLawValues : PySem.W.codeIn K cdLawValues "_law_values" = true)
    (kLawValues : PySem.W.keepIn K (.ref aLawValues) = true)
    (nLawLine : PySem.W.nsIn K mainGlobals "_law_line" = some (some (.ref aLawLine)))
    (lLawLine : K.lookup aLawLine = some ⟨ocLawLine, odLawLine, .func (PySem.W.fnOf "_law_line" "_law_line" (defArgs sLawLine) (defBody sLawLine) (defScope sLawLine) .none kvLawLine dcLawLine pmLawLine anLawLine cdLawLine ctLawLine), slLawLine⟩)
    (cLawLine : PySem.W.codeIn K cdLawLine "_law_line" = true)
    (kLawLine : PySem.W.keepIn K (.ref aLawLine) = true)
    (nLawWritten : PySem.W.nsIn K mainGlobals "_law_written" = some (some (.ref aLawWritten)))
    (lLawWritten : K.lookup aLawWritten = some ⟨ocLawWritten, odLawWritten, .func (PySem.W.fnOf "_law_written" "_law_written" (defArgs sLawWritten) (defBody sLawWritten) (defScope sLawWritten) .none kvLawWritten dcLawWritten pmLawWritten anLawWritten cdLawWritten ctLawWritten), slLawWritten⟩)
    (cLawWritten : PySem.W.codeIn K cdLawWritten "_law_written" = true)
    (kLawWritten : PySem.W.keepIn K (.ref aLawWritten) = true)
    (nLawCopy : PySem.W.nsIn K mainGlobals "_law_copy" = some (some (.ref aLawCopy)))
    (lLawCopy : K.lookup aLawCopy = some ⟨ocLawCopy, odLawCopy, .func (PySem.W.fnOf "_law_copy" "_law_copy" (defArgs sLawCopy) (defBody sLawCopy) (defScope sLawCopy) .none kvLawCopy dcLawCopy pmLawCopy anLawCopy cdLawCopy ctLawCopy), slLawCopy⟩)
    (cLawCopy : PySem.W.codeIn K cdLawCopy "_law_copy" = true)
    (kLawCopy : PySem.W.keepIn K (.ref aLawCopy) = true)
    (nLawAlone : PySem.W.nsIn K mainGlobals "_law_alone" = some (some (.ref aLawAlone)))
    (lLawAlone : K.lookup aLawAlone = some ⟨ocLawAlone, odLawAlone, .func (PySem.W.fnOf "_law_alone" "_law_alone" (defArgs sLawAlone) (defBody sLawAlone) (defScope sLawAlone) .none kvLawAlone dcLawAlone pmLawAlone anLawAlone cdLawAlone ctLawAlone), slLawAlone⟩)
    (cLawAlone : PySem.W.codeIn K cdLawAlone "_law_alone" = true)
    (kLawAlone : PySem.W.keepIn K (.ref aLawAlone) = true)
    (nLawFault : PySem.W.nsIn K mainGlobals "_law_fault" = some (some (.ref aLawFault)))
    (lLawFault : K.lookup aLawFault = some ⟨ocLawFault, odLawFault, .func (PySem.W.fnOf "_law_fault" "_law_fault" (defArgs sLawFault) (defBody sLawFault) (defScope sLawFault) .none kvLawFault dcLawFault pmLawFault anLawFault cdLawFault ctLawFault), slLawFault⟩)
    (cLawFault : PySem.W.codeIn K cdLawFault "_law_fault" = true)
    (kLawFault : PySem.W.keepIn K (.ref aLawFault) = true)
    (nLawWordBad : PySem.W.nsIn K mainGlobals "_law_word_bad" = some (some (.ref aLawWordBad)))
    (lLawWordBad : K.lookup aLawWordBad = some ⟨ocLawWordBad, odLawWordBad, .func (PySem.W.fnOf "_law_word_bad" "_law_word_bad" (defArgs sLawWordBad) (defBody sLawWordBad) (defScope sLawWordBad) .none kvLawWordBad dcLawWordBad pmLawWordBad anLawWordBad cdLawWordBad ctLawWordBad), slLawWordBad⟩)
    (cLawWordBad : PySem.W.codeIn K cdLawWordBad "_law_word_bad" = true)
    (kLawWordBad : PySem.W.keepIn K (.ref aLawWordBad) = true)
    (nLawFirst : PySem.W.nsIn K mainGlobals "_law_first" = some (some (.ref aLawFirst)))
    (lLawFirst : K.lookup aLawFirst = some ⟨ocLawFirst, odLawFirst, .func (PySem.W.fnOf "_law_first" "_law_first" (defArgs sLawFirst) (defBody sLawFirst) (defScope sLawFirst) .none kvLawFirst dcLawFirst pmLawFirst anLawFirst cdLawFirst ctLawFirst), slLawFirst⟩)
    (cLawFirst : PySem.W.codeIn K cdLawFirst "_law_first" = true)
    (kLawFirst : PySem.W.keepIn K (.ref aLawFirst) = true)
    (nLawTried : PySem.W.nsIn K mainGlobals "_law_tried" = some (some (.ref aLawTried)))
    (lLawTried : K.lookup aLawTried = some ⟨ocLawTried, odLawTried, .func (PySem.W.fnOf "_law_tried" "_law_tried" (defArgs sLawTried) (defBody sLawTried) (defScope sLawTried) .none kvLawTried dcLawTried pmLawTried anLawTried cdLawTried ctLawTried), slLawTried⟩)
    (cLawTried : PySem.W.codeIn K cdLawTried "_law_tried" = true)
    (kLawTried : PySem.W.keepIn K (.ref aLawTried) = true)
    (nLaw : PySem.W.nsIn K mainGlobals "law" = some (some (.ref aLaw)))
    (lLaw : K.lookup aLaw = some ⟨ocLaw, odLaw, .func (PySem.W.fnOf "law" "law" (defArgs sLaw) (defBody sLaw) (defScope sLaw) .none kvLaw dcLaw pmLaw anLaw cdLaw ctLaw), slLaw⟩)
    (cLaw : PySem.W.codeIn K cdLaw "law" = true)
    (kLaw : PySem.W.keepIn K (.ref aLaw) = true)
    (nBadValueI : PySem.W.findIn K (.ref cBadValue) "__init__" = some (some (.ref aBadValueI)))
    (iBadValueI : PySem.W.isFn K (.ref aBadValueI) = true)
    (lBadValueI : K.lookup aBadValueI = some ⟨ocBadValueI, odBadValueI, .func (PySem.W.fnOf "__init__" "BadValue.__init__" (defArgs sBadValueI) (defBody sBadValueI) (defScope sBadValueI) (.ref tdBadValueI) kvBadValueI dcBadValueI pmBadValueI anBadValueI cdBadValueI ctBadValueI), slBadValueI⟩)
    (td_BadValueI : K.lookup tdBadValueI = some ⟨.type "tuple", none, .seq #[.str "is refused" tkBadValueI0] 0, tlBadValueI⟩)
    (cBadValueI : PySem.W.codeIn K cdBadValueI "BadValue.__init__" = true)
    (kBadValueI : PySem.W.keepIn K (.ref aBadValueI) = true)
    (nFormI : PySem.W.findIn K (.ref cForm) "__init__" = some (some (.ref aFormI)))
    (iFormI : PySem.W.isFn K (.ref aFormI) = true)
    (lFormI : K.lookup aFormI = some ⟨ocFormI, odFormI, .func (PySem.W.fnOf "__init__" "Form.__init__" (defArgs sFormI) (defBody sFormI) (defScope sFormI) .none kvFormI dcFormI pmFormI anFormI cdFormI ctFormI), slFormI⟩)
    (cFormI : PySem.W.codeIn K cdFormI "Form.__init__" = true)
    (kFormI : PySem.W.keepIn K (.ref aFormI) = true)
    (nSayI : PySem.W.findIn K (.ref cSay) "__init__" = some (some (.ref aSayI)))
    (iSayI : PySem.W.isFn K (.ref aSayI) = true)
    (lSayI : K.lookup aSayI = some ⟨ocSayI, odSayI, .func (PySem.W.fnOf "__init__" "Say.__init__" (defArgs sSayI) (defBody sSayI) (defScope sSayI) .none kvSayI dcSayI pmSayI anSayI cdSayI ctSayI), slSayI⟩)
    (cSayI : PySem.W.codeIn K cdSayI "Say.__init__" = true)
    (kSayI : PySem.W.keepIn K (.ref aSayI) = true)
    (nAskI : PySem.W.findIn K (.ref cAsk) "__init__" = some (some (.ref aAskI)))
    (iAskI : PySem.W.isFn K (.ref aAskI) = true)
    (lAskI : K.lookup aAskI = some ⟨ocAskI, odAskI, .func (PySem.W.fnOf "__init__" "Ask.__init__" (defArgs sAskI) (defBody sAskI) (defScope sAskI) .none kvAskI dcAskI pmAskI anAskI cdAskI ctAskI), slAskI⟩)
    (cAskI : PySem.W.codeIn K cdAskI "Ask.__init__" = true)
    (kAskI : PySem.W.keepIn K (.ref aAskI) = true)
    (nRowsI : PySem.W.findIn K (.ref cRows) "__init__" = some (some (.ref aRowsI)))
    (iRowsI : PySem.W.isFn K (.ref aRowsI) = true)
    (lRowsI : K.lookup aRowsI = some ⟨ocRowsI, odRowsI, .func (PySem.W.fnOf "__init__" "Rows.__init__" (defArgs sRowsI) (defBody sRowsI) (defScope sRowsI) .none kvRowsI dcRowsI pmRowsI anRowsI cdRowsI ctRowsI), slRowsI⟩)
    (cRowsI : PySem.W.codeIn K cdRowsI "Rows.__init__" = true)
    (kRowsI : PySem.W.keepIn K (.ref aRowsI) = true)
    (pgForm : PySem.W.plainGet K cForm Str.empty = true)
    (hdForm : PySem.W.hasDictIn K cForm = true)
    (poForm : PySem.W.plainOver K cForm = true)
    (saForm : PySem.W.findIn K (.ref cForm) "__setattr__" = some (some (.builtin "object.__setattr__")))
    (mkForm : PySem.W.makesIn K cForm = true)
    (kcForm : PySem.W.keepIn K (.ref cForm) = true)
    (haForm : PySem.W.findIn K (.ref cForm) "__class__" = some (some (.builtin "object.__class__")))
    (hmForm : PySem.W.mroIn K cForm (.type "object") = some true)
    (fFormPieces : PySem.W.findIn K (.ref cForm) "pieces" = some none)
    (fFormPlan : PySem.W.findIn K (.ref cForm) "plan" = some none)
    (pgSay : PySem.W.plainGet K cSay Str.empty = true)
    (hdSay : PySem.W.hasDictIn K cSay = true)
    (poSay : PySem.W.plainOver K cSay = true)
    (saSay : PySem.W.findIn K (.ref cSay) "__setattr__" = some (some (.builtin "object.__setattr__")))
    (mkSay : PySem.W.makesIn K cSay = true)
    (kcSay : PySem.W.keepIn K (.ref cSay) = true)
    (haSay : PySem.W.findIn K (.ref cSay) "__class__" = some (some (.builtin "object.__class__")))
    (hmSay : PySem.W.mroIn K cSay (.type "object") = some true)
    (fSayText : PySem.W.findIn K (.ref cSay) "text" = some none)
    (pgAsk : PySem.W.plainGet K cAsk Str.empty = true)
    (hdAsk : PySem.W.hasDictIn K cAsk = true)
    (poAsk : PySem.W.plainOver K cAsk = true)
    (saAsk : PySem.W.findIn K (.ref cAsk) "__setattr__" = some (some (.builtin "object.__setattr__")))
    (mkAsk : PySem.W.makesIn K cAsk = true)
    (kcAsk : PySem.W.keepIn K (.ref cAsk) = true)
    (haAsk : PySem.W.findIn K (.ref cAsk) "__class__" = some (some (.builtin "object.__class__")))
    (hmAsk : PySem.W.mroIn K cAsk (.type "object") = some true)
    (fAskLeast : PySem.W.findIn K (.ref cAsk) "least" = some none)
    (fAskMost : PySem.W.findIn K (.ref cAsk) "most" = some none)
    (fAskName : PySem.W.findIn K (.ref cAsk) "name" = some none)
    (fAskSigns : PySem.W.findIn K (.ref cAsk) "signs" = some none)
    (pgRows : PySem.W.plainGet K cRows Str.empty = true)
    (hdRows : PySem.W.hasDictIn K cRows = true)
    (poRows : PySem.W.plainOver K cRows = true)
    (saRows : PySem.W.findIn K (.ref cRows) "__setattr__" = some (some (.builtin "object.__setattr__")))
    (mkRows : PySem.W.makesIn K cRows = true)
    (kcRows : PySem.W.keepIn K (.ref cRows) = true)
    (haRows : PySem.W.findIn K (.ref cRows) "__class__" = some (some (.builtin "object.__class__")))
    (hmRows : PySem.W.mroIn K cRows (.type "object") = some true)
    (fRowsGap : PySem.W.findIn K (.ref cRows) "gap" = some none)
    (fRowsLeast : PySem.W.findIn K (.ref cRows) "least" = some none)
    (fRowsMost : PySem.W.findIn K (.ref cRows) "most" = some none)
    (fRowsName : PySem.W.findIn K (.ref cRows) "name" = some none)
    (fRowsParts : PySem.W.findIn K (.ref cRows) "parts" = some none)
    (hn : PySem.W.specialIn K (.builtin "object.__class__") "__get__" = some (some (.builtin "getset_descriptor.__get__")))
    (ht : PySem.W.takesIn K (.builtin "object.__class__") = some true)
    (isSaySay : PySem.W.kitOne K (.ref cSay) (.ref cSay) = some true)
    (isSayAsk : PySem.W.kitOne K (.ref cSay) (.ref cAsk) = some false)
    (isAskSay : PySem.W.kitOne K (.ref cAsk) (.ref cSay) = some false)
    (isAskAsk : PySem.W.kitOne K (.ref cAsk) (.ref cAsk) = some true)
    (isRowsSay : PySem.W.kitOne K (.ref cRows) (.ref cSay) = some false)
    (isRowsAsk : PySem.W.kitOne K (.ref cRows) (.ref cAsk) = some false)
    (isStrList : PySem.W.kitOne K (.type "str") (.type "list") = some false)
    (isListList : PySem.W.kitOne K (.type "list") (.type "list") = some true)
    (isDictDict : PySem.W.kitOne K (.type "dict") (.type "dict") = some true)
    (gS : PySem.W.nsIn K mainGlobals "SIGNS" = some (some (.str SIGNS tS)))
    (gW : PySem.W.nsIn K mainGlobals "FORM_WORDS" = some (some (.ref cWords)))
    (gR : PySem.W.nsIn K mainGlobals "ROW_WORDS" = some (some (.ref cRow)))
    (gL : PySem.W.nsIn K mainGlobals "LENGTHS" = some (some (.ref cLen)))
    (tW : K.lookup cWords = some ⟨.type "tuple", none, .seq #[.str "say" t1, .str "ask" t2, .str "rows" t3] 0, slW⟩)
    (tR : K.lookup cRow = some ⟨.type "tuple", none, .seq #[.str "say" t4, .str "ask" t5] 0, slR⟩)
    (tL : K.lookup cLen = some ⟨.type "dict", none, .dict #[⟨PyData.keyHash w.params "say", .str "say" t6, .int 2 u1⟩, ⟨PyData.keyHash w.params "ask", .str "ask" t7, .int 5 u2⟩, ⟨PyData.keyHash w.params "rows", .str "rows" t8, .int 6 u3⟩] epL, #[]⟩)
    (ktBadValue : PySem.W.ktsIn K cBadValue "object" = true)
    (gaBadValue : PySem.W.findIn K (.ref cBadValue) "__getattribute__" = some (some (.builtin "BaseException.__getattribute__")))
    (gtBadValue : PySem.W.findIn K (.ref cBadValue) "__getattr__" = some none)
    (clBadValue : PySem.W.findIn K (.ref cBadValue) "__class__" = some (some (.builtin "object.__class__")))
    (emBadValue : PySem.W.exmOne K (.ref cBadValue) (.ref cFormError) = some true)
    (isBadValueFormError : PySem.W.kitOne K (.ref cBadValue) (.ref cFormError) = some true)
    (isBadValueBadForm : PySem.W.kitOne K (.ref cBadValue) (.ref cBadForm) = some false)
    (isBadValueBadValue : PySem.W.kitOne K (.ref cBadValue) (.ref cBadValue) = some true)
    (isBadValueNoReading : PySem.W.kitOne K (.ref cBadValue) (.ref cNoReading) = some false)
    (isBadValueTwofold : PySem.W.kitOne K (.ref cBadValue) (.ref cTwofold) = some false)
    (isBadValueVE : PySem.W.kitOne K (.ref cBadValue) (.type "ValueError") = some true)
    (xnBadValue : xnIn K cBadValue veChain "ValueError.__new__" = true)
    (saBadValue : PySem.W.findIn K (.ref cBadValue) "__setattr__" = some (some (.builtin "object.__setattr__")))
    (obBadValue : PySem.W.mroIn K cBadValue (.type "object") = some true)
    (hdBadValue : PySem.W.hasDictIn K cBadValue = true)
    (kcBadValue : PySem.W.keepIn K (.ref cBadValue) = true)
    (fBadValueName : PySem.W.findIn K (.ref cBadValue) "name" = some none)
    (xbga : PySem.W.specialIn K (.ref cFormError) "__getattribute__" = some (some (.builtin "type.__getattribute__")))
    (xbrd : PySem.W.readsIn K cFormError (.type "type") = true)
    (xbfc : PySem.W.findCls K (.ref cFormError) (.type "type") "__init__" = some (.val (.builtin "ValueError.__init__")))
    (zValueError : PySem.W.nsIn K mainGlobals "ValueError" = some none)
    (zlen : PySem.W.nsIn K mainGlobals "len" = some none)
    (zrange : PySem.W.nsIn K mainGlobals "range" = some none)
    (zisinstance : PySem.W.nsIn K mainGlobals "isinstance" = some none)
    (zset : PySem.W.nsIn K mainGlobals "set" = some none)
    (zall : PySem.W.nsIn K mainGlobals "all" = some none)
    (zlist : PySem.W.nsIn K mainGlobals "list" = some none)
    (zdict : PySem.W.nsIn K mainGlobals "dict" = some none) :
    ∃ fd : FuncData, (∀ (s : Shared) (v : Value), BindsTo s fd ⟨[v], []⟩ [("script", v)]) ∧ ∀ base : Heap, K.In base → base.Ns mainGlobals mg → FnOk l.prog w K mg base CX0 13 fa fd ["script"] (spLaw K) := by
  have e := hfa.symm.trans (PySem.W.mg_of X G nLaw)
  cases e
  have FNamesIn := fun_mk (st := sNamesIn) lNamesIn cNamesIn kNamesIn
  have BNamesIn := FNamesIn.binds (ps := ["parts"]) fun _ _ _ _ _ _ us hl => match us, hl with | [_], _ => rfl
  have FPartsOf := fun_mk (st := sPartsOf) lPartsOf cPartsOf kPartsOf
  have BPartsOf := FPartsOf.binds (ps := ["pieces", "words", "most"]) fun _ _ _ _ _ _ us hl => match us, hl with | [_, _, _], _ => rfl
  have FPartOf := fun_mk (st := sPartOf) lPartOf cPartOf kPartOf
  have BPartOf := FPartOf.binds (ps := ["piece", "words"]) fun _ _ _ _ _ _ us hl => match us, hl with | [_, _], _ => rfl
  have FCopyOf := fun_mk (st := sCopyOf) lCopyOf cCopyOf kCopyOf
  have BCopyOf := FCopyOf.binds (ps := ["piece"]) fun _ _ _ _ _ _ us hl => match us, hl with | [_], _ => rfl
  have FNeed := fun_mk (st := sNeed) lNeed cNeed kNeed
  have BNeed := FNeed.binds (ps := ["holds", "words"]) fun _ _ _ _ _ _ us hl => match us, hl with | [_, _], _ => rfl
  have FNeedSigns := fun_mk (st := sNeedSigns) lNeedSigns cNeedSigns kNeedSigns
  have BNeedSigns := FNeedSigns.binds (ps := ["text", "least", "most", "what"]) fun _ _ _ _ _ _ us hl => match us, hl with | [_, _, _, _], _ => rfl
  have FNeedBounds := fun_mk (st := sNeedBounds) lNeedBounds cNeedBounds kNeedBounds
  have BNeedBounds := FNeedBounds.binds (ps := ["part", "highest"]) fun _ _ _ _ _ _ us hl => match us, hl with | [_, _], _ => rfl
  have FFill := fun_mk (st := sFill) lFill cFill kFill
  have BFill := FFill.binds (ps := ["form", "values"]) fun _ _ _ _ _ _ us hl => match us, hl with | [_, _], _ => rfl
  have FFilledParts := fun_mk (st := sFilledParts) lFilledParts cFilledParts kFilledParts
  have BFilledParts := FFilledParts.binds (ps := ["parts", "values"]) fun _ _ _ _ _ _ us hl => match us, hl with | [_, _], _ => rfl
  have FFilledPart := fun_mk (st := sFilledPart) lFilledPart cFilledPart kFilledPart
  have BFilledPart := FFilledPart.binds (ps := ["part", "values"]) fun _ _ _ _ _ _ us hl => match us, hl with | [_, _], _ => rfl
  have FFilledAsk := fun_mk (st := sFilledAsk) lFilledAsk cFilledAsk kFilledAsk
  have BFilledAsk := FFilledAsk.binds (ps := ["ask", "values"]) fun _ _ _ _ _ _ us hl => match us, hl with | [_, _], _ => rfl
  have FFilledRows := fun_mk (st := sFilledRows) lFilledRows cFilledRows kFilledRows
  have BFilledRows := FFilledRows.binds (ps := ["rows", "values"]) fun _ _ _ _ _ _ us hl => match us, hl with | [_, _], _ => rfl
  have FValueOf := fun_mk (st := sValueOf) lValueOf cValueOf kValueOf
  have BValueOf := FValueOf.binds (ps := ["part", "values"]) fun _ _ _ _ _ _ us hl => match us, hl with | [_, _], _ => rfl
  have FLawCellAt := fun_mk (st := sLawCellAt) lLawCellAt cLawCellAt kLawCellAt
  have BLawCellAt := FLawCellAt.binds (ps := ["script", "k"]) fun _ _ _ _ _ _ us hl => match us, hl with | [_, _], _ => rfl
  have FLawDraw := fun_mk (st := sLawDraw) lLawDraw cLawDraw kLawDraw
  have BLawDraw := FLawDraw.binds (ps := ["script", "k"]) fun _ _ _ _ _ _ us hl => match us, hl with | [_, _], _ => rfl
  have FLawWord := fun_mk (st := sLawWord) lLawWord cLawWord kLawWord
  have BLawWord := FLawWord.binds (ps := ["script", "k", "piece"]) fun _ _ _ _ _ _ us hl => match us, hl with | [_, _, _], _ => rfl
  have FLawRow := fun_mk (st := sLawRow) lLawRow cLawRow kLawRow
  have BLawRow := FLawRow.binds (ps := ["script", "k", "pieces"]) fun _ _ _ _ _ _ us hl => match us, hl with | [_, _, _], _ => rfl
  have FLawValues := fun_mk (st := sLawValues) lLawValues cLawValues kLawValues
  have BLawValues := FLawValues.binds (ps := ["script", "start", "pieces"]) fun _ _ _ _ _ _ us hl => match us, hl with | [_, _, _], _ => rfl
  have FLawLine := fun_mk (st := sLawLine) lLawLine cLawLine kLawLine
  have BLawLine := FLawLine.binds (ps := ["pieces", "values"]) fun _ _ _ _ _ _ us hl => match us, hl with | [_, _], _ => rfl
  have FLawWritten := fun_mk (st := sLawWritten) lLawWritten cLawWritten kLawWritten
  have BLawWritten := FLawWritten.binds (ps := ["pieces", "values"]) fun _ _ _ _ _ _ us hl => match us, hl with | [_, _], _ => rfl
  have FLawCopy := fun_mk (st := sLawCopy) lLawCopy cLawCopy kLawCopy
  have BLawCopy := FLawCopy.binds (ps := ["values"]) fun _ _ _ _ _ _ us hl => match us, hl with | [_], _ => rfl
  have FLawAlone := fun_mk (st := sLawAlone) lLawAlone cLawAlone kLawAlone
  have BLawAlone := FLawAlone.binds (ps := ["e"]) fun _ _ _ _ _ _ us hl => match us, hl with | [_], _ => rfl
  have FLawFault := fun_mk (st := sLawFault) lLawFault cLawFault kLawFault
  have BLawFault := FLawFault.binds (ps := ["values", "way", "cell", "names"]) fun _ _ _ _ _ _ us hl => match us, hl with | [_, _, _, _], _ => rfl
  have FLawWordBad := fun_mk (st := sLawWordBad) lLawWordBad cLawWordBad kLawWordBad
  have BLawWordBad := FLawWordBad.binds (ps := ["piece", "values"]) fun _ _ _ _ _ _ us hl => match us, hl with | [_, _], _ => rfl
  have FLawFirst := fun_mk (st := sLawFirst) lLawFirst cLawFirst kLawFirst
  have BLawFirst := FLawFirst.binds (ps := ["pieces", "values"]) fun _ _ _ _ _ _ us hl => match us, hl with | [_, _], _ => rfl
  have FLawTried := fun_mk (st := sLawTried) lLawTried cLawTried kLawTried
  have BLawTried := FLawTried.binds (ps := ["form", "values"]) fun _ _ _ _ _ _ us hl => match us, hl with | [_, _], _ => rfl
  have FLaw := fun_mk (st := sLaw) lLaw cLaw kLaw
  have BLaw := FLaw.binds (ps := ["script"]) fun _ _ _ _ _ _ us hl => match us, hl with | [_], _ => rfl
  have FBadValueI := funD_mk (st := sBadValueI) (dfl := [.str "is refused" tkBadValueI0]) lBadValueI cBadValueI kBadValueI td_BadValueI
  have BBadValueI := FBadValueI.binds (ps := ["self", "name", "words"]) (ds := []) fun _ _ _ _ _ _ _ us hl => match us, (show us.length = 3 by simpa using hl) with | [_, _, _], _ => ⟨_, rfl, rfl⟩
  have EBadValueI := FBadValueI.binds (ps := ["self", "name", "words"]) (ds := [.str "is refused" tkBadValueI0]) fun _ _ _ _ _ _ _ us hl => match us, (show us.length = 2 by simpa using hl) with | [_, _], _ => ⟨_, rfl, rfl⟩
  have FFormI := fun_mk (st := sFormI) lFormI cFormI kFormI
  have BFormI := FFormI.binds (ps := ["self", "pieces"]) fun _ _ _ _ _ _ us hl => match us, hl with | [_, _], _ => rfl
  have FSayI := fun_mk (st := sSayI) lSayI cSayI kSayI
  have BSayI := FSayI.binds (ps := ["self", "piece"]) fun _ _ _ _ _ _ us hl => match us, hl with | [_, _], _ => rfl
  have FAskI := fun_mk (st := sAskI) lAskI cAskI kAskI
  have BAskI := FAskI.binds (ps := ["self", "piece"]) fun _ _ _ _ _ _ us hl => match us, hl with | [_, _], _ => rfl
  have FRowsI := fun_mk (st := sRowsI) lRowsI cRowsI kRowsI
  have BRowsI := FRowsI.binds (ps := ["self", "piece"]) fun _ _ _ _ _ _ us hl => match us, hl with | [_, _], _ => rfl
  have T : Txt w K mg ⟨aNamesIn, aPartsOf, aPartOf, aCopyOf, aNeed, aNeedSigns, aNeedBounds, aFill, aFilledParts, aFilledPart, aFilledAsk, aFilledRows, aValueOf, aLawCellAt, aLawDraw, aLawWord, aLawRow, aLawValues, aLawLine, aLawWritten, aLawCopy, aLawAlone, aLawFault, aLawWordBad, aLawFirst, aLawTried, fa, aBadValueI, aFormI, aSayI, aAskI, aRowsI, (PySem.W.fnOf "names_in" "names_in" (defArgs sNamesIn) (defBody sNamesIn) (defScope sNamesIn) .none kvNamesIn dcNamesIn pmNamesIn anNamesIn cdNamesIn ctNamesIn), (PySem.W.fnOf "parts_of" "parts_of" (defArgs sPartsOf) (defBody sPartsOf) (defScope sPartsOf) .none kvPartsOf dcPartsOf pmPartsOf anPartsOf cdPartsOf ctPartsOf), (PySem.W.fnOf "part_of" "part_of" (defArgs sPartOf) (defBody sPartOf) (defScope sPartOf) .none kvPartOf dcPartOf pmPartOf anPartOf cdPartOf ctPartOf), (PySem.W.fnOf "copy_of" "copy_of" (defArgs sCopyOf) (defBody sCopyOf) (defScope sCopyOf) .none kvCopyOf dcCopyOf pmCopyOf anCopyOf cdCopyOf ctCopyOf), (PySem.W.fnOf "need" "need" (defArgs sNeed) (defBody sNeed) (defScope sNeed) .none kvNeed dcNeed pmNeed anNeed cdNeed ctNeed), (PySem.W.fnOf "need_signs" "need_signs" (defArgs sNeedSigns) (defBody sNeedSigns) (defScope sNeedSigns) .none kvNeedSigns dcNeedSigns pmNeedSigns anNeedSigns cdNeedSigns ctNeedSigns), (PySem.W.fnOf "need_bounds" "need_bounds" (defArgs sNeedBounds) (defBody sNeedBounds) (defScope sNeedBounds) .none kvNeedBounds dcNeedBounds pmNeedBounds anNeedBounds cdNeedBounds ctNeedBounds), (PySem.W.fnOf "fill" "fill" (defArgs sFill) (defBody sFill) (defScope sFill) .none kvFill dcFill pmFill anFill cdFill ctFill), (PySem.W.fnOf "filled_parts" "filled_parts" (defArgs sFilledParts) (defBody sFilledParts) (defScope sFilledParts) .none kvFilledParts dcFilledParts pmFilledParts anFilledParts cdFilledParts ctFilledParts), (PySem.W.fnOf "filled_part" "filled_part" (defArgs sFilledPart) (defBody sFilledPart) (defScope sFilledPart) .none kvFilledPart dcFilledPart pmFilledPart anFilledPart cdFilledPart ctFilledPart), (PySem.W.fnOf "filled_ask" "filled_ask" (defArgs sFilledAsk) (defBody sFilledAsk) (defScope sFilledAsk) .none kvFilledAsk dcFilledAsk pmFilledAsk anFilledAsk cdFilledAsk ctFilledAsk), (PySem.W.fnOf "filled_rows" "filled_rows" (defArgs sFilledRows) (defBody sFilledRows) (defScope sFilledRows) .none kvFilledRows dcFilledRows pmFilledRows anFilledRows cdFilledRows ctFilledRows), (PySem.W.fnOf "value_of" "value_of" (defArgs sValueOf) (defBody sValueOf) (defScope sValueOf) .none kvValueOf dcValueOf pmValueOf anValueOf cdValueOf ctValueOf), (PySem.W.fnOf "_law_cell_at" "_law_cell_at" (defArgs sLawCellAt) (defBody sLawCellAt) (defScope sLawCellAt) .none kvLawCellAt dcLawCellAt pmLawCellAt anLawCellAt cdLawCellAt ctLawCellAt), (PySem.W.fnOf "_law_draw" "_law_draw" (defArgs sLawDraw) (defBody sLawDraw) (defScope sLawDraw) .none kvLawDraw dcLawDraw pmLawDraw anLawDraw cdLawDraw ctLawDraw), (PySem.W.fnOf "_law_word" "_law_word" (defArgs sLawWord) (defBody sLawWord) (defScope sLawWord) .none kvLawWord dcLawWord pmLawWord anLawWord cdLawWord ctLawWord), (PySem.W.fnOf "_law_row" "_law_row" (defArgs sLawRow) (defBody sLawRow) (defScope sLawRow) .none kvLawRow dcLawRow pmLawRow anLawRow cdLawRow ctLawRow), (PySem.W.fnOf "_law_values" "_law_values" (defArgs sLawValues) (defBody sLawValues) (defScope sLawValues) .none kvLawValues dcLawValues pmLawValues anLawValues cdLawValues ctLawValues), (PySem.W.fnOf "_law_line" "_law_line" (defArgs sLawLine) (defBody sLawLine) (defScope sLawLine) .none kvLawLine dcLawLine pmLawLine anLawLine cdLawLine ctLawLine), (PySem.W.fnOf "_law_written" "_law_written" (defArgs sLawWritten) (defBody sLawWritten) (defScope sLawWritten) .none kvLawWritten dcLawWritten pmLawWritten anLawWritten cdLawWritten ctLawWritten), (PySem.W.fnOf "_law_copy" "_law_copy" (defArgs sLawCopy) (defBody sLawCopy) (defScope sLawCopy) .none kvLawCopy dcLawCopy pmLawCopy anLawCopy cdLawCopy ctLawCopy), (PySem.W.fnOf "_law_alone" "_law_alone" (defArgs sLawAlone) (defBody sLawAlone) (defScope sLawAlone) .none kvLawAlone dcLawAlone pmLawAlone anLawAlone cdLawAlone ctLawAlone), (PySem.W.fnOf "_law_fault" "_law_fault" (defArgs sLawFault) (defBody sLawFault) (defScope sLawFault) .none kvLawFault dcLawFault pmLawFault anLawFault cdLawFault ctLawFault), (PySem.W.fnOf "_law_word_bad" "_law_word_bad" (defArgs sLawWordBad) (defBody sLawWordBad) (defScope sLawWordBad) .none kvLawWordBad dcLawWordBad pmLawWordBad anLawWordBad cdLawWordBad ctLawWordBad), (PySem.W.fnOf "_law_first" "_law_first" (defArgs sLawFirst) (defBody sLawFirst) (defScope sLawFirst) .none kvLawFirst dcLawFirst pmLawFirst anLawFirst cdLawFirst ctLawFirst), (PySem.W.fnOf "_law_tried" "_law_tried" (defArgs sLawTried) (defBody sLawTried) (defScope sLawTried) .none kvLawTried dcLawTried pmLawTried anLawTried cdLawTried ctLawTried), (PySem.W.fnOf "law" "law" (defArgs sLaw) (defBody sLaw) (defScope sLaw) .none kvLaw dcLaw pmLaw anLaw cdLaw ctLaw), (PySem.W.fnOf "__init__" "BadValue.__init__" (defArgs sBadValueI) (defBody sBadValueI) (defScope sBadValueI) (.ref tdBadValueI) kvBadValueI dcBadValueI pmBadValueI anBadValueI cdBadValueI ctBadValueI), (PySem.W.fnOf "__init__" "Form.__init__" (defArgs sFormI) (defBody sFormI) (defScope sFormI) .none kvFormI dcFormI pmFormI anFormI cdFormI ctFormI), (PySem.W.fnOf "__init__" "Say.__init__" (defArgs sSayI) (defBody sSayI) (defScope sSayI) .none kvSayI dcSayI pmSayI anSayI cdSayI ctSayI), (PySem.W.fnOf "__init__" "Ask.__init__" (defArgs sAskI) (defBody sAskI) (defScope sAskI) .none kvAskI dcAskI pmAskI anAskI cdAskI ctAskI), (PySem.W.fnOf "__init__" "Rows.__init__" (defArgs sRowsI) (defBody sRowsI) (defScope sRowsI) .none kvRowsI dcRowsI pmRowsI anRowsI cdRowsI ctRowsI), cForm, cSay, cAsk, cRows, cWords, cRow, cLen, cFormError, cBadForm, cBadValue, cNoReading, cTwofold⟩ := ⟨FNamesIn, BNamesIn, PySem.W.mg_of X G nNamesIn, FPartsOf, BPartsOf, PySem.W.mg_of X G nPartsOf, FPartOf, BPartOf, PySem.W.mg_of X G nPartOf, FCopyOf, BCopyOf, PySem.W.mg_of X G nCopyOf, FNeed, BNeed, PySem.W.mg_of X G nNeed, FNeedSigns, BNeedSigns, PySem.W.mg_of X G nNeedSigns, FNeedBounds, BNeedBounds, PySem.W.mg_of X G nNeedBounds, FFill, BFill, PySem.W.mg_of X G nFill, FFilledParts, BFilledParts, PySem.W.mg_of X G nFilledParts, FFilledPart, BFilledPart, PySem.W.mg_of X G nFilledPart, FFilledAsk, BFilledAsk, PySem.W.mg_of X G nFilledAsk, FFilledRows, BFilledRows, PySem.W.mg_of X G nFilledRows, FValueOf, BValueOf, PySem.W.mg_of X G nValueOf, FLawCellAt, BLawCellAt, PySem.W.mg_of X G nLawCellAt, FLawDraw, BLawDraw, PySem.W.mg_of X G nLawDraw, FLawWord, BLawWord, PySem.W.mg_of X G nLawWord, FLawRow, BLawRow, PySem.W.mg_of X G nLawRow, FLawValues, BLawValues, PySem.W.mg_of X G nLawValues, FLawLine, BLawLine, PySem.W.mg_of X G nLawLine, FLawWritten, BLawWritten, PySem.W.mg_of X G nLawWritten, FLawCopy, BLawCopy, PySem.W.mg_of X G nLawCopy, FLawAlone, BLawAlone, PySem.W.mg_of X G nLawAlone, FLawFault, BLawFault, PySem.W.mg_of X G nLawFault, FLawWordBad, BLawWordBad, PySem.W.mg_of X G nLawWordBad, FLawFirst, BLawFirst, PySem.W.mg_of X G nLawFirst, FLawTried, BLawTried, PySem.W.mg_of X G nLawTried, FLaw, BLaw, PySem.W.mg_of X G nLaw, ⟨_, FBadValueI⟩, BBadValueI, ⟨_, EBadValueI⟩, FFormI, BFormI, FSayI, BSayI, FAskI, BAskI, FRowsI, BRowsI, ⟨⟨pgForm, hdForm, poForm, saForm⟩, haForm, hn, ht, hmForm⟩, ⟨mkForm, nFormI, iFormI, kcForm⟩, PySem.W.mg_of X G aCForm, fFormPieces, fFormPlan, ⟨⟨pgSay, hdSay, poSay, saSay⟩, haSay, hn, ht, hmSay⟩, ⟨mkSay, nSayI, iSayI, kcSay⟩, PySem.W.mg_of X G aCSay, fSayText, ⟨⟨pgAsk, hdAsk, poAsk, saAsk⟩, haAsk, hn, ht, hmAsk⟩, ⟨mkAsk, nAskI, iAskI, kcAsk⟩, PySem.W.mg_of X G aCAsk, fAskLeast, fAskMost, fAskName, fAskSigns, ⟨⟨pgRows, hdRows, poRows, saRows⟩, haRows, hn, ht, hmRows⟩, ⟨mkRows, nRowsI, iRowsI, kcRows⟩, PySem.W.mg_of X G aCRows, fRowsGap, fRowsLeast, fRowsMost, fRowsName, fRowsParts, isSaySay, isSayAsk, isAskSay, isAskAsk, isRowsSay, isRowsAsk, isStrList, isListList, isDictDict, ⟨tS, PySem.W.mg_of X G gS⟩, PySem.W.mg_of X G gW, PySem.W.mg_of X G gR, PySem.W.mg_of X G gL, ⟨t1, t2, t3, slW, tW⟩, ⟨t4, t5, slR, tR⟩, ⟨t6, t7, t8, u1, u2, u3, epL, tL⟩, PySem.W.mg_of X G aCFormError, PySem.W.mg_of X G aCBadForm, PySem.W.mg_of X G aCBadValue, PySem.W.mg_of X G aCNoReading, PySem.W.mg_of X G aCTwofold, ⟨ktBadValue, gaBadValue, gtBadValue, clBadValue⟩, emBadValue, isBadValueFormError, isBadValueBadForm, isBadValueBadValue, isBadValueNoReading, isBadValueTwofold, isBadValueVE, ⟨⟨ktBadValue, xnBadValue, saBadValue, obBadValue, hdBadValue⟩, nBadValueI, iBadValueI, kcBadValue⟩, fBadValueName, ⟨xbga, xbrd, xbfc, by decide +kernel⟩, PySem.W.mg_none_of X G zValueError, PySem.W.mg_none_of X G zlen, PySem.W.mg_none_of X G zrange, PySem.W.mg_none_of X G zisinstance, PySem.W.mg_none_of X G zset, PySem.W.mg_none_of X G zall, PySem.W.mg_none_of X G zlist, PySem.W.mg_none_of X G zdict⟩
  exact ⟨(PySem.W.fnOf "law" "law" (defArgs sLaw) (defBody sLaw) (defScope sLaw) .none kvLaw dcLaw pmLaw anLaw cdLaw ctLaw), fun s v => .of_eq rfl, fun base _ _ => ok_law T⟩
theorem walk {l : PySem.W.OpenLaw} {q : Program} {loose : List Str} {XP : (Str → Option Value) → Heap → Prop} {YP : World → Heap → Prop} {d : DefRec} {K : Params → PySem.W.Frag} (hn : l.most = some 63) (hdf : d.params.defaults = [])
    (hY : ∀ (w : World) (h : Heap), YP w h → (K w.params).In h)
    (F : ∀ (w : World) (mg : Str → Option Value) (fa : Addr) (h : Heap), (K w.params).In h → h.Ns mainGlobals mg → mg d.name = some (.ref fa) →
      ∃ fd : FuncData, (∀ (s : Shared) (u : Value), BindsTo s fd ⟨[u], []⟩ [("script", u)]) ∧ ∀ base : Heap, (K w.params).In base → base.Ns mainGlobals mg → FnOk l.prog w (K w.params) mg base CX0 13 fa fd ["script"] (spLaw (K w.params))) :
    PySem.W.WalkO q loose XP YP l.row.toRowW d [] (fun f vs => PySem.call f vs) :=
  L2.walk_of (n := 63) (k := 13) (x := "script") (CX := fun _ => CX0) (sp := fun w => spLaw (K w.params)) hn (by decide) hdf ⟨rfl, by decide, by decide⟩ hY F (fun _ _ a ns hl _ hS => ⟨a, ns, rfl, ⟨hS, hl⟩, fun _ => rfl⟩) fun _ _ _ _ _ z => z
end Lf
def PySem.W.Fast.tw17852096226611027159 : Nat := 0
def PySem.W.Fast.tw17926704184566655656 : Nat := 0
def PySem.W.Fast.tw5264091676859273201 : Nat := 0
def PySem.W.Fast.tw8317422862962153261 : Nat := 0
def PySem.W.Fast.tw1051514504586192306 : Nat := 0
def PySem.W.Fast.tw7296218843673030351 : Nat := 0
def PySem.W.Fast.tw12663843573922618003 : Nat := 0
def PySem.W.Fast.tw13497878781775091582 : Nat := 0
def PySem.W.Fast.tw10186308953412720012 : Nat := 0
def PySem.W.Fast.tw17289964582819019863 : Nat := 0
def PySem.W.Fast.tw9237190341919995668 : Nat := 0
def PySem.W.Fast.tw14155750232687397546 : Nat := 0
def PySem.W.Fast.tw15041768476301317059 : Nat := 0
def PySem.W.Fast.tw15817734435061032652 : Nat := 0
def PySem.W.Fast.tw6879141986701198676 : Nat := 0
def PySem.W.Fast.tw4572240692418884645 : Nat := 0
def PySem.W.Fast.tw16264823641940471409 : Nat := 0
def PySem.W.Fast.tw13710271096339770396 : Nat := 0
def PySem.W.Fast.tw17408431524470090659 : Nat := 0
def PySem.W.Fast.tw12802929962447264089 : Nat := 0
def PySem.W.Fast.tw10082499374810394146 : Nat := 0
def PySem.W.Fast.tw6345247701430465036 : Nat := 0
def PySem.W.Fast.tw11475506936529372497 : Nat := 0
def PySem.W.Fast.tw9743010312442911048 : Nat := 0
def PySem.W.Fast.tw10835599756305807901 : Nat := 0
def PySem.W.Fast.tw5987625963269486663 : Nat := 0
def PySem.W.Fast.tw10537548806564341386 : Nat := 0
def PySem.W.Fast.tw15201917379742793972 : Nat := 0
def PySem.W.Fast.tw13002776158918007359 : Nat := 0
def PySem.W.Fast.tw8815473241758351057 : Nat := 0
def PySem.W.Fast.tw10832370370867627237 : Nat := 0
def PySem.W.Fast.tw13735460933250352066 : Nat := 0
def PySem.W.Fast.tw5255280959678128836 : Nat := 0
def PySem.W.Fast.tw12951206412529637871 : Nat := 0
def PySem.W.Fast.tw11539992245315518812 : Nat := 0
open PySem PySem.W PyProof.Rows
set_option maxRecDepth 100000 in
set_option maxHeartbeats 0 in
theorem PySem.Challenge.cw_letterform_k04_values_refused_holds : PySem.Challenge.rw_letterform_k04_values_refused.Holds := by
  w_on; o_law; k_head; (case hw => w_witness2)
  k_fill
  refine Lf.walk (l := PySem.Challenge.rw_letterform_k04_values_refused) rfl rfl (fun w h Y => PySem.W.kIn_of Y) ?F
  case F =>
    intro w mg fa h KX G hmg
    refine' Lf.all_mk KX G hmg ?aCForm ?aCSay ?aCAsk ?aCRows ?aCFormError ?aCBadForm ?aCBadValue ?aCNoReading ?aCTwofold ?nNamesIn ?lNamesIn ?cNamesIn ?kNamesIn ?nPartsOf ?lPartsOf ?cPartsOf ?kPartsOf ?nPartOf ?lPartOf ?cPartOf ?kPartOf ?nCopyOf ?lCopyOf ?cCopyOf ?kCopyOf ?nNeed ?lNeed ?cNeed ?kNeed ?nNeedSigns ?lNeedSigns ?cNeedSigns ?kNeedSigns ?nNeedBounds ?lNeedBounds ?cNeedBounds ?kNeedBounds ?nFill ?lFill ?cFill ?kFill ?nFilledParts ?lFilledParts ?cFilledParts ?kFilledParts ?nFilledPart ?lFilledPart ?cFilledPart ?kFilledPart ?nFilledAsk ?lFilledAsk ?cFilledAsk ?kFilledAsk ?nFilledRows ?lFilledRows ?cFilledRows ?kFilledRows ?nValueOf ?lValueOf ?cValueOf ?kValueOf ?nLawCellAt ?lLawCellAt ?cLawCellAt ?kLawCellAt ?nLawDraw ?lLawDraw ?cLawDraw ?kLawDraw ?nLawWord ?lLawWord ?cLawWord ?kLawWord ?nLawRow ?lLawRow ?cLawRow ?kLawRow ?nLawValues ?lLawValues ?cLawValues ?kLawValues ?nLawLine ?lLawLine ?cLawLine ?kLawLine ?nLawWritten ?lLawWritten ?cLawWritten ?kLawWritten ?nLawCopy ?lLawCopy ?cLawCopy ?kLawCopy ?nLawAlone ?lLawAlone ?cLawAlone ?kLawAlone ?nLawFault ?lLawFault ?cLawFault ?kLawFault ?nLawWordBad ?lLawWordBad ?cLawWordBad ?kLawWordBad ?nLawFirst ?lLawFirst ?cLawFirst ?kLawFirst ?nLawTried ?lLawTried ?cLawTried ?kLawTried ?nLaw ?lLaw ?cLaw ?kLaw ?nBadValueI ?iBadValueI ?lBadValueI ?td_BadValueI ?cBadValueI ?kBadValueI ?nFormI ?iFormI ?lFormI ?cFormI ?kFormI ?nSayI ?iSayI ?lSayI ?cSayI ?kSayI ?nAskI ?iAskI ?lAskI ?cAskI ?kAskI ?nRowsI ?iRowsI ?lRowsI ?cRowsI ?kRowsI ?pgForm ?hdForm ?poForm ?saForm ?mkForm ?kcForm ?haForm ?hmForm ?fFormPieces ?fFormPlan ?pgSay ?hdSay ?poSay ?saSay ?mkSay ?kcSay ?haSay ?hmSay ?fSayText ?pgAsk ?hdAsk ?poAsk ?saAsk ?mkAsk ?kcAsk ?haAsk ?hmAsk ?fAskLeast ?fAskMost ?fAskName ?fAskSigns ?pgRows ?hdRows ?poRows ?saRows ?mkRows ?kcRows ?haRows ?hmRows ?fRowsGap ?fRowsLeast ?fRowsMost ?fRowsName ?fRowsParts ?hn ?ht ?isSaySay ?isSayAsk ?isAskSay ?isAskAsk ?isRowsSay ?isRowsAsk ?isStrList ?isListList ?isDictDict ?gS ?gW ?gR ?gL ?tW ?tR ?tL ?ktBadValue ?gaBadValue ?gtBadValue ?clBadValue ?emBadValue ?isBadValueFormError ?isBadValueBadForm ?isBadValueBadValue ?isBadValueNoReading ?isBadValueTwofold ?isBadValueVE ?xnBadValue ?saBadValue ?obBadValue ?hdBadValue ?kcBadValue ?fBadValueName ?xbga ?xbrd ?xbfc ?zValueError ?zlen ?zrange ?zisinstance ?zset ?zall ?zlist ?zdict
    (case aCForm => k_is)
    (case aCSay => k_is)
    (case aCAsk => k_is)
    (case aCRows => k_is)
    (case aCFormError => k_is)
    (case aCBadForm => k_is)
    (case aCBadValue => k_is)
    (case aCNoReading => k_is)
    (case aCTwofold => k_is)
    (case nNamesIn => k_is)
    (case lNamesIn => k_is)
    (case cNamesIn => k_is)
    (case kNamesIn => k_is)
    (case nPartsOf => k_is)
    (case lPartsOf => k_is)
    (case cPartsOf => k_is)
    (case kPartsOf => k_is)
    (case nPartOf => k_is)
    (case lPartOf => k_is)
    (case cPartOf => k_is)
    (case kPartOf => k_is)
    (case nCopyOf => k_is)
    (case lCopyOf => k_is)
    (case cCopyOf => k_is)
    (case kCopyOf => k_is)
    (case nNeed => k_is)
    (case lNeed => k_is)
    (case cNeed => k_is)
    (case kNeed => k_is)
    (case nNeedSigns => k_is)
    (case lNeedSigns => k_is)
    (case cNeedSigns => k_is)
    (case kNeedSigns => k_is)
    (case nNeedBounds => k_is)
    (case lNeedBounds => k_is)
    (case cNeedBounds => k_is)
    (case kNeedBounds => k_is)
    (case nFill => k_is)
    (case lFill => k_is)
    (case cFill => k_is)
    (case kFill => k_is)
    (case nFilledParts => k_is)
    (case lFilledParts => k_is)
    (case cFilledParts => k_is)
    (case kFilledParts => k_is)
    (case nFilledPart => k_is)
    (case lFilledPart => k_is)
    (case cFilledPart => k_is)
    (case kFilledPart => k_is)
    (case nFilledAsk => k_is)
    (case lFilledAsk => k_is)
    (case cFilledAsk => k_is)
    (case kFilledAsk => k_is)
    (case nFilledRows => k_is)
    (case lFilledRows => k_is)
    (case cFilledRows => k_is)
    (case kFilledRows => k_is)
    (case nValueOf => k_is)
    (case lValueOf => k_is)
    (case cValueOf => k_is)
    (case kValueOf => k_is)
    (case nLawCellAt => k_is)
    (case lLawCellAt => k_is)
    (case cLawCellAt => k_is)
    (case kLawCellAt => k_is)
    (case nLawDraw => k_is)
    (case lLawDraw => k_is)
    (case cLawDraw => k_is)
    (case kLawDraw => k_is)
    (case nLawWord => k_is)
    (case lLawWord => k_is)
    (case cLawWord => k_is)
    (case kLawWord => k_is)
    (case nLawRow => k_is)
    (case lLawRow => k_is)
    (case cLawRow => k_is)
    (case kLawRow => k_is)
    (case nLawValues => k_is)
    (case lLawValues => k_is)
    (case cLawValues => k_is)
    (case kLawValues => k_is)
    (case nLawLine => k_is)
    (case lLawLine => k_is)
    (case cLawLine => k_is)
    (case kLawLine => k_is)
    (case nLawWritten => k_is)
    (case lLawWritten => k_is)
    (case cLawWritten => k_is)
    (case kLawWritten => k_is)
    (case nLawCopy => k_is)
    (case lLawCopy => k_is)
    (case cLawCopy => k_is)
    (case kLawCopy => k_is)
    (case nLawAlone => k_is)
    (case lLawAlone => k_is)
    (case cLawAlone => k_is)
    (case kLawAlone => k_is)
    (case nLawFault => k_is)
    (case lLawFault => k_is)
    (case cLawFault => k_is)
    (case kLawFault => k_is)
    (case nLawWordBad => k_is)
    (case lLawWordBad => k_is)
    (case cLawWordBad => k_is)
    (case kLawWordBad => k_is)
    (case nLawFirst => k_is)
    (case lLawFirst => k_is)
    (case cLawFirst => k_is)
    (case kLawFirst => k_is)
    (case nLawTried => k_is)
    (case lLawTried => k_is)
    (case cLawTried => k_is)
    (case kLawTried => k_is)
    (case nLaw => k_is)
    (case lLaw => k_is)
    (case cLaw => k_is)
    (case kLaw => k_is)
    (case nBadValueI => k_is)
    (case iBadValueI => k_is)
    (case lBadValueI => k_is)
    (case td_BadValueI => k_is)
    (case cBadValueI => k_is)
    (case kBadValueI => k_is)
    (case nFormI => k_is)
    (case iFormI => k_is)
    (case lFormI => k_is)
    (case cFormI => k_is)
    (case kFormI => k_is)
    (case nSayI => k_is)
    (case iSayI => k_is)
    (case lSayI => k_is)
    (case cSayI => k_is)
    (case kSayI => k_is)
    (case nAskI => k_is)
    (case iAskI => k_is)
    (case lAskI => k_is)
    (case cAskI => k_is)
    (case kAskI => k_is)
    (case nRowsI => k_is)
    (case iRowsI => k_is)
    (case lRowsI => k_is)
    (case cRowsI => k_is)
    (case kRowsI => k_is)
    (case pgForm => k_is)
    (case hdForm => k_is)
    (case poForm => k_is)
    (case saForm => k_is)
    (case mkForm => k_is)
    (case kcForm => k_is)
    (case haForm => k_is)
    (case hmForm => k_is)
    (case fFormPieces => k_is)
    (case fFormPlan => k_is)
    (case pgSay => k_is)
    (case hdSay => k_is)
    (case poSay => k_is)
    (case saSay => k_is)
    (case mkSay => k_is)
    (case kcSay => k_is)
    (case haSay => k_is)
    (case hmSay => k_is)
    (case fSayText => k_is)
    (case pgAsk => k_is)
    (case hdAsk => k_is)
    (case poAsk => k_is)
    (case saAsk => k_is)
    (case mkAsk => k_is)
    (case kcAsk => k_is)
    (case haAsk => k_is)
    (case hmAsk => k_is)
    (case fAskLeast => k_is)
    (case fAskMost => k_is)
    (case fAskName => k_is)
    (case fAskSigns => k_is)
    (case pgRows => k_is)
    (case hdRows => k_is)
    (case poRows => k_is)
    (case saRows => k_is)
    (case mkRows => k_is)
    (case kcRows => k_is)
    (case haRows => k_is)
    (case hmRows => k_is)
    (case fRowsGap => k_is)
    (case fRowsLeast => k_is)
    (case fRowsMost => k_is)
    (case fRowsName => k_is)
    (case fRowsParts => k_is)
    (case hn => k_is)
    (case ht => k_is)
    (case isSaySay => kit_is)
    (case isSayAsk => kit_is)
    (case isAskSay => kit_is)
    (case isAskAsk => kit_is)
    (case isRowsSay => kit_is)
    (case isRowsAsk => kit_is)
    (case isStrList => kit_is)
    (case isListList => kit_is)
    (case isDictDict => kit_is)
    (case gS => k_is)
    (case gW => k_is)
    (case gR => k_is)
    (case gL => k_is)
    (case tW => k_is)
    (case tR => k_is)
    (case tL => k_is)
    (case ktBadValue => kts_isx)
    (case gaBadValue => k_is)
    (case gtBadValue => k_is)
    (case clBadValue => k_is)
    (case emBadValue => kts_exm)
    (case isBadValueFormError => kit_is)
    (case isBadValueBadForm => kit_is)
    (case isBadValueBadValue => kit_is)
    (case isBadValueNoReading => kit_is)
    (case isBadValueTwofold => kit_is)
    (case isBadValueVE => kit_is)
    (case xnBadValue => kernel_rfl)
    (case saBadValue => k_is)
    (case obBadValue => k_is)
    (case hdBadValue => k_is)
    (case kcBadValue => k_is)
    (case fBadValueName => k_is)
    (case xbga => k_is)
    (case xbrd => k_is)
    (case xbfc => k_is)
    (case zValueError => k_is)
    (case zlen => k_is)
    (case zrange => k_is)
    (case zisinstance => k_is)
    (case zset => k_is)
    (case zall => k_is)
    (case zlist => k_is)
    (case zdict => k_is)
