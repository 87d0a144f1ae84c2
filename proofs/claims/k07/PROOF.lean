import PyProof.Rows.All
import Wide.All
import OpenK.AllK
import Wide.FinOn
import Lean
import PyProof.EqAt
import PyProof.EqKinds
import PyProof.TupleCall
import PySem.Challenge.RW_royaltree_k07_rows_that_part_too_much
set_option Elab.async false
set_option linter.all false
set_option maxRecDepth 100000
/-! THE HAND LAYER, for ints, bools, texts, own classes, LISTS and tuples (index, slices, in, append, pop ..), calls, loops. Paste it whole ahead of your own text; what your proof does not reach may be deleted. -/
namespace L2
open PySem PySem.Spec PyProof.Rows

/-- a key: an int or a str -/
abbrev Key := Sum Int Str
def keyIs : Key → Value → Bool
  | .inl k, v => Value.isInt k v
  | .inr x, v => Value.isStrOf x v
def keyH (w : World) : Key → Int
  | .inl k => hashInt k
  | .inr x => hashStr w x
theorem keyIs_shape : ∀ {k : Key} {v : Value}, keyIs k v = true → (∃ i t, k = Sum.inl i ∧ v = Value.int i t) ∨ (∃ x t, k = Sum.inr x ∧ v = Value.str x t)
  | .inl i, v, h => by
    obtain ⟨t, e⟩ := Value.isInt_shape (k := i) (v := v) h
    exact .inl ⟨i, t, rfl, e⟩
  | .inr x, v, h => by
    obtain ⟨t, e⟩ := Value.isStrOf_shape (x := x) (v := v) h
    exact .inr ⟨x, t, rfl, e⟩
theorem keyIs_int (i : Int) (t : Tok) : keyIs (.inl i) (.int i t) = true := by simp [keyIs, Value.isInt]
theorem keyIs_str (x : Str) (t : Tok) : keyIs (.inr x) (.str x t) = true := by simp [keyIs, Value.isStrOf]
theorem key_ll (a b : Int) : decide ((Sum.inl a : Key) = Sum.inl b) = (a == b) := by
  by_cases e : a = b
  · subst e; simp
  · have h : ¬ (Sum.inl a : Key) = Sum.inl b := fun q => e (Sum.inl.inj q)
    rw [decide_eq_false h]
    exact (beq_eq_false_iff_ne.mpr e).symm
theorem key_rr (a b : Str) : decide ((Sum.inr a : Key) = Sum.inr b) = decide (a = b) := by
  by_cases e : a = b
  · subst e; simp
  · have h : ¬ (Sum.inr a : Key) = Sum.inr b := fun q => e (Sum.inr.inj q)
    rw [decide_eq_false h, decide_eq_false e]
theorem key_lr (a : Int) (b : Str) : decide ((Sum.inl a : Key) = Sum.inr b) = false := decide_eq_false (fun q => nomatch q)
theorem key_rl (a : Str) (b : Int) : decide ((Sum.inr a : Key) = Sum.inl b) = false := decide_eq_false (fun q => nomatch q)

def mixKind (prog : Program) (w : World) : PySem.KeyKind prog w Key where
  is := keyIs
  hash := keyH w
  inj := fun v a b ha hb => by
    rcases keyIs_shape ha with ⟨i, t, rfl, rfl⟩ | ⟨x, t, rfl, rfl⟩
    · rcases keyIs_shape hb with ⟨j, u, rfl, e⟩ | ⟨y, u, rfl, e⟩
      · injection e with e1 _; rw [e1]
      · exact nomatch e
    · rcases keyIs_shape hb with ⟨j, u, rfl, e⟩ | ⟨y, u, rfl, e⟩
      · exact nomatch e
      · injection e with e1 _; rw [e1]
  byValue := fun k v h => by
    rcases keyIs_shape h with ⟨i, t, rfl, rfl⟩ | ⟨x, t, rfl, rfl⟩ <;> rfl
  pyHash := fun hv h => by
    rcases keyIs_shape hv with ⟨i, t, rfl, rfl⟩ | ⟨x, t, rfl, rfl⟩
    · exact wpAny_pyHash_int h
    · exact wpAny_pyHash_str h
  eqBool := fun hu hv h => by
    rcases keyIs_shape hu with ⟨i, t, rfl, rfl⟩ | ⟨x, t, rfl, rfl⟩
    · rcases keyIs_shape hv with ⟨j, u, rfl, rfl⟩ | ⟨y, u, rfl, rfl⟩
      · rw [key_ll] at h; exact wpAny_eqBool_int h
      · rw [key_lr] at h; exact SeqAt.EqAt.int_str i t y u _ _ _ _ h
    · rcases keyIs_shape hv with ⟨j, u, rfl, rfl⟩ | ⟨y, u, rfl, rfl⟩
      · rw [key_rl] at h; exact SeqAt.EqAt.str_int x t j u _ _ _ _ h
      · rw [key_rr] at h; exact wpAny_eqBool_str h
  «strs» := fun k x t v h => by
    rcases keyIs_shape h with ⟨i, u, rfl, e⟩ | ⟨y, u, rfl, e⟩
    · exact nomatch e
    · injection e with e1 _
      subst e1
      cases v <;> rfl

theorem mixKind_is (prog : Program) (w : World) (k : Key) (v : Value) : (mixKind prog w).is k v = keyIs k v := rfl
theorem mixKind_int (prog : Program) (w : World) (i : Int) (t : Tok) : (mixKind prog w).is (.inl i) (.int i t) = true := keyIs_int i t
theorem mixKind_str (prog : Program) (w : World) (x : Str) (t : Tok) : (mixKind prog w).is (.inr x) (.str x t) = true := keyIs_str x t
end L2

namespace L2
open PySem PySem.Spec PyProof.Rows

/-- a value, without the heap -/
inductive V where
  | non | bl (b : Bool) | int (i : Int) | str (x : Str) | byt (b : Array UInt8) | flt (b : UInt64) | ref (a : Addr) | ty (n : String)
  deriving DecidableEq

def RelV : V → Value → Prop
  | .non, u => u = Value.none
  | .bl b, u => u = Value.bool b
  | .int i, u => ∃ t, u = Value.int i t
  | .str x, u => ∃ t, u = Value.str x t
  | .byt b, u => ∃ t, u = Value.bytes b t
  | .flt b, u => ∃ t, u = Value.float b t
  | .ref a, u => u = Value.ref a
  | .ty n, u => u = Value.type n

abbrev Vals : List V → List Value → Prop := Paired RelV
theorem Vals.length {xs : List V} {us : List Value} (r : Vals xs us) : xs.length = us.length := Paired.length r
theorem Vals.get : ∀ {xs : List V} {us : List Value} {i : Nat} {x : V}, Vals xs us → xs[i]? = some x → ∃ u, us[i]? = some u ∧ RelV x u
  | _, _, _, _, .nil, e => by simp at e
  | _, _, 0, _, .cons r _, e => by simp at e; subst e; exact ⟨_, rfl, r⟩
  | _, _, i + 1, x, .cons _ t, e => by
    obtain ⟨u, h1, h2⟩ := Vals.get (i := i) (x := x) t (by simpa using e)
    exact ⟨u, by simpa using h1, h2⟩
theorem Vals.set {x : V} {u : Value} (r : RelV x u) : ∀ {xs : List V} {us : List Value} (i : Nat), Vals xs us → Vals (xs.set i x) (us.set i u)
  | _, _, _, .nil => .nil
  | _, _, 0, .cons _ t => .cons r t
  | _, _, i + 1, .cons q t => .cons q (Vals.set r i t)
theorem Vals.append : ∀ {xs ys : List V} {us ws : List Value}, Vals xs us → Vals ys ws → Vals (xs ++ ys) (us ++ ws)
  | _, _, _, _, .nil, s => s
  | _, _, _, _, .cons r t, s => .cons r (Vals.append t s)
theorem Vals.take : ∀ {xs : List V} {us : List Value} (n : Nat), Vals xs us → Vals (xs.take n) (us.take n)
  | _, _, 0, _ => .nil
  | _, _, _ + 1, .nil => .nil
  | _, _, n + 1, .cons r t => .cons r (Vals.take n t)
theorem Vals.drop : ∀ {xs : List V} {us : List Value} (n : Nat), Vals xs us → Vals (xs.drop n) (us.drop n)
  | _, _, 0, r => r
  | _, _, _ + 1, .nil => .nil
  | _, _, n + 1, .cons _ t => Vals.drop n t
theorem Vals.none_of : ∀ {xs : List V} {us : List Value} {i : Nat}, Vals xs us → xs[i]? = none → us[i]? = none := fun {xs us i} r e => by
  have h1 := r.length
  have h2 : xs.length ≤ i := List.getElem?_eq_none_iff.mp e
  exact List.getElem?_eq_none_iff.mpr (by omega)

def RelO : Option V → Option Value → Prop
  | some v, some u => RelV v u
  | none, none => True
  | _, _ => False
def KV {κ : Type} : List (κ × V) → List (κ × Value) → Prop := Paired fun (p : κ × V) (q : κ × Value) => p.1 = q.1 ∧ RelV p.2 q.2

/-- a key of a dict (00_mix): an int or a text -/
def kV : Key → V
  | .inl i => .int i
  | .inr x => .str x

/-- what stands at a tracked address -/
inductive HO where
  /-- a list -/
  | lst (xs : List V)
  /-- a tuple (never changes) -/
  | tup (xs : List V)
  /-- a dict whose keys are ints and texts; one whose keys are tuples of ints and texts (the empty one is both) -/
  | dK (kvs : List (Key × V)) | dT (kvs : List (List Key × V))
  /-- a set of ints: its members, its size -/
  | set (S : Int → Bool) (n : Nat)
  /-- an instance of the class at C, its dict at dx, its attributes -/
  | ins (C dx : Addr) (fs : List (Str × V))
  /-- the dict of the instance at x -/
  | own (x : Addr)
  /-- the dict of an exception -/
  | xd (fs : List (Str × V))
  /-- a bound method, f of x -/
  | met (f x : Addr)
  /-- a range object lo, lo + 1, .. below hi -/
  | rng (lo hi : Int)
  /-- a thing that is known to the object (the script; a dict while a loop walks it): read, never written while it is so -/
  | frz (o : Obj) (u : HO)
  /-- a code object's table -/
  | tbl (ps : Array Value)
  /-- any other thing, by what is true of its one object (a def of one's own: SetO a S n := HO.ext fun h => ..) -/
  | ext (φ : Heap → Prop)

abbrev Hp := Addr → Option HO
def upd (H : Hp) (a : Addr) (o : HO) : Hp := fun b => if b = a then some o else H b
theorem upd_same {H : Hp} {a : Addr} {o : HO} : upd H a o a = some o := by unfold upd; rw [if_pos rfl]
theorem upd_ne {H : Hp} {a b : Addr} {o : HO} (h : b ≠ a) : upd H a o b = H b := by unfold upd; rw [if_neg h]
theorem upd_upd {H : Hp} {a : Addr} {o u : HO} : upd (upd H a o) a u = upd H a u := by
  funext b; unfold upd; split <;> rfl
/-- two objects of different content stand apart -/
theorem ne_of {H : Hp} {a b : Addr} {o u : HO} (h : H a = some o) (h' : H b = some u) (d : o ≠ u) : a ≠ b := by
  intro e; subst e; rw [h] at h'; exact d (Option.some.inj h')
theorem ne_of_none {H : Hp} {a b : Addr} {o : HO} (h : H a = some o) (h' : H b = none) : a ≠ b := by
  intro e; subst e; rw [h] at h'; cases h'

section
variable (P : Program) (w : World)
def ObjOk (H : Hp) (h : Heap) (a : Addr) : HO → Prop
  | .lst xs => xs.length ≤ sizeLine ∧ ∃ (its : List Value) (n : Nat), Vals xs its ∧ h.get? a = some { cls := .type "list", data := .seq its.toArray n }
  | .tup xs => xs.length ≤ sizeLine ∧ ∃ its : List Value, Vals xs its ∧ IsTup h a its.toArray
  | .dK kvs => kvs.length ≤ sizeLine ∧ (a == sysModules) = false ∧ ∃ vs, KV kvs vs ∧ h.DictOf (mixKind P w) a vs
  | .dT kvs => kvs.length ≤ sizeLine ∧ (a == sysModules) = false ∧ ∃ xs : List (List Key × Addr × Value),
      Paired (fun (p : List Key × V) (q : List Key × Addr × Value) => p.1 = q.1 ∧ H q.2.1 = some (.tup (p.1.map kV)) ∧ RelV p.2 q.2.2) kvs xs ∧
      ∃ o es ep, h.get? a = some o ∧ o.ExactDict ∧ o.data = .dict es ep ∧ es.toList = xs.map (entryOfKey (tupleKind (mixKind P w))) ∧ (xs.map (·.1)).Nodup
  | .set S n => h.SetOf (intKind P w) a S n
  | .ins C dx fs => H dx = some (.own a) ∧ fs.length ≤ 1000 ∧ dx ≠ a ∧ h.get? a = some (PySem.W.instObj C dx) ∧
      ∃ mA, h.Ns1 dx mA ∧ (∀ f, RelO (fs.lookup f) (mA f)) ∧ PySem.Within mA (fs.map (·.1))
  | .own _ => ∃ o, h.get? a = some o
  | .xd fs => ∃ mA, h.Ns1 a mA ∧ ∀ f, RelO (fs.lookup f) (mA f)
  | .rng lo hi => ∃ t u v, h.get? a = some { cls := .type "range", data := .fields #[.int lo t, .int hi u, .int 1 v] }
  | .frz o u => h.get? a = some o ∧ ObjOk H h a u
  | .tbl ps => h.get? a = some { cls := .none, data := .fields ps }
  | .met f x => h.get? a = some (PySem.W.methodObj (.ref f) (.ref x))
  | .ext φ => φ h ∧ (∃ o, h.get? a = some o) ∧ ∀ h1 h2 : Heap, φ h1 → (∀ o, h1.get? a = some o → h2.get? a = some o) → φ h2
/-- the abstract heap is held -/
def HOk (H : Hp) (h : Heap) : Prop := ∀ a o, H a = some o → ObjOk P w H h a o
end

section
variable {P : Program} {w : World} {H H' : Hp} {h h' : Heap} {a : Addr} {o : HO}
theorem ObjOk.lt (x : ObjOk P w H h a o) : a < h.objs.size := by
  cases o with
  | lst xs => obtain ⟨_, _, _, _, e⟩ := x; exact Heap.lt_size e
  | tup xs => obtain ⟨_, _, _, p⟩ := x; exact p.lt
  | dK kvs => obtain ⟨_, _, _, _, o, _, _, e, _⟩ := x; exact Heap.lt_size e
  | dT kvs => obtain ⟨_, _, _, _, o, _, _, e, _⟩ := x; exact Heap.lt_size e
  | set S n => obtain ⟨o, _, _, _, e, _⟩ := x; exact Heap.lt_size e
  | ins C dx fs => obtain ⟨_, _, _, e, _⟩ := x; exact Heap.lt_size e
  | own y => obtain ⟨_, e⟩ := x; exact Heap.lt_size e
  | xd fs => obtain ⟨_, ⟨_, _, _, e, _⟩, _⟩ := x; exact Heap.lt_size e
  | rng lo hi => obtain ⟨_, _, _, e⟩ := x; exact Heap.lt_size e
  | frz ob u => obtain ⟨e, _⟩ := x; exact Heap.lt_size e
  | tbl ps => exact Heap.lt_size (show h.get? a = some _ from x)
  | met f y => exact Heap.lt_size (show h.get? a = some _ from x)
  | ext φ => obtain ⟨_, ⟨_, e⟩, _⟩ := x; exact Heap.lt_size e
theorem Paired.mapP {α β : Type} {F G : α → β → Prop} : ∀ {l₁ : List α} {l₂ : List β}, Paired F l₁ l₂ → (∀ a b, F a b → G a b) → Paired G l₁ l₂
  | _, _, .nil, _ => .nil
  | _, _, .cons r t, f => .cons (f _ _ r) (Paired.mapP t f)
theorem Paired.imp' {α β : Type} {F G : α → β → Prop} (f : ∀ a b, F a b → G a b) {l₁ : List α} {l₂ : List β} (r : Paired F l₁ l₂) : Paired G l₁ l₂ := Paired.mapP r f
/-- what an object's description leans on: its own object, its own dict, the tuples -/
theorem ObjOk.stay (x : ObjOk P w H h a o) (k : ∀ b u, (b = a ∨ H b = some (.own a)) → h.get? b = some u → h'.get? b = some u)
    (ho : ∀ b, H b = some (.own a) → H' b = some (.own a)) (ht : ∀ b xs, H b = some (.tup xs) → H' b = some (.tup xs)) : ObjOk P w H' h' a o := by
  induction o with
  | lst xs => obtain ⟨z, its, n, r, e⟩ := x; exact ⟨z, its, n, r, k _ _ (.inl rfl) e⟩
  | tup xs => obtain ⟨z, its, r, ob, e, c⟩ := x; exact ⟨z, its, r, ob, k _ _ (.inl rfl) e, c⟩
  | dK kvs => obtain ⟨z, y, vs, r, ob, es, ep, e, c⟩ := x; exact ⟨z, y, vs, r, ob, es, ep, k _ _ (.inl rfl) e, c⟩
  | dT kvs =>
    obtain ⟨z, y, xs, r, ob, es, ep, e, c⟩ := x
    exact ⟨z, y, xs, Paired.mapP r fun p q z => ⟨z.1, ht _ _ z.2.1, z.2.2⟩, ob, es, ep, k _ _ (.inl rfl) e, c⟩
  | set S n => obtain ⟨ob, es, ep, t, e, c⟩ := x; exact ⟨ob, es, ep, t, k _ _ (.inl rfl) e, c⟩
  | ins C dx fs =>
    obtain ⟨d, z, ne, e, mA, ⟨od, es, ep, e2, c⟩, r⟩ := x
    exact ⟨ho _ d, z, ne, k _ _ (.inl rfl) e, mA, ⟨od, es, ep, k _ _ (.inr d) e2, c⟩, r⟩
  | own y => obtain ⟨ob, e⟩ := x; exact ⟨ob, k _ _ (.inl rfl) e⟩
  | xd fs => obtain ⟨mA, ⟨od, es, ep, e, c⟩, r⟩ := x; exact ⟨mA, ⟨od, es, ep, k _ _ (.inl rfl) e, c⟩, r⟩
  | rng lo hi => obtain ⟨t, u, v, e⟩ := x; exact ⟨t, u, v, k _ _ (.inl rfl) e⟩
  | frz ob u ih => obtain ⟨e, q⟩ := x; exact ⟨k _ _ (.inl rfl) e, ih q⟩
  | tbl ps =>
    have e : h.get? a = some { cls := .none, data := .fields ps } := x
    show h'.get? a = some { cls := .none, data := .fields ps }
    exact k a _ (.inl rfl) e
  | met f y =>
    have e : h.get? a = some (PySem.W.methodObj (.ref f) (.ref y)) := x
    show h'.get? a = some (PySem.W.methodObj (.ref f) (.ref y))
    exact k a _ (.inl rfl) e
  | ext φ => obtain ⟨p, ⟨o, e⟩, st⟩ := x; exact ⟨st _ _ p fun o q => k _ _ (.inl rfl) q, ⟨o, k _ _ (.inl rfl) e⟩, st⟩
theorem HOk.lt (x : HOk P w H h) (e : H a = some o) : a < h.objs.size := (x a o e).lt
theorem HOk.fresh (x : HOk P w H h) (e : h.objs.size ≤ a) : H a = none := by
  cases q : H a with
  | none => rfl
  | some u => exact absurd (Nat.lt_of_lt_of_le (x.lt q) e) (Nat.lt_irrefl _)
/-- every object of the heap is kept -/
theorem HOk.kept (x : HOk P w H h) (k : ∀ b u, h.get? b = some u → h'.get? b = some u) : HOk P w H h' := fun a o e =>
  (x a o e).stay (fun b u _ q => k b u q) (fun _ q => q) fun _ _ q => q
/-- a new object is laid and tracked -/
theorem HOk.laid (x : HOk P w H h) (k : ∀ b u, h.get? b = some u → h'.get? b = some u) (hp : h.objs.size ≤ a) (new : ObjOk P w (upd H a o) h' a o) : HOk P w (upd H a o) h' := fun b u e => by
  have hn := x.fresh hp
  by_cases hb : b = a
  · subst hb; rw [upd_same] at e; cases e; exact new
  · rw [upd_ne hb] at e
    exact (x b u e).stay (fun c v _ q => k c v q) (fun c q => by rw [upd_ne (ne_of_none q hn)]; exact q) fun c xs q => by rw [upd_ne (ne_of_none q hn)]; exact q
end

/-- what may be read as u: it is u, or a known u -/
def Rd (H : Hp) (a : Addr) (u : HO) : Prop := H a = some u ∨ ∃ o, H a = some (.frz o u)
theorem Rd.of {H : Hp} {a : Addr} {u : HO} (h : H a = some u) : Rd H a u := .inl h
theorem Rd.ok {P : Program} {w : World} {H : Hp} {h : Heap} {a : Addr} {u : HO} (r : Rd H a u) (x : HOk P w H h) : ObjOk P w H h a u := by
  rcases r with r | ⟨o, r⟩
  · exact x a u r
  · obtain ⟨_, q⟩ := x a _ r
    exact q
/-- what may be written -/
def Mut : Option HO → Prop
  | some (.lst _) => True
  | some (.dK _) => True
  | some (.dT _) => True
  | some (.set _ _) => True
  | some (.ins _ _ _) => True
  | some (.ext _) => True
  | _ => False
section
variable {P : Program} {w : World} {H : Hp} {h h' : Heap} {x e : Addr} {o' : HO}
/-- the object at e is changed: x itself, or the dict of the instance x -/
theorem HOk.write (ok : HOk P w H h) (mu : Mut (H x)) (he : e = x ∨ H e = some (.own x)) (k : ∀ b u, b ≠ e → h.get? b = some u → h'.get? b = some u) (heo : ∃ u, h'.get? e = some u)
    (new : ObjOk P w (upd H x o') h' x o') : HOk P w (upd H x o') h' := fun b u q => by
  have nown : ∀ c y, H c = some (.own y) → c ≠ x := fun c y r z => by subst z; rw [r] at mu; exact mu
  have ntup : ∀ c xs, H c = some (.tup xs) → c ≠ x := fun c xs r z => by subst z; rw [r] at mu; exact mu
  by_cases hb : b = x
  · subst hb; rw [upd_same] at q; cases q; exact new
  · rw [upd_ne hb] at q
    by_cases hbe : b = e
    · have q' : H b = some (.own x) := by
        rcases he with z | z
        · exact absurd (hbe.trans z) hb
        · rw [hbe]; exact z
      rw [q] at q'; cases q'
      obtain ⟨v, hv⟩ := heo
      exact ⟨v, by rw [hbe]; exact hv⟩
    · refine (ok b u q).stay (fun c v hc r => k c v ?_ r) (fun c r => by rw [upd_ne (nown c b r)]; exact r) fun c xs r => by rw [upd_ne (ntup c xs r)]; exact r
      rcases hc with rfl | hc
      · exact hbe
      · rintro rfl
        rcases he with z | z
        · exact nown c b hc z
        · rw [hc] at z; cases z; exact hb rfl
end

/-! ### kept unless tracked; of the frames at fs (the callers') the slots may change (an exception that passes writes there); of the records at ex (iterators) nothing is said -/
structure Un (fs ex : List Addr) (H H' : Hp) (h h' : Heap) : Prop where
  keep : ∀ b o, h.get? b = some o → H b = none → b ∉ fs → b ∉ ex → h'.get? b = some o
  slot : ∀ b o, h.get? b = some o → H b = none → b ∈ fs → b ∉ ex → ∃ sl, h'.get? b = some { o with slots := sl }
  free : ∀ b o, h.get? b = some o → H b = none → b ∉ ex → H' b = none
  there : ∀ b o, h.get? b = some o → b ∉ ex → ∃ o', h'.get? b = some o'
  tups : ∀ b xs, H b = some (.tup xs) → H' b = some (.tup xs)
  frzs : ∀ b o u, H b = some (.frz o u) → H' b = some (.frz o u)
  tbls : ∀ b ps, H b = some (.tbl ps) → ∃ more, H' b = some (.tbl (ps ++ more))
section
variable {fs fs' ex ex' : List Addr} {H H1 H2 : Hp} {h h1 h2 h' : Heap} {a x e : Addr} {o : HO}
theorem Un.any (u : Un fs ex H H1 h h1) {b : Addr} {ob : Obj} (q : h.get? b = some ob) (n : H b = none) (hx : b ∉ ex) : ∃ sl, h1.get? b = some { ob with slots := sl } := by
  by_cases hb : b ∈ fs
  · exact u.slot b ob q n hb hx
  · exact ⟨ob.slots, u.keep b ob q n hb hx⟩
theorem Un.trans (a : Un fs ex H H1 h h1) (b : Un fs ex H1 H2 h1 h2) : Un fs ex H H2 h h2 where
  keep := fun c ob q n hc hx => b.keep c ob (a.keep c ob q n hc hx) (a.free c ob q n hx) hc hx
  slot := fun c ob q n hc hx => by
    obtain ⟨sl, e1⟩ := a.slot c ob q n hc hx
    obtain ⟨sl', e2⟩ := b.slot c _ e1 (a.free c ob q n hx) hc hx
    exact ⟨sl', e2⟩
  free := fun c ob q n hx => by
    obtain ⟨o', e1⟩ := a.there c ob q hx
    exact b.free c o' e1 (a.free c ob q n hx) hx
  there := fun c ob q hx => by
    obtain ⟨o', e1⟩ := a.there c ob q hx
    exact b.there c o' e1 hx
  tups := fun c xs q => b.tups c xs (a.tups c xs q)
  frzs := fun c ob xs q => b.frzs c ob xs (a.frzs c ob xs q)
  tbls := fun c ps q => by
    obtain ⟨m1, e1⟩ := a.tbls c ps q
    obtain ⟨m2, e2⟩ := b.tbls c _ e1
    exact ⟨m1 ++ m2, by rw [e2, Array.append_assoc]⟩
theorem Un.kept (k : ∀ b u, h.get? b = some u → h'.get? b = some u) : Un fs ex H H h h' :=
  ⟨fun b ob q _ _ _ => k b ob q, fun b ob q _ _ _ => ⟨ob.slots, k b ob q⟩, fun _ _ _ n _ => n, fun b ob q _ => ⟨ob, k b ob q⟩, fun _ _ q => q, fun _ _ _ q => q, fun _ ps q => ⟨#[], by rw [q]; simp⟩⟩
theorem Un.refl : Un fs ex H H h h := Un.kept fun _ _ q => q
theorem Un.laid (k : ∀ b u, h.get? b = some u → h'.get? b = some u) (hp : h.objs.size ≤ a) (hn : H a = none) : Un fs ex H (upd H a o) h h' where
  keep := fun b u q _ _ _ => k b u q
  slot := fun b u q _ _ _ => ⟨u.slots, k b u q⟩
  free := fun b u q n _ => by rw [upd_ne (Nat.ne_of_lt (Nat.lt_of_lt_of_le (Heap.lt_size q) hp))]; exact n
  there := fun b u q _ => ⟨u, k b u q⟩
  tups := fun b xs q => by rw [upd_ne (ne_of_none q hn)]; exact q
  frzs := fun b u xs q => by rw [upd_ne (ne_of_none q hn)]; exact q
  tbls := fun b ps q => ⟨#[], by rw [upd_ne (ne_of_none q hn), q]; simp⟩
theorem Un.write (mu : Mut (H x)) (he : e = x ∨ H e = some (.own x)) (k : ∀ b u, b ≠ e → h.get? b = some u → h'.get? b = some u) (heo : ∃ u, h'.get? e = some u) : Un fs ex H (upd H x o) h h' := by
  have hx : ∀ b, H b = none → b ≠ x := fun b n z => by subst z; rw [n] at mu; exact mu
  have hb : ∀ b, H b = none → b ≠ e := fun b n z => by
    subst z
    rcases he with r | r
    · exact hx b n r
    · rw [n] at r; cases r
  have hm : ∀ b u, H b = some u → ¬ Mut (some u) → b ≠ x := fun b u q nm z => by subst z; rw [q] at mu; exact nm mu
  refine ⟨fun b u q n _ _ => k b u (hb b n) q, fun b u q n _ _ => ⟨u.slots, k b u (hb b n) q⟩, fun b u q n _ => by rw [upd_ne (hx b n)]; exact n, fun b u q _ => ?_,
    fun b xs q => by rw [upd_ne (hm b _ q fun z => z)]; exact q, fun b u xs q => by rw [upd_ne (hm b _ q fun z => z)]; exact q, fun b ps q => ⟨#[], by rw [upd_ne (hm b _ q fun z => z), q]; simp⟩⟩
  by_cases hbe : b = e
  · subst hbe; exact heo
  · exact ⟨u, k b u hbe q⟩
theorem Un.mono (u : Un fs ex H H1 h h1) (hs : ∀ b ∈ fs, b ∈ fs') (hx : ∀ b ∈ ex, b ∈ ex') : Un fs' ex' H H1 h h1 :=
  ⟨fun b ob q n hb he => u.keep b ob q n (fun z => hb (hs b z)) fun z => he (hx b z), fun _ _ q n _ he => u.any q n fun z => he (hx _ z), fun b ob q n he => u.free b ob q n fun z => he (hx b z), fun b ob q he => u.there b ob q fun z => he (hx b z), u.tups, u.frzs, u.tbls⟩
end

/-! ### the heap without what is tracked -/
def trk (h : Heap) (H : Hp) : List Addr := (List.range h.objs.size).filter fun a => (H a).isSome
def hidT (h : Heap) (H : Hp) : Heap := PySem.W.hideAll h (trk h H)
theorem hidT_size (h : Heap) (H : Hp) : (hidT h H).objs.size = h.objs.size := PySem.W.hideAll_size _ _
theorem hidT_get {h : Heap} {H : Hp} {b : Addr} {o : Obj} (e : h.get? b = some o) (n : H b = none) : (hidT h H).get? b = some o :=
  PySem.W.hideAll_get _ e fun hm => by
    have q : (H b).isSome = true := (List.mem_filter.mp hm).2
    rw [n] at q; simp at q
theorem of_hidT {h : Heap} {H : Hp} {b : Addr} {o : Obj} (e : (hidT h H).get? b = some o) : h.get? b = some o ∧ H b = none := by
  have e' : h.get? b = some o := PySem.W.of_hideAll (trk h H) e
  refine ⟨e', ?_⟩
  cases q : H b with
  | none => rfl
  | some x =>
    have hm : b ∈ trk h H := List.mem_filter.mpr ⟨List.mem_range.mpr (Heap.lt_size e'), by simp [q]⟩
    have z : (hidT h H).get? b = none := PySem.W.hideAll_none (trk h H) hm
    rw [z] at e; cases e

/-! ### OpenK's ledger, filled with every new object but one -/
def allNews (g h : Heap) (L : Addr) : List (Addr × Obj) := (List.range h.objs.size).filterMap fun a => if a = L ∨ (g.get? a).isSome = true then none else (h.get? a).map fun o => (a, o)
theorem mem_allNews {g h : Heap} {L a : Addr} {o : Obj} (h1 : a ≠ L) (h2 : g.get? a = none) (h3 : h.get? a = some o) : (a, o) ∈ allNews g h L :=
  List.mem_filterMap.mpr ⟨a, List.mem_range.mpr (Heap.lt_size h3), by simp [h1, h2, h3]⟩
theorem of_mem_allNews {g h : Heap} {L : Addr} {p : Addr × Obj} (hp : p ∈ allNews g h L) : p.1 ≠ L ∧ g.get? p.1 = none ∧ h.get? p.1 = some p.2 := by
  obtain ⟨b, _, e⟩ := List.mem_filterMap.mp hp
  split at e
  · cases e
  · rename_i hn
    cases q : h.get? b with
    | none => rw [q] at e; simp at e
    | some u =>
      rw [q] at e
      simp only [Option.map_some, Option.some.injEq] at e
      subst e
      refine ⟨fun z => hn (.inl z), ?_, q⟩
      show g.get? b = none
      cases r : g.get? b with
      | none => rfl
      | some v => exact (hn (.inr (by simp [r]))).elim
def rest (g h : Heap) (L d : Addr) : List (Addr × Obj) := (allNews g h L).filter fun p => decide (p.1 ≠ d)
theorem rest_ne {g h : Heap} {L d : Addr} : ∀ p ∈ rest g h L d, p.1 ≠ d := fun p hp => of_decide_eq_true (List.mem_filter.mp hp).2
theorem mem_rest {g h : Heap} {L d a : Addr} {o : Obj} (h1 : a ≠ L) (h2 : g.get? a = none) (h3 : h.get? a = some o) (h4 : a ≠ d) : (a, o) ∈ rest g h L d :=
  List.mem_filter.mpr ⟨mem_allNews h1 h2 h3, decide_eq_true h4⟩
theorem news_all {g h : Heap} {L : Addr} : News g L h (allNews g h L) := fun p hp => let ⟨a, b, c⟩ := of_mem_allNews hp; ⟨c, a, b⟩
theorem news_at {g h : Heap} {L d : Addr} {o : Obj} (h1 : d ≠ L) (h2 : g.get? d = none) (h3 : h.get? d = some o) : News g L h ((d, o) :: rest g h L d) := fun p hp => by
  rcases List.mem_cons.mp hp with rfl | hp
  · exact ⟨h3, h1, h2⟩
  · exact news_all p (List.mem_filter.mp hp).1
/-- behind a rule that changed d alone: all else but the frame is kept -/
theorem kept_of_news {g h h' : Heap} {L d : Addr} {m : Str → Option Value} (k : ∀ b o, g.get? b = some o → h.get? b = some o) (F : Fr g L h' m) (N : News g L h' (rest g h L d)) :
    ∀ b o, b ≠ L → b ≠ d → h.get? b = some o → h'.get? b = some o := fun b o h1 h2 e => by
  cases q : g.get? b with
  | some u =>
    have := k b u q
    rw [e] at this; cases this
    exact F.keep b _ q
  | none => exact (N (b, o) (mem_rest h1 q e h2)).1
end L2

namespace L2
open PySem PySem.Spec PyProof.Rows

/-- the module's facts, over the base: the heap at the law's entry without what is tracked there -/
structure Mod (K : PySem.W.Frag) (mg : Str → Option Value) (base : Heap) : Prop where
  kin : K.In base
  glob : base.Ns mainGlobals mg
  blt : ∃ mb, base.Ns builtinsNs mb ∧ ∀ x : Str, x ≠ "__name__" → mb x = bootBuiltins x
  nolimit : base.NoLimit

/-- the context: a def's body (or a comprehension's block) running. base: fixed through the whole law; s₀, H₀: the entry; outer: the frames whose slots others may change (a def's callers); stack: all frames that run;
   ex: iterators that were made ahead of the entry and are walked here (a comprehension's); fn: the names whose cells were made at the entry (a def: all; a comprehension's block: its own); calm: not within an except suite; pn: pins that every state bears; xe: what is wanted of an exception that leaves the code -/
structure Cx where
  prog : Program
  w : World
  K : PySem.W.Frag
  mg : Str → Option Value
  base : Heap
  A : Around
  N : List Str
  s₀ : Shared
  H₀ : Hp
  env : Env
  outer : List Env
  stack : List Env
  ex : List Addr
  fn : Str → Bool
  calm : Bool
  pn : List (Addr × Obj)
  xe : Value → Shared → Prop
/-- the callers' frames -/
def frs (l : List Env) : List Addr := l.filterMap (·.frame)
abbrev Cx.fs (X : Cx) : List Addr := frs X.outer

def Vis (sc : Scope) (x : Str) : Prop := sc.names.lookup x = some .local ∨ sc.names.lookup x = some .cell ∨ sc.names.lookup x = some .free
def Loc (sc : Scope) (x : Str) : Prop := sc.names.lookup x = some .local ∨ sc.names.lookup x = some .cell
def Look (env : Env) (h : Heap) (m : Str → Option Value) (x : Str) (u : Value) : Prop :=
  (env.kindOf x = some .local ∧ m x = some u) ∨ ((env.kindOf x = some .cell ∨ env.kindOf x = some .free) ∧ ∃ c, env.cells.lookup x = some c ∧ h.IsCell c (some u))

structure Cx.Ok (X : Cx) : Prop where
  mod : Mod X.K X.mg X.base
  kind : X.env.scope.kind = .function
  glob : X.env.globals = mainGlobals
  blt : X.env.builtins = builtinsNs
  above : X.s₀.heap.objs.size ≤ X.env.locals
  inj : ∀ x y c, X.env.cells.lookup x = some c → X.env.cells.lookup y = some c → x = y
  has : ∀ x, (X.env.kindOf x = some .cell ∨ X.env.kindOf x = some .free) → ∃ c, X.env.cells.lookup x = some c
  cab : ∀ x c, X.fn x = true → X.env.cells.lookup x = some c → X.s₀.heap.objs.size ≤ c
  hd : X.calm = true → X.A.handled = none
  frames : X.A.frames = some X.stack
  stk : X.stack = X.outer ∨ (X.stack = X.env :: X.outer ∧ X.env.frame = some X.env.locals)
  exf : ∀ b ∈ X.ex, b ≠ X.env.locals ∧ ∀ x c, X.env.cells.lookup x = some c → c ≠ b
  bs : ∀ b o, X.base.get? b = some o → X.s₀.heap.get? b = some o ∧ X.H₀ b = none
  bsz : X.base.objs.size ≤ X.s₀.heap.objs.size
  noex : ∀ b o, X.base.get? b = some o → b ∉ X.ex
  exfs : ∀ b ∈ X.ex, b ∉ X.fs
  funs : X.s₀.heap.FunFrames X.base X.outer
  frf : ∀ b ∈ X.fs, X.H₀ b = none

structure Inv (X : Cx) (pins : List (Addr × Obj)) (σ : List (Option V)) (H : Hp) (s : Shared) : Prop where
  ok : X.Ok
  os : s.os = X.s₀.os
  bare : AllBare s.gens
  base : Un X.fs X.ex X.H₀ H X.s₀.heap s.heap
  loc : ∃ m, s.heap.Ns X.env.locals m ∧ ∀ (i : Nat) (x : Str) (v : V), X.N[i]? = some x → σ[i]? = some (some v) → Vis X.env.scope x → ∃ u, RelV v u ∧ Look X.env s.heap m x u
  cell : ∀ x c, X.env.cells.lookup x = some c → ∃ v, s.heap.IsCell c v
  free : H X.env.locals = none
  freeC : ∀ x c, X.env.cells.lookup x = some c → H c = none
  pin : ∀ p ∈ X.pn ++ pins, s.heap.get? p.1 = some p.2 ∧ H p.1 = none ∧ p.1 ≠ X.env.locals ∧ p.1 ∉ X.fs ∧ ∀ v, p.2.data ≠ .cell v
  hok : HOk X.prog X.w H s.heap
  len : σ.length = X.N.length

section
variable {X : Cx} {pins : List (Addr × Obj)} {σ : List (Option V)} {H H' : Hp} {s : Shared} {h' : Heap}

theorem Cx.Ok.nofr (ok : X.Ok) {b : Addr} {o : Obj} (e : X.base.get? b = some o) : b ∉ X.fs := fun hb => by
  have := (ok.funs.mem hb).1
  rw [e] at this; cases this
theorem Inv.bs (I : Inv X pins σ H s) : ∀ b o, X.base.get? b = some o → s.heap.get? b = some o ∧ H b = none := fun b o e =>
  ⟨I.base.keep b o (I.ok.bs b o e).1 (I.ok.bs b o e).2 (I.ok.nofr e) (I.ok.noex b o e), I.base.free b o (I.ok.bs b o e).1 (I.ok.bs b o e).2 (I.ok.noex b o e)⟩
theorem Inv.bk (I : Inv X pins σ H s) : ∀ b o, X.base.get? b = some o → s.heap.get? b = some o := fun b o e => (I.bs b o e).1
theorem Inv.mod (I : Inv X pins σ H s) : Mod X.K X.mg X.base := I.ok.mod
theorem Inv.kIn (I : Inv X pins σ H s) : X.K.In s.heap := I.ok.mod.kin.keeps I.bk
theorem Inv.nolimit (I : Inv X pins σ H s) : s.heap.NoLimit := I.ok.mod.nolimit.keeps I.bk
/-- the frame over the base: for OpenK's rules (K.In X.base is I.mod.kin) -/
theorem Inv.fr (I : Inv X pins σ H s) : ∃ m, Fr X.base X.env.locals s.heap m :=
  let ⟨m, hn, _⟩ := I.loc
  ⟨m, hn, I.bk, Nat.le_trans I.ok.bsz I.ok.above⟩
theorem Inv.lt (I : Inv X pins σ H s) : X.env.locals < s.heap.objs.size := let ⟨_, hn, _⟩ := I.loc; hn.lt
theorem Inv.sz (I : Inv X pins σ H s) : X.s₀.heap.objs.size ≤ s.heap.objs.size := Nat.le_trans I.ok.above (Nat.le_of_lt I.lt)
theorem Inv.nofs (I : Inv X pins σ H s) {a : Addr} (h : s.heap.objs.size ≤ a) : a ∉ X.fs := fun hb => by
  obtain ⟨_, o, ho, _⟩ := I.ok.funs.mem hb
  exact absurd (Nat.lt_of_lt_of_le (Heap.lt_size ho) (Nat.le_trans I.sz h)) (Nat.lt_irrefl _)
theorem Inv.cne (I : Inv X pins σ H s) : ∀ x c, X.env.cells.lookup x = some c → c ≠ X.env.locals := fun x c e z => by
  obtain ⟨v, o, ho, hd⟩ := I.cell x c e
  obtain ⟨m, ⟨o', es, ep, ho', hd', _⟩, _⟩ := I.loc
  rw [z, ho'] at ho; cases ho; rw [hd'] at hd; cases hd
theorem Inv.funs (I : Inv X pins σ H s) : s.heap.FunFrames X.base X.outer := by
  have all : ∀ (l : List Env), (∀ b ∈ frs l, b ∈ X.fs) → X.s₀.heap.FunFrames X.base l → s.heap.FunFrames X.base l := by
    intro l
    induction l with
    | nil => intro _ _; trivial
    | cons env r ih =>
      intro hs hl
      obtain ⟨hk, ⟨L, o, hf, hn, ho, hd⟩, hr⟩ := hl
      have hL : L ∈ X.fs := hs L (by unfold frs; rw [List.filterMap_cons, hf]; exact List.mem_cons_self)
      obtain ⟨sl, e⟩ := I.base.slot L o ho (I.ok.frf L hL) hL fun z => I.ok.exfs L z hL
      exact ⟨hk, ⟨L, _, hf, hn, e, hd⟩, ih (fun b hb => hs b (by unfold frs; rw [List.filterMap_cons, hf]; exact List.mem_cons_of_mem _ hb)) hr⟩
  exact all X.outer (fun _ hb => hb) I.ok.funs

/-- the frames that run, for a call -/
theorem Inv.stack (I : Inv X pins σ H s) : s.heap.FunFrames X.base X.stack := by
  rcases I.ok.stk with e | ⟨e, hf⟩
  · rw [e]; exact I.funs
  · rw [e]
    obtain ⟨m, hn, _⟩ := I.loc
    refine .cons (by rw [I.ok.kind]; decide) hf hn ?_ I.funs
    exact Heap.get?_none_of_le (Nat.le_trans I.ok.bsz I.ok.above)
theorem Inv.stkSub (I : Inv X pins σ H s) : ∀ b ∈ frs X.stack, b ∈ X.env.locals :: X.fs := fun b hb => by
  rcases I.ok.stk with e | ⟨e, hf⟩
  · rw [e] at hb; exact List.mem_cons_of_mem _ hb
  · rw [e] at hb
    unfold frs at hb
    rw [List.filterMap_cons, hf] at hb
    exact hb
theorem Inv.stkFree (I : Inv X pins σ H s) : ∀ b ∈ frs X.stack, H b = none := fun b hb => by
  rcases List.mem_cons.mp (I.stkSub b hb) with e | hb
  · rw [e]; exact I.free
  · obtain ⟨_, o, ho, _⟩ := I.ok.funs.mem hb
    exact I.base.free b o ho (I.ok.frf b hb) fun z => I.ok.exfs b z hb

/-- THE STEP: the untracked objects but the frame and the records at ch are kept (the callers' frames up to slots), the frame's map is kept, the new abstract heap is held -/
theorem Inv.step {g' : Array GenState} {t' : Nat} {d' : Drawn} {ch : List Addr} (I : Inv X pins σ H s)
    (hch : ∀ b ∈ ch, (b ∈ X.ex ∨ X.s₀.heap.objs.size ≤ b) ∧ b ≠ X.env.locals ∧ (∀ x c, X.env.cells.lookup x = some c → c ≠ b) ∧ ∀ p ∈ X.pn ++ pins, p.1 ≠ b)
    (keep : ∀ b o, b ≠ X.env.locals → b ∉ X.fs → b ∉ ch → s.heap.get? b = some o → H b = none → h'.get? b = some o)
    (slot : ∀ b o, b ≠ X.env.locals → b ∈ X.fs → b ∉ ch → s.heap.get? b = some o → H b = none → ∃ sl, h'.get? b = some { o with slots := sl }) (free : ∀ b o, b ∉ ch → s.heap.get? b = some o → H b = none → H' b = none)
    (there : ∀ b o, b ∉ ch → s.heap.get? b = some o → ∃ o', h'.get? b = some o')
    (tups : ∀ b xs, H b = some (.tup xs) → H' b = some (.tup xs)) (frzs : ∀ b o u, H b = some (.frz o u) → H' b = some (.frz o u)) (tbls : ∀ b ps, H b = some (.tbl ps) → ∃ more, H' b = some (.tbl (ps ++ more)))
    (ns : ∀ m, s.heap.Ns X.env.locals m → h'.Ns X.env.locals m) (hok : HOk X.prog X.w H' h') (hg : AllBare g') :
    Inv X pins σ H' { s with heap := h', gens := g', drawn := d', toks := t' } := by
  have neL : ∀ b o, X.s₀.heap.get? b = some o → b ≠ X.env.locals := fun b o e => Nat.ne_of_lt (Nat.lt_of_lt_of_le (Heap.lt_size e) I.ok.above)
  have neC : ∀ b o, X.s₀.heap.get? b = some o → b ∉ X.ex → b ∉ ch := fun b o e hx hb => by
    rcases (hch b hb).1 with z | z
    · exact hx z
    · exact absurd (Nat.lt_of_lt_of_le (Heap.lt_size e) z) (Nat.lt_irrefl _)
  have cellK : ∀ x c, X.env.cells.lookup x = some c → ∀ v, s.heap.IsCell c v → h'.IsCell c v := fun x c e v ⟨o, ho, hd⟩ => by
    have nch : c ∉ ch := fun z => (hch c z).2.2.1 x c e rfl
    by_cases hc : c ∈ X.fs
    · obtain ⟨sl, q⟩ := slot c o (I.cne x c e) hc nch ho (I.freeC x c e)
      exact ⟨_, q, hd⟩
    · exact ⟨o, keep c o (I.cne x c e) hc nch ho (I.freeC x c e), hd⟩
  refine ⟨I.ok, I.os, hg, ⟨fun b o e n hb hx => ?_, fun b o e n hb hx => ?_, fun b o e n hx => ?_, fun b o e hx => ?_, fun b xs e => tups b xs (I.base.tups b xs e), fun b o xs e => frzs b o xs (I.base.frzs b o xs e), fun b ps e => ?_⟩, ?_, fun x c e => ?_, ?_, fun x c e => ?_, fun p hp => ?_, hok, I.len⟩
  · exact keep b o (neL b o e) hb (neC b o e hx) (I.base.keep b o e n hb hx) (I.base.free b o e n hx)
  · obtain ⟨sl, e1⟩ := I.base.slot b o e n hb hx
    obtain ⟨sl', e2⟩ := slot b _ (neL b o e) hb (neC b o e hx) e1 (I.base.free b o e n hx)
    exact ⟨sl', e2⟩
  · obtain ⟨o', e1⟩ := I.base.there b o e hx
    exact free b o' (neC b o e hx) e1 (I.base.free b o e n hx)
  · obtain ⟨o', e1⟩ := I.base.there b o e hx
    exact there b o' (neC b o e hx) e1
  · obtain ⟨m1, e1⟩ := I.base.tbls b ps e
    obtain ⟨m2, e2⟩ := tbls b _ e1
    exact ⟨m1 ++ m2, by rw [e2, Array.append_assoc]⟩
  · obtain ⟨m, hn, hl⟩ := I.loc
    refine ⟨m, ns m hn, fun i x v e1 e2 e3 => ?_⟩
    obtain ⟨u, r, l⟩ := hl i x v e1 e2 e3
    refine ⟨u, r, ?_⟩
    rcases l with l | ⟨k, c, e, z⟩
    · exact .inl l
    · exact .inr ⟨k, c, e, cellK x c e _ z⟩
  · obtain ⟨v, z⟩ := I.cell x c e
    exact ⟨v, cellK x c e v z⟩
  · obtain ⟨m, ⟨o, _, _, ho, _⟩, _⟩ := I.loc
    exact free _ o (fun z => (hch _ z).2.1 rfl) ho I.free
  · obtain ⟨v, o, ho, hd⟩ := I.cell x c e
    exact free c o (fun z => (hch c z).2.2.1 x c e rfl) ho (I.freeC x c e)
  · obtain ⟨e, n, ne, nf, d⟩ := I.pin p hp
    have nch : p.1 ∉ ch := fun z => (hch p.1 z).2.2.2 p hp rfl
    exact ⟨keep p.1 p.2 ne nf nch e n, free p.1 p.2 nch e n, ne, nf, d⟩
/-- .. where the frame's own object is kept too -/
theorem Inv.un {t' : Nat} (I : Inv X pins σ H s) (u : Un X.fs [] H H' s.heap h') (hok : HOk X.prog X.w H' h') : Inv X pins σ H' { s with heap := h', toks := t' } := by
  obtain ⟨m, ⟨o, es, ep, ho, r⟩, _⟩ := id I.loc
  obtain ⟨sl, hL⟩ := u.any ho I.free (by simp)
  exact I.step (g' := s.gens) (d' := s.drawn) (ch := []) (fun _ z => nomatch z) (fun b o _ hb _ e n => u.keep b o e n hb (by simp)) (fun b o _ hb _ e n => u.slot b o e n hb (by simp)) (fun b o _ e n => u.free b o e n (by simp)) (fun b o _ e => u.there b o e (by simp)) u.tups u.frzs u.tbls (fun m' hm => by
    obtain ⟨o', es', ep', ho', r'⟩ := hm
    rw [ho] at ho'; cases ho'
    exact ⟨_, es', ep', hL, r'⟩) hok I.bare
/-- behind a call (or a comprehension's block): the slots of this frame may have changed too, the records at ch may have turned -/
theorem Inv.call {g' : Array GenState} {t' : Nat} {d' : Drawn} {ch : List Addr} (I : Inv X pins σ H s) (u : Un (frs X.stack) ch H H' s.heap h') (hok : HOk X.prog X.w H' h') (hg : AllBare g')
    (hch : ∀ b ∈ ch, (b ∈ X.ex ∨ X.s₀.heap.objs.size ≤ b) ∧ b ≠ X.env.locals ∧ (∀ x c, X.env.cells.lookup x = some c → c ≠ b) ∧ ∀ p ∈ X.pn ++ pins, p.1 ≠ b) :
    Inv X pins σ H' { s with heap := h', gens := g', drawn := d', toks := t' } := by
  obtain ⟨m, ⟨o, es, ep, ho, r⟩, _⟩ := id I.loc
  obtain ⟨sl, hL⟩ := u.any ho I.free fun z => (hch _ z).2.1 rfl
  exact I.step (ch := ch) hch (fun b o hL hb hc e n => u.keep b o e n (fun z => (List.mem_cons.mp (I.stkSub b z)).elim hL hb) hc) (fun b o _ _ hc e n => u.any e n hc) (fun b o hc e n => u.free b o e n hc) (fun b o hc e => u.there b o e hc) u.tups u.frzs u.tbls (fun m' hm => by
    obtain ⟨o', es', ep', ho', r'⟩ := hm
    rw [ho] at ho'; cases ho'
    exact ⟨_, es', ep', hL, r'⟩) hok hg
/-- an untracked record of ours (an iterator) has turned -/
theorem Inv.turned {t' : Nat} {it : Addr} (I : Inv X pins σ H s) (k : ∀ b o, b ≠ it → s.heap.get? b = some o → h'.get? b = some o) (hn : H it = none) (hL : it ≠ X.env.locals)
    (h1 : it ∈ X.ex ∨ X.s₀.heap.objs.size ≤ it) (h2 : ∀ x c, X.env.cells.lookup x = some c → c ≠ it) (h3 : ∀ p ∈ X.pn ++ pins, p.1 ≠ it) : Inv X pins σ H { s with heap := h', toks := t' } := by
  have nit : ∀ b u, H b = some u → b ≠ it := fun b u e z => by rw [z, hn] at e; cases e
  refine I.step (g' := s.gens) (d' := s.drawn) (ch := [it]) (fun b hb => ?_) (fun b o _ _ hc e _ => k b o (fun z => hc (by simp [z])) e) (fun b o _ _ hc e _ => ⟨o.slots, k b o (fun z => hc (by simp [z])) e⟩) (fun _ _ _ _ n => n)
    (fun b o hc e => ⟨o, k b o (fun z => hc (by simp [z])) e⟩) (fun _ _ e => e) (fun _ _ _ e => e) (fun b ps e => ⟨#[], by rw [e]; simp⟩) (fun m hm => ?_) (fun b u e => ?_) I.bare
  · have e : b = it := by simpa using hb
    subst e
    exact ⟨h1, hL, h2, h3⟩
  · obtain ⟨o, es, ep, ho, r⟩ := hm
    exact ⟨o, es, ep, k _ o (Ne.symm hL) ho, r⟩
  · refine (I.hok b u e).stay (fun c v hc q => k c v ?_ q) (fun _ q => q) fun _ _ q => q
    rcases hc with z | z
    · rw [z]; exact nit b u e
    · exact nit c _ z
theorem Inv.tok (I : Inv X pins σ H s) (t : Nat) : Inv X pins σ H { s with toks := t } := I.un (h' := s.heap) (t' := t) Un.refl I.hok
/-- all objects kept -/
theorem Inv.kept {t' : Nat} (I : Inv X pins σ H s) (k : ∀ b u, s.heap.get? b = some u → h'.get? b = some u) : Inv X pins σ H { s with heap := h', toks := t' } := I.un (Un.kept k) (I.hok.kept k)
/-- a new object laid and tracked -/
theorem Inv.laid {a : Addr} {o : HO} {t' : Nat} (I : Inv X pins σ H s) (k : ∀ b u, s.heap.get? b = some u → h'.get? b = some u) (hp : s.heap.objs.size ≤ a) (new : ObjOk X.prog X.w (upd H a o) h' a o) :
    Inv X pins σ (upd H a o) { s with heap := h', toks := t' } := I.un (Un.laid k hp (I.hok.fresh hp)) (I.hok.laid k hp new)
/-- an object written -/
theorem Inv.write {x e : Addr} {o : HO} {t' : Nat} (I : Inv X pins σ H s) (mu : Mut (H x)) (he : e = x ∨ H e = some (.own x)) (k : ∀ b u, b ≠ e → s.heap.get? b = some u → h'.get? b = some u) (heo : ∃ u, h'.get? e = some u)
    (new : ObjOk X.prog X.w (upd H x o) h' x o) : Inv X pins σ (upd H x o) { s with heap := h', toks := t' } := I.un (Un.write mu he k heo) (I.hok.write mu he k heo new)
/-- forgetting slots, pins -/
theorem Inv.weak {σ' : List (Option V)} (I : Inv X pins σ H s) (hl : σ'.length = σ.length) (w : ∀ (i : Nat) v, σ'[i]? = some (some v) → σ[i]? = some (some v)) : Inv X pins σ' H s :=
  ⟨I.ok, I.os, I.bare, I.base, let ⟨m, hn, hl'⟩ := I.loc; ⟨m, hn, fun i x v e1 e2 e3 => hl' i x v e1 (w i v e2) e3⟩, I.cell, I.free, I.freeC, I.pin, I.hok, hl.trans I.len⟩
theorem Inv.pins_of {pins' : List (Addr × Obj)} (I : Inv X pins σ H s) (h : ∀ p ∈ pins', s.heap.get? p.1 = some p.2 ∧ H p.1 = none ∧ p.1 ≠ X.env.locals ∧ p.1 ∉ X.fs ∧ ∀ v, p.2.data ≠ .cell v) : Inv X pins' σ H s :=
  ⟨I.ok, I.os, I.bare, I.base, I.loc, I.cell, I.free, I.freeC, fun p hp => (List.mem_append.mp hp).elim (fun z => I.pin p (List.mem_append_left _ z)) (h p), I.hok, I.len⟩

theorem nodup_ix {N : List Str} (hN : N.Nodup) {i j : Nat} {x : Str} (a : N[i]? = some x) (b : N[j]? = some x) : i = j := by
  obtain ⟨h1, e1⟩ := List.getElem?_eq_some_iff.mp a
  obtain ⟨h2, e2⟩ := List.getElem?_eq_some_iff.mp b
  exact (List.getElem_inj hN).mp (e1.trans e2.symm)

/-- a name is stored; what changed -/
theorem store_ok2 {M : Model} {A : Around} {E : Value → Shared → Prop} {i : Nat} {x : Str} {v : V} {u : Value} {Q : Unit → Shared → Prop} (I : Inv X pins σ H s) (hN : X.N.Nodup) (hi : X.N[i]? = some x) (hx : Loc X.env.scope x) (r : RelV v u)
    (h : ∀ s', Inv X pins (σ.set i (some v)) H s' → (∃ a, Heap.SameBut a s.heap s'.heap ∧ (a = X.env.locals ∨ X.env.cells.lookup x = some a)) → Q () s') (hf : X.fn x = true ∨ X.env.scope.names.lookup x = some .local := by first | exact .inl rfl | exact .inr rfl | assumption) : wpAny M A (storeName X.env x u) Q E s := by
  obtain ⟨m, hn, hl⟩ := id I.loc
  have hcls : (X.env.scope.kind == .class || (X.env.scope.kind == .module && X.env.locals != X.env.globals)) = false := by rw [I.ok.kind]; rfl
  have hiσ : i < σ.length := by rw [I.len]; exact (List.getElem?_eq_some_iff.mp hi).1
  have cne := I.cne
  have tracked : ∀ {a : Addr} {h' : Heap}, (∃ o, s.heap.get? a = some o ∧ H a = none) → Heap.SameBut a s.heap h' → HOk X.prog X.w H h' := fun {a h'} ha hs b ob e => by
    obtain ⟨_, _, hfree⟩ := ha
    refine (I.hok b ob e).stay (fun c w' hc q => (hs.2 c ?_).trans q) (fun _ q => q) fun _ _ q => q
    rintro rfl
    rcases hc with rfl | hc
    · rw [hfree] at e; cases e
    · rw [hfree] at hc; cases hc
  rcases hx with hk | hk
  · refine wpAny_storeName_local hk hn (fun h' hn' hs => ?_) hcls
    obtain ⟨oL, _, _, hoL, _⟩ := id hn
    refine h _ ⟨I.ok, I.os, I.bare, ⟨fun b o e n hb hx => ?_, fun b o e n hb hx => ?_, I.base.free, fun b o e hx => ?_, I.base.tups, I.base.frzs, I.base.tbls⟩, ⟨_, hn', fun j y v' e1 e2 e3 => ?_⟩, fun y c e => ?_, I.free, I.freeC, fun p hp => ?_, tracked ⟨oL, hoL, I.free⟩ hs, by simpa using I.len⟩ ⟨_, hs, .inl rfl⟩
    · exact (hs.2 b (Nat.ne_of_lt (Nat.lt_of_lt_of_le (Heap.lt_size e) I.ok.above))).trans (I.base.keep b o e n hb hx)
    · obtain ⟨sl, e1⟩ := I.base.slot b o e n hb hx
      exact ⟨sl, (hs.2 b (Nat.ne_of_lt (Nat.lt_of_lt_of_le (Heap.lt_size e) I.ok.above))).trans e1⟩
    · obtain ⟨o', e1⟩ := I.base.there b o e hx
      exact ⟨o', (hs.2 b (Nat.ne_of_lt (Nat.lt_of_lt_of_le (Heap.lt_size e) I.ok.above))).trans e1⟩
    · by_cases hj : j = i
      · subst hj
        rw [hi] at e1; cases e1
        rw [List.getElem?_set_self hiσ] at e2
        cases e2
        exact ⟨u, r, .inl ⟨hk, by simp⟩⟩
      · rw [List.getElem?_set_ne (Ne.symm hj)] at e2
        obtain ⟨u', r', q⟩ := hl j y v' e1 e2 e3
        refine ⟨u', r', ?_⟩
        rcases q with ⟨k, e⟩ | ⟨k, c, e, z⟩
        · refine .inl ⟨k, ?_⟩
          have : y ≠ x := fun e => hj (nodup_ix hN e1 (e ▸ hi))
          simp [this, e]
        · exact .inr ⟨k, c, e, z.sameBut hs (cne y c e)⟩
    · obtain ⟨w', z⟩ := I.cell y c e
      exact ⟨w', z.sameBut hs (cne y c e)⟩
    · obtain ⟨e, n, ne, nf, d⟩ := I.pin p hp
      exact ⟨(hs.2 p.1 ne).trans e, n, ne, nf, d⟩
  · have hfn : X.fn x = true := by
      rcases hf with z | z
      · exact z
      · rw [z] at hk; cases hk
    obtain ⟨c, hc⟩ := I.ok.has x (.inl hk)
    obtain ⟨w', z⟩ := I.cell x c hc
    refine wpAny_storeName_cell I.ok.kind hk hc z (fun h' hc' hs => ?_)
    obtain ⟨oc, hoc, hocd⟩ := id z
    refine h { s with heap := h' } ⟨I.ok, I.os, I.bare, ⟨fun b o e n hb hx => ?_, fun b o e n hb hx => ?_, I.base.free, fun b o e hx => ?_, I.base.tups, I.base.frzs, I.base.tbls⟩, ⟨m, hn.sameBut hs (Ne.symm (cne x c hc)), fun j y v' e1 e2 e3 => ?_⟩, fun y c' e => ?_, I.free, I.freeC, fun p hp => ?_, tracked ⟨oc, hoc, I.freeC x c hc⟩ hs, by simpa using I.len⟩ ⟨c, hs, .inr hc⟩
    · exact (hs.2 b (Nat.ne_of_lt (Nat.lt_of_lt_of_le (Heap.lt_size e) (I.ok.cab x c hfn hc)))).trans (I.base.keep b o e n hb hx)
    · obtain ⟨sl, e1⟩ := I.base.slot b o e n hb hx
      exact ⟨sl, (hs.2 b (Nat.ne_of_lt (Nat.lt_of_lt_of_le (Heap.lt_size e) (I.ok.cab x c hfn hc)))).trans e1⟩
    · obtain ⟨o', e1⟩ := I.base.there b o e hx
      exact ⟨o', (hs.2 b (Nat.ne_of_lt (Nat.lt_of_lt_of_le (Heap.lt_size e) (I.ok.cab x c hfn hc)))).trans e1⟩
    · by_cases hj : j = i
      · subst hj
        rw [hi] at e1; cases e1
        rw [List.getElem?_set_self hiσ] at e2
        cases e2
        exact ⟨u, r, .inr ⟨.inl hk, c, hc, hc'⟩⟩
      · rw [List.getElem?_set_ne (Ne.symm hj)] at e2
        obtain ⟨u', r', q⟩ := hl j y v' e1 e2 e3
        refine ⟨u', r', ?_⟩
        rcases q with q | ⟨k, c', e, z'⟩
        · exact .inl q
        · refine .inr ⟨k, c', e, z'.sameBut hs ?_⟩
          rintro rfl
          exact hj (nodup_ix hN e1 (I.ok.inj _ _ _ e hc ▸ hi))
    · by_cases hcc : c' = c
      · subst hcc; exact ⟨_, hc'⟩
      · obtain ⟨w2, z2⟩ := I.cell y c' e
        exact ⟨w2, z2.sameBut hs hcc⟩
    · obtain ⟨e, n, ne, nf, d⟩ := I.pin p hp
      refine ⟨(hs.2 p.1 ?_).trans e, n, ne, nf, d⟩
      intro q
      rw [q, hoc] at e
      have q' : oc = p.2 := Option.some.inj e
      exact d w' (by rw [← q']; exact hocd)
theorem store_ok {M : Model} {A : Around} {E : Value → Shared → Prop} {i : Nat} {x : Str} {v : V} {u : Value} {Q : Unit → Shared → Prop} (I : Inv X pins σ H s) (hN : X.N.Nodup) (hi : X.N[i]? = some x) (hx : Loc X.env.scope x) (r : RelV v u)
    (h : ∀ s', Inv X pins (σ.set i (some v)) H s' → Q () s') (hf : X.fn x = true ∨ X.env.scope.names.lookup x = some .local := by first | exact .inl rfl | exact .inr rfl | assumption) : wpAny M A (storeName X.env x u) Q E s :=
  store_ok2 I hN hi hx r (fun s' I' _ => h s' I') hf
/-- behind a call or a block, the state as it is -/
theorem Inv.call' {s' : Shared} {ch : List Addr} (I : Inv X pins σ H s) (ho : s'.os = s.os) (u : Un (frs X.stack) ch H H' s.heap s'.heap) (hok : HOk X.prog X.w H' s'.heap) (hg : AllBare s'.gens)
    (hch : ∀ b ∈ ch, (b ∈ X.ex ∨ X.s₀.heap.objs.size ≤ b) ∧ b ≠ X.env.locals ∧ (∀ x c, X.env.cells.lookup x = some c → c ≠ b) ∧ ∀ p ∈ X.pn ++ pins, p.1 ≠ b) : Inv X pins σ H' s' := by
  obtain ⟨h', g', d', t', o'⟩ := s'
  have e : o' = s.os := ho
  subst e
  exact I.call (g' := g') (t' := t') (d' := d') u hok hg hch
end

/-! ### the judgements -/
/-- an exception: its class, its own dict's address (where it has one), the abstract heap behind it -/
abbrev XK := Value → Option Addr → Hp → Prop
abbrev St := List (Option V)
abbrev VK := V → Hp → Prop
/-- an expression's reading; a test's; an argument list's -/
abbrev TE := St → Hp → VK → Prop
abbrev TT := St → Hp → (Bool → Hp → Prop) → Prop
abbrev TA := St → Hp → (List V → Hp → Prop) → Prop
/-- what is wanted behind a statement -/
structure Ends where
  nx : St → Hp → Prop
  rt : VK
  bk : St → Hp → Prop := fun _ _ => False
  ct : St → Hp → Prop := fun _ _ => False
abbrev TS := Ends → St → Hp → Prop

def EP (X : Cx) (pins : List (Addr × Obj)) (σ : St) (Q : VK) (u : Value) (s' : Shared) : Prop := ∃ v H', Inv X pins σ H' s' ∧ RelV v u ∧ Q v H'
def TP (X : Cx) (pins : List (Addr × Obj)) (σ : St) (Q : Bool → Hp → Prop) (b : Bool) (s' : Shared) : Prop := ∃ H', Inv X pins σ H' s' ∧ Q b H'
def AP (X : Cx) (pins : List (Addr × Obj)) (σ : St) (Q : List V → Hp → Prop) (us : List Value) (s' : Shared) : Prop := ∃ vs H', Inv X pins σ H' s' ∧ Vals vs us ∧ Q vs H'
def SP (X : Cx) (pins : List (Addr × Obj)) (D : Ends) (f : Flow) (s' : Shared) : Prop :=
  match f with
  | .next => ∃ σ' H', Inv X pins σ' H' s' ∧ D.nx σ' H'
  | .brk => ∃ σ' H', Inv X pins σ' H' s' ∧ D.bk σ' H'
  | .cont => ∃ σ' H', Inv X pins σ' H' s' ∧ D.ct σ' H'
  | .ret u => ∃ v σ' H', Inv X pins σ' H' s' ∧ RelV v u ∧ D.rt v H'

def PE (X : Cx) (e : Expr) (t : TE) : Prop :=
  ∀ (pins : List (Addr × Obj)) (s : Shared) (σ : St) (H : Hp) (Q : VK), Inv X pins σ H s → t σ H Q → wpAny (model X.prog X.w) X.A (eval e X.env) (EP X pins σ Q) X.xe s
def PT (X : Cx) (e : Expr) (t : TT) : Prop :=
  ∀ (pins : List (Addr × Obj)) (s : Shared) (σ : St) (H : Hp) (Q : Bool → Hp → Prop), Inv X pins σ H s → t σ H Q → wpAny (model X.prog X.w) X.A (isTrue e X.env (eval e X.env)) (TP X pins σ Q) X.xe s
/-- a test whatever its 'whole' is (and, or) -/
def PW (X : Cx) (e : Expr) (t : TT) : Prop :=
  ∀ (whole : Sem Value) (pins : List (Addr × Obj)) (s : Shared) (σ : St) (H : Hp) (Q : Bool → Hp → Prop), Inv X pins σ H s → t σ H Q → wpAny (model X.prog X.w) X.A (isTrue e X.env whole) (TP X pins σ Q) X.xe s
theorem PW.pt {X : Cx} {e : Expr} {t : TT} (h : PW X e t) : PT X e t := h _
/-- an argument list (no star), from the left -/
def PA (X : Cx) (es : List Expr) (t : TA) : Prop :=
  ∀ (pos : Pos) (pins : List (Addr × Obj)) (s : Shared) (σ : St) (H : Hp) (Q : List V → Hp → Prop), Inv X pins σ H s → t σ H Q → wpAny (model X.prog X.w) X.A (spliced (backTo pos (starEach es X.env))) (AP X pins σ Q) X.xe s
def PS (X : Cx) (st : Stmt) (t : TS) : Prop :=
  ∀ (pins : List (Addr × Obj)) (s : Shared) (σ : St) (H : Hp) (D : Ends), Inv X pins σ H s → t D σ H → wpAny (model X.prog X.w) X.A (exec st X.env) (SP X pins D) X.xe s
def PSs (X : Cx) (st : List Stmt) (t : TS) : Prop :=
  ∀ (pins : List (Addr × Obj)) (s : Shared) (σ : St) (H : Hp) (D : Ends), Inv X pins σ H s → t D σ H → wpAny (model X.prog X.w) X.A (execs st X.env) (SP X pins D) X.xe s
/-- weaken the end -/
theorem thn {α : Type} {t : Sem α} {Q Q' : α → Shared → Prop} {M : Model} {A : Around} {E : Value → Shared → Prop} {s : Shared} (h : wpAny M A t Q E s) (hQ : ∀ a s, Q a s → Q' a s) : wpAny M A t Q' E s := wpAny_mono h hQ fun _ _ x => x
end L2

namespace L2
open PySem PySem.Spec PyProof.Rows
section
variable {X : Cx}

/-- two expressions in a row -/
theorem bin {a b : Expr} {ta tb : TE} (ha : PE X a ta) (hb : PE X b tb) {pins : List (Addr × Obj)} {s : Shared} {σ : St} {H : Hp} {R : V → V → Hp → Prop} (I : Inv X pins σ H s) (h : ta σ H fun x H1 => tb σ H1 fun y H2 => R x y H2)
    {α : Type} {Q : α → Shared → Prop} {f : Value → Value → Sem α}
    (hf : ∀ v u s2 x y H2, Inv X pins σ H2 s2 → RelV x v → RelV y u → R x y H2 → wpAny (model X.prog X.w) X.A (f v u) Q X.xe s2) :
    wpAny (model X.prog X.w) X.A (eval a X.env) (fun v s₁ => wpAny (model X.prog X.w) X.A (eval b X.env) (fun u s₂ => wpAny (model X.prog X.w) X.A (f v u) Q X.xe s₂) X.xe s₁) X.xe s := by
  refine thn (ha pins s σ H _ I h) fun v s1 ⟨x, H1, I1, r1, q1⟩ => ?_
  refine thn (hb pins s1 σ H1 _ I1 q1) fun u s2 ⟨y, H2, I2, r2, q2⟩ => ?_
  exact hf v u s2 x y H2 I2 r1 r2 q2

/-! ### names and constants -/
def tVar (i : Nat) : TE := fun σ H Q => ∃ v, σ[i]? = some (some v) ∧ Q v H
def tC (v : V) : TE := fun _ H Q => Q v H
theorem pe_var {i : Nat} {x : Str} {pos : Pos} (hN : X.N[i]? = some x) (hv : Vis X.env.scope x) (hd : (x == ("__debug__" : Str)) = false := by decide) (hcd : (x == ("__classdict__" : Str)) = false := by decide) : PE X (.Name x pos) (tVar i) := by
  intro pins s σ H Q I h
  obtain ⟨v, e, h⟩ := h
  obtain ⟨m, hn, hl⟩ := I.loc
  obtain ⟨u, r, l⟩ := hl i x v hN e hv
  have fin : EP X pins σ Q u s := ⟨v, H, I, r, h⟩
  rcases l with ⟨hk, hm⟩ | ⟨hk, c, hc, hcell⟩
  · exact wpAny_Name (wpAny_loadName_local I.ok.kind hk hn hm fin) hd
  · rcases hk with hk | hk
    · exact wpAny_Name (wpAny_loadName_cell I.ok.kind hk hc hcell fin) hd
    · exact wpAny_Name (wpAny_loadName_free I.ok.kind hk hc hcell fin hcd) hd
theorem pe_int {i j pos} : PE X (.Constant (.int i) j pos) (tC (.int i)) := fun _ _ _ H _ I h => wpAny_Constant_int ⟨.int i, H, I.tok _, ⟨_, rfl⟩, h⟩
theorem pe_bl {b j pos} : PE X (.Constant (.bool b) j pos) (tC (.bl b)) := fun _ _ _ H _ I h => Constant_bool ⟨.bl b, H, I, rfl, h⟩
theorem pe_non {j pos} : PE X (.Constant .none j pos) (tC .non) := fun _ _ _ H _ I h => Constant_none ⟨.non, H, I, rfl, h⟩
theorem pe_str {x j pos} : PE X (.Constant (.str x) j pos) (tC (.str x)) := fun _ _ _ H _ I h => Calls.Constant_str ⟨.str x, H, I.tok _, ⟨_, rfl⟩, h⟩

/-- a global name of the def -/
def Gl (X : Cx) (x : Str) : Prop := X.env.kindOf x = some .globalImplicit
theorem ld_glob {E : Value → Shared → Prop} {pins : List (Addr × Obj)} {s : Shared} {σ : St} {H : Hp} {x : Str} {u : Value} {pos : Pos} {Q : Value → Shared → Prop} (I : Inv X pins σ H s) (hg : Gl X x) (hm : X.mg x = some u) (h : Q u s)
    (hd : (x == ("__debug__" : Str)) = false := by decide) : wpAny (model X.prog X.w) X.A (eval (.Name x pos) X.env) Q E s :=
  Calls.Name_function_global I.ok.kind hg (Calls.loadGlobal_global (by rw [I.ok.glob]; exact I.mod.glob.keeps I.bk) hm h) hd
theorem ld_blt {E : Value → Shared → Prop} {pins : List (Addr × Obj)} {s : Shared} {σ : St} {H : Hp} {x : Str} {u : Value} {pos : Pos} {Q : Value → Shared → Prop} (I : Inv X pins σ H s) (hg : Gl X x) (hm : X.mg x = none) (hv : bootBuiltins x = some u) (h : Q u s)
    (hn : x ≠ "__name__" := by decide) (hd : (x == ("__debug__" : Str)) = false := by decide) : wpAny (model X.prog X.w) X.A (eval (.Name x pos) X.env) Q E s := by
  obtain ⟨mb, h1, h2⟩ := I.mod.blt
  exact Calls.Name_function_global I.ok.kind hg (Calls.loadGlobal_builtin (by rw [I.ok.glob]; exact I.mod.glob.keeps I.bk) hm (by rw [I.ok.blt]; exact h1.keeps I.bk) ((h2 x hn).trans hv) h) hd
/-- a module's constant, a class, a function, as a value -/
theorem pe_glob {x : Str} {v : V} {u : Value} {pos : Pos} (hg : Gl X x) (hm : X.mg x = some u) (r : RelV v u) (hd : (x == ("__debug__" : Str)) = false := by decide) : PE X (.Name x pos) (tC v) :=
  fun _ _ _ H _ I h => ld_glob I hg hm ⟨v, H, I, r, h⟩ hd
theorem pe_bltn {x : Str} {v : V} {u : Value} {pos : Pos} (hg : Gl X x) (hm : X.mg x = none) (hv : bootBuiltins x = some u) (r : RelV v u) (hn : x ≠ "__name__" := by decide) (hd : (x == ("__debug__" : Str)) = false := by decide) : PE X (.Name x pos) (tC v) :=
  fun _ _ _ H _ I h => ld_blt I hg hm hv ⟨v, H, I, r, h⟩ hn hd

/-! ### arithmetic -/
/-- two ints -/
def t2I (ta tb : TE) (k : Int → Int → Hp → Prop) : St → Hp → Prop := fun σ H => ta σ H fun x H1 => tb σ H1 fun y H2 => ∃ i j, x = .int i ∧ y = .int j ∧ k i j H2
def tAdd (ta tb : TE) : TE := fun σ H Q => t2I ta tb (fun i j H2 => Q (.int (i + j)) H2) σ H
def tSub (ta tb : TE) : TE := fun σ H Q => t2I ta tb (fun i j H2 => Q (.int (i - j)) H2) σ H
/-- the left factor below 2^64 -/
def tMul (ta tb : TE) : TE := fun σ H Q => t2I ta tb (fun i j H2 => (-(2 ^ 64) < i ∧ i < 2 ^ 64) ∧ Q (.int (i * j)) H2) σ H
variable {a b : Expr} {ta tb : TE} {pos : Pos}
theorem pe_add (ha : PE X a ta) (hb : PE X b tb) : PE X (.BinOp a .Add b pos) (tAdd ta tb) := by
  intro pins s σ H Q I h
  refine wpAny_BinOp (bin ha hb I h fun v u s2 x y H2 I2 rx ry q => ?_)
  obtain ⟨i, j, rfl, rfl, q⟩ := q
  obtain ⟨t, rfl⟩ := rx
  obtain ⟨t', rfl⟩ := ry
  exact add_int ⟨.int _, H2, I2.tok _, ⟨_, rfl⟩, q⟩
theorem pe_sub (ha : PE X a ta) (hb : PE X b tb) : PE X (.BinOp a .Sub b pos) (tSub ta tb) := by
  intro pins s σ H Q I h
  refine wpAny_BinOp (bin ha hb I h fun v u s2 x y H2 I2 rx ry q => ?_)
  obtain ⟨i, j, rfl, rfl, q⟩ := q
  obtain ⟨t, rfl⟩ := rx
  obtain ⟨t', rfl⟩ := ry
  exact sub_int ⟨.int _, H2, I2.tok _, ⟨_, rfl⟩, q⟩
theorem pe_mul (ha : PE X a ta) (hb : PE X b tb) : PE X (.BinOp a .Mult b pos) (tMul ta tb) := by
  intro pins s σ H Q I h
  refine wpAny_BinOp (bin ha hb I h fun v u s2 x y H2 I2 rx ry q => ?_)
  obtain ⟨i, j, rfl, rfl, ⟨q1, q2⟩, q⟩ := q
  obtain ⟨t, rfl⟩ := rx
  obtain ⟨t', rfl⟩ := ry
  exact mul_int ⟨.int _, H2, I2.tok _, ⟨_, rfl⟩, q⟩ (.of_left (intBits_le_64 q1 q2))

/-! ### comparisons -/
def PC (X : Cx) (op : CmpOp) (a b : Expr) (t : TE) : Prop :=
  ∀ (pins : List (Addr × Obj)) (s : Shared) (σ : St) (H : Hp) (Q : VK), Inv X pins σ H s → t σ H Q →
    wpAny (model X.prog X.w) X.A (eval a X.env) (fun v s₁ => wpAny (model X.prog X.w) X.A (eval b X.env) (fun u s₂ => wpAny (model X.prog X.w) X.A (compareOp op v u) (EP X pins σ Q) X.xe s₂) X.xe s₁) X.xe s
theorem nobehind (b : Expr) {op : CmpOp} (h : op ≠ .In) (h2 : op ≠ .NotIn) : behindInMarks op b = false := by
  have e1 : (op == CmpOp.In) = false := by cases op <;> first | rfl | exact absurd rfl h
  have e2 : (op == CmpOp.NotIn) = false := by cases op <;> first | rfl | exact absurd rfl h2
  cases b <;> simp [behindInMarks, e1, e2]
def tCmp (p : Int → Int → Bool) (ta tb : TE) : TE := fun σ H Q => t2I ta tb (fun i j H2 => Q (.bl (p i j)) H2) σ H
abbrev tLt : TE → TE → TE := tCmp fun i j => decide (i < j)
abbrev tLe : TE → TE → TE := tCmp fun i j => decide (i ≤ j)
abbrev tGt : TE → TE → TE := tCmp fun i j => decide (j < i)
abbrev tGe : TE → TE → TE := tCmp fun i j => decide (j ≤ i)
abbrev tEqI : TE → TE → TE := tCmp fun i j => decide (i = j)
abbrev tNeI : TE → TE → TE := tCmp fun i j => !decide (i = j)
/-- a comparison of two ints, by its rule -/
theorem pc_int {op : CmpOp} {p : Int → Int → Bool} (ha : PE X a ta) (hb : PE X b tb)
    (rule : ∀ (i j : Int) (t u : Tok) (Q : Value → Shared → Prop) (s : Shared), Q (.bool (p i j)) s → wpAny (model X.prog X.w) X.A (compareOp op (.int i t) (.int j u)) Q X.xe s) : PC X op a b (tCmp p ta tb) := by
  intro pins s σ H Q I h
  refine bin ha hb I h fun v u s2 x y H2 I2 rx ry q => ?_
  obtain ⟨i, j, rfl, rfl, q⟩ := q
  obtain ⟨t, rfl⟩ := rx
  obtain ⟨t', rfl⟩ := ry
  exact rule i j t t' _ s2 ⟨.bl _, H2, I2, rfl, q⟩
theorem pc_lt (ha : PE X a ta) (hb : PE X b tb) : PC X .Lt a b (tLt ta tb) := pc_int ha hb fun _ _ _ _ _ _ h => lt_int h
theorem pc_le (ha : PE X a ta) (hb : PE X b tb) : PC X .LtE a b (tLe ta tb) := pc_int ha hb fun _ _ _ _ _ _ h => le_int h
theorem pc_gt (ha : PE X a ta) (hb : PE X b tb) : PC X .Gt a b (tGt ta tb) := pc_int ha hb fun _ _ _ _ _ _ h => gt_int h
theorem pc_ge (ha : PE X a ta) (hb : PE X b tb) : PC X .GtE a b (tGe ta tb) := pc_int ha hb fun _ _ _ _ _ _ h => ge_int h
theorem pc_eqI (ha : PE X a ta) (hb : PE X b tb) : PC X .Eq a b (tEqI ta tb) := pc_int ha hb fun _ _ _ _ _ _ h => eq_int (by rw [Bool.beq_eq_decide_eq]; exact h)
theorem pc_neI (ha : PE X a ta) (hb : PE X b tb) : PC X .NotEq a b (tNeI ta tb) := pc_int ha hb fun _ _ _ _ _ _ h => ne_int (by rw [bne, Bool.beq_eq_decide_eq]; exact h)
/-- is None -/
def tIsN (ta : TE) : TE := fun σ H Q => ta σ H fun x H1 => Q (.bl (decide (x = .non))) H1
def tNotN (ta : TE) : TE := fun σ H Q => ta σ H fun x H1 => Q (.bl (!decide (x = .non))) H1
theorem RelV.none_iff {x : V} {v : Value} (r : RelV x v) : (v == Value.none) = decide (x = .non) := by
  cases x with
  | non => cases r; rfl
  | bl _ => cases r; rfl
  | int _ => obtain ⟨t, rfl⟩ := r; rfl
  | str _ => obtain ⟨t, rfl⟩ := r; rfl
  | byt _ => obtain ⟨t, rfl⟩ := r; rfl
  | flt _ => obtain ⟨t, rfl⟩ := r; rfl
  | ref _ => cases r; rfl
  | ty _ => cases r; rfl
theorem pc_isN {j pos'} (ha : PE X a ta) : PC X .Is a (.Constant .none j pos') (tIsN ta) := by
  intro pins s σ H Q I h
  refine thn (ha pins s σ H _ I h) fun v s1 ⟨x, H1, I1, r1, q1⟩ => ?_
  exact Constant_none (is_none_gen ⟨.bl _, H1, I1, by rw [r1.none_iff]; rfl, q1⟩)
theorem pc_notN {j pos'} (ha : PE X a ta) : PC X .IsNot a (.Constant .none j pos') (tNotN ta) := by
  intro pins s σ H Q I h
  refine thn (ha pins s σ H _ I h) fun v s1 ⟨x, H1, I1, r1, q1⟩ => ?_
  exact Constant_none (isnot_none_gen ⟨.bl _, H1, I1, by rw [r1.none_iff]; rfl, q1⟩)
/-- a comparison as a value, as a test -/
def tB (t : TE) : TT := fun σ H Q => t σ H fun x H1 => ∃ c, x = .bl c ∧ Q c H1
theorem pe_cmp {op : CmpOp} {t : TE} (h : PC X op a b t) (h1 : behindInMarks op b = false := by first | exact nobehind _ (by decide) (by decide) | rfl) : PE X (.Compare a [op] [b] pos) t := fun pins s σ H Q I hw => wpAny_Compare1 (h pins s σ H Q I hw) h1
theorem pt_cmp {op : CmpOp} {t : TE} (h : PC X op a b t) (h1 : behindInMarks op b = false := by first | exact nobehind _ (by decide) (by decide) | rfl) : PT X (.Compare a [op] [b] pos) (tB t) := by
  intro pins s σ H Q I hw
  refine wpAny_isTrue_Compare1 (thn (h pins s σ H _ I hw) fun v s1 h1 => thn h1 fun u s2 h2 => thn h2 fun c s3 ⟨x, H1, I1, r1, q1⟩ => ?_) h1
  obtain ⟨d, rfl, q⟩ := q1
  cases r1
  exact wpAny_truthy_bool ⟨H1, I1, q⟩
/-- an expression whose value is a bool, as a test -/
theorem pt_val {e : Expr} {t : TE} (h : PE X e t) (he : ∀ whole, isTrue e X.env whole = (do let v ← whole; standAt e.pos; holding [v] (truthy v)) := by intro _; rfl) : PT X e (tB t) := by
  intro pins s σ H Q I hw
  refine isTrue_plain (thn (h pins s σ H _ I hw) fun v s1 ⟨x, H1, I1, r1, q1⟩ => ?_) (he _)
  obtain ⟨d, rfl, q⟩ := q1
  cases r1
  exact wpAny_truthy_bool ⟨H1, I1, q⟩

/-! ### and, or, not -/
variable {tA tB' : TT} {rest : List Expr}
def tAnd (t u : TT) : TT := fun σ H Q => t σ H fun c H1 => if c = true then u σ H1 Q else Q false H1
def tOr (t u : TT) : TT := fun σ H Q => t σ H fun c H1 => if c = true then Q true H1 else u σ H1 Q
def tNot (t : TT) : TT := fun σ H Q => t σ H fun c H1 => Q (!c) H1
theorem pw_and1 (ha : PT X a tA) : PW X (.BoolOp .And [a] pos) tA := by
  intro wh pins s σ H Q I h
  refine isTrue_and (thn (ha pins s σ H Q I h) fun c s1 e => ?_)
  cases c with
  | true => exact isTrue_and_nil e
  | false => exact e
theorem pw_or1 (ha : PT X a tA) : PW X (.BoolOp .Or [a] pos) tA := by
  intro wh pins s σ H Q I h
  refine isTrue_or (thn (ha pins s σ H Q I h) fun c s1 e => ?_)
  cases c with
  | false => exact isTrue_or_nil e
  | true => exact e
theorem pw_and (ha : PT X a tA) (hb : PW X (.BoolOp .And (b :: rest) pos) tB') : PW X (.BoolOp .And (a :: b :: rest) pos) (tAnd tA tB') := by
  intro wh pins s σ H Q I h
  refine isTrue_and (thn (ha pins s σ H _ I h) fun c s1 ⟨H1, I1, q1⟩ => ?_)
  cases c with
  | true => exact hb wh pins s1 σ H1 Q I1 q1
  | false => exact ⟨H1, I1, q1⟩
theorem pw_or (ha : PT X a tA) (hb : PW X (.BoolOp .Or (b :: rest) pos) tB') : PW X (.BoolOp .Or (a :: b :: rest) pos) (tOr tA tB') := by
  intro wh pins s σ H Q I h
  refine isTrue_or (thn (ha pins s σ H _ I h) fun c s1 ⟨H1, I1, q1⟩ => ?_)
  cases c with
  | true => exact ⟨H1, I1, q1⟩
  | false => exact hb wh pins s1 σ H1 Q I1 q1
theorem pt_not (ha : PT X a tA) : PT X (.UnaryOp .Not a pos) (tNot tA) := by
  intro pins s σ H Q I h
  exact isTrue_not (ha pins s σ H (fun c H1 => Q (!c) H1) I h)
/-- .. as values (bools) -/
def tAndV (ta tb : TE) : TE := fun σ H Q => ta σ H fun x H1 => ∃ c, x = .bl c ∧ if c = true then tb σ H1 Q else Q (.bl false) H1
def tOrV (ta tb : TE) : TE := fun σ H Q => ta σ H fun x H1 => ∃ c, x = .bl c ∧ if c = true then Q (.bl true) H1 else tb σ H1 Q
def tNotV (ta : TE) : TE := fun σ H Q => ta σ H fun x H1 => ∃ c, x = .bl c ∧ Q (.bl (!c)) H1
theorem pe_one {op} {t : TE} (h : PE X a t) : PE X (.BoolOp op [a] pos) t := fun pins s σ H Q I hw => BoolOp_one (h pins s σ H Q I hw)
theorem pe_and (ha : PE X a ta) (hb : PE X (.BoolOp .And (b :: rest) pos) tb) : PE X (.BoolOp .And (a :: b :: rest) pos) (tAndV ta tb) := by
  intro pins s σ H Q I h
  refine BoolOp_and (thn (ha pins s σ H _ I h) fun v s1 ⟨x, H1, I1, r1, q1⟩ => ?_)
  obtain ⟨c, rfl, q1⟩ := q1
  cases r1
  refine wpAny_truthy_bool ?_
  cases c with
  | true => exact hb pins s1 σ H1 Q I1 q1
  | false => exact ⟨.bl false, H1, I1, rfl, q1⟩
theorem pe_or (ha : PE X a ta) (hb : PE X (.BoolOp .Or (b :: rest) pos) tb) : PE X (.BoolOp .Or (a :: b :: rest) pos) (tOrV ta tb) := by
  intro pins s σ H Q I h
  refine BoolOp_or (thn (ha pins s σ H _ I h) fun v s1 ⟨x, H1, I1, r1, q1⟩ => ?_)
  obtain ⟨c, rfl, q1⟩ := q1
  cases r1
  refine wpAny_truthy_bool ?_
  cases c with
  | false => exact hb pins s1 σ H1 Q I1 q1
  | true => exact ⟨.bl true, H1, I1, rfl, q1⟩
theorem pe_not (ha : PE X a ta) : PE X (.UnaryOp .Not a pos) (tNotV ta) := by
  intro pins s σ H Q I h
  refine UnaryOp_ (thn (ha pins s σ H _ I h) fun v s1 ⟨x, H1, I1, r1, q1⟩ => ?_)
  obtain ⟨c, rfl, q1⟩ := q1
  cases r1
  exact not_of (wpAny_truthy_bool ⟨.bl (!c), H1, I1, rfl, q1⟩)
/-- a if t else b -/
def tIf (t : TT) (ta tb : TE) : TE := fun σ H Q => t σ H fun c H1 => if c = true then ta σ H1 Q else tb σ H1 Q
theorem pe_ifExp {c : Expr} (hc : PT X c tA) (ha : PE X a ta) (hb : PE X b tb) : PE X (.IfExp c a b pos) (tIf tA ta tb) := by
  intro pins s σ H Q I h
  refine wpAny_IfExp (thn (hc pins s σ H _ I h) fun d s1 ⟨H1, I1, q1⟩ => ?_)
  cases d with
  | true => exact ha pins s1 σ H1 Q I1 q1
  | false => exact hb pins s1 σ H1 Q I1 q1
end
end L2

namespace L2
open PySem PySem.Spec PyProof.Rows

/-! ### a list, a tuple that is read: tracked, frozen, or an object of the module -/
def SqL (K : PySem.W.Frag) (H : Hp) (a : Addr) (xs : List V) : Prop :=
  Rd H a (.lst xs) ∨
    ∃ (o : Obj) (its : Array Value) (n : Nat), K.lookup a = some o ∧ o.cls = .type "list" ∧ o.dict = none ∧ o.data = .seq its n ∧ its.size ≤ sizeLine ∧ Vals xs its.toList
def SqT (K : PySem.W.Frag) (H : Hp) (a : Addr) (xs : List V) : Prop :=
  Rd H a (.tup xs) ∨
    ∃ (o : Obj) (its : Array Value) (n : Nat), K.lookup a = some o ∧ o.cls = .type "tuple" ∧ o.data = .seq its n ∧ its.size ≤ sizeLine ∧ Vals xs its.toList
def absV : Value → Option V
  | .none => some .non
  | .bool b => some (.bl b)
  | .int i _ => some (.int i)
  | .str x _ => some (.str x)
  | .bytes b _ => some (.byt b)
  | .float b _ => some (.flt b)
  | .ref a => some (.ref a)
  | .type n => some (.ty n)
  | _ => none
theorem RelV.abs {x : V} {u : Value} (r : RelV x u) : absV u = some x := by
  cases x with
  | non => cases r; rfl
  | bl _ => cases r; rfl
  | int _ => obtain ⟨t, rfl⟩ := r; rfl
  | str _ => obtain ⟨t, rfl⟩ := r; rfl
  | byt _ => obtain ⟨t, rfl⟩ := r; rfl
  | flt _ => obtain ⟨t, rfl⟩ := r; rfl
  | ref _ => cases r; rfl
  | ty _ => cases r; rfl
theorem RelV.inj {x y : V} {u : Value} (r : RelV x u) (q : RelV y u) : x = y := Option.some.inj (r.abs.symm.trans q.abs)
theorem Vals.inj : ∀ {xs ys : List V} {us : List Value}, Vals xs us → Vals ys us → xs = ys
  | _, _, _, .nil, .nil => rfl
  | _, _, _, .cons r t, .cons r' t' => by rw [r.inj r', Vals.inj t t']
section
variable {X : Cx} {pins : List (Addr × Obj)} {σ : St} {H : Hp} {s : Shared} {a : Addr} {xs ys : List V}
theorem SqL.of {K : PySem.W.Frag} (h : H a = some (.lst xs)) : SqL K H a xs := .inl (.inl h)
theorem SqT.of {K : PySem.W.Frag} (h : H a = some (.tup xs)) : SqT K H a xs := .inl (.inl h)
theorem Inv.list (I : Inv X pins σ H s) (h : SqL X.K H a xs) : ∃ its : List Value, Vals xs its ∧ PlainL s.heap a its.toArray ∧ xs.length ≤ sizeLine := by
  rcases h with h | ⟨o, its, n, hk, hc, hd, hs, hz, r⟩
  · obtain ⟨z, its, n, r, e⟩ := h.ok I.hok
    exact ⟨its, r, ⟨_, n, e, rfl, rfl, rfl⟩, z⟩
  · refine ⟨its.toList, r, ⟨o, n, I.kIn a o hk, hc, hd, by simpa using hs⟩, ?_⟩
    have e := r.length
    simp only [Array.length_toList] at e
    omega
theorem Inv.tuple (I : Inv X pins σ H s) (h : SqT X.K H a xs) : ∃ its : List Value, Vals xs its ∧ IsTup s.heap a its.toArray ∧ xs.length ≤ sizeLine := by
  rcases h with h | ⟨o, its, n, hk, hc, hs, hz, r⟩
  · obtain ⟨z, its, r, p⟩ := h.ok I.hok
    exact ⟨its, r, p, z⟩
  · refine ⟨its.toList, r, ⟨o, I.kIn a o hk, hc, n, by simpa using hs⟩, ?_⟩
    have e := r.length
    simp only [Array.length_toList] at e
    omega
theorem Inv.list_inj (I : Inv X pins σ H s) (h : SqL X.K H a xs) (h' : SqL X.K H a ys) : xs = ys := by
  obtain ⟨its, r, ⟨o, n, e, _, _, d⟩, _⟩ := I.list h
  obtain ⟨its', r', ⟨o', n', e', _, _, d'⟩, _⟩ := I.list h'
  rw [e] at e'; cases e'
  rw [d] at d'
  injection d' with d1 _
  have : its = its' := by simpa using congrArg Array.toList d1
  subst this
  exact r.inj r'
theorem Inv.tuple_inj (I : Inv X pins σ H s) (h : SqT X.K H a xs) (h' : SqT X.K H a ys) : xs = ys := by
  obtain ⟨its, r, ⟨o, e, _, n, d⟩, _⟩ := I.tuple h
  obtain ⟨its', r', ⟨o', e', _, n', d'⟩, _⟩ := I.tuple h'
  rw [e] at e'; cases e'
  rw [d] at d'
  injection d' with d1 _
  have : its = its' := by simpa using congrArg Array.toList d1
  subst this
  exact r.inj r'
end

/-! ### another wish about exceptions -/
abbrev Cx.wish (X : Cx) (E : Value → Shared → Prop) : Cx := { X with xe := E }
/-- no exception leaves -/
abbrev Cx.nox (X : Cx) : Cx := X.wish fun _ _ => False
theorem Cx.Ok.wish {X : Cx} (ok : X.Ok) (E : Value → Shared → Prop) : (X.wish E).Ok :=
  ⟨ok.mod, ok.kind, ok.glob, ok.blt, ok.above, ok.inj, ok.has, ok.cab, ok.hd, ok.frames, ok.stk, ok.exf, ok.bs, ok.bsz, ok.noex, ok.exfs, ok.funs, ok.frf⟩
theorem Cx.Ok.unwish {X : Cx} {E : Value → Shared → Prop} (ok : (X.wish E).Ok) : X.Ok :=
  ⟨ok.mod, ok.kind, ok.glob, ok.blt, ok.above, ok.inj, ok.has, ok.cab, ok.hd, ok.frames, ok.stk, ok.exf, ok.bs, ok.bsz, ok.noex, ok.exfs, ok.funs, ok.frf⟩
section
variable {X : Cx} {pins : List (Addr × Obj)} {σ : St} {H : Hp} {s : Shared} {E : Value → Shared → Prop}
theorem Inv.wish (I : Inv X pins σ H s) (E : Value → Shared → Prop) : Inv (X.wish E) pins σ H s := ⟨I.ok.wish E, I.os, I.bare, I.base, I.loc, I.cell, I.free, I.freeC, I.pin, I.hok, I.len⟩
theorem Inv.unwish (I : Inv (X.wish E) pins σ H s) : Inv X pins σ H s := ⟨I.ok.unwish, I.os, I.bare, I.base, I.loc, I.cell, I.free, I.freeC, I.pin, I.hok, I.len⟩
theorem SP.unwish {D : Ends} {f : Flow} {s' : Shared} (h : SP (X.wish E) pins D f s') : SP X pins D f s' := by
  cases f with
  | next => obtain ⟨σ', H', I, q⟩ := h; exact ⟨σ', H', I.unwish, q⟩
  | brk => obtain ⟨σ', H', I, q⟩ := h; exact ⟨σ', H', I.unwish, q⟩
  | cont => obtain ⟨σ', H', I, q⟩ := h; exact ⟨σ', H', I.unwish, q⟩
  | ret u => obtain ⟨v, σ', H', I, r, q⟩ := h; exact ⟨v, σ', H', I.unwish, r, q⟩
theorem PE.nox {e : Expr} {t : TE} (h : PE X.nox e t) : PE X e t := fun pins s σ H Q I hw =>
  wpAny_mono (h pins s σ H Q (I.wish _) hw) (fun _ _ ⟨v, H', I', r, q⟩ => ⟨v, H', I'.unwish, r, q⟩) fun _ _ z => False.elim z
theorem PT.nox {e : Expr} {t : TT} (h : PT X.nox e t) : PT X e t := fun pins s σ H Q I hw =>
  wpAny_mono (h pins s σ H Q (I.wish _) hw) (fun _ _ ⟨H', I', q⟩ => ⟨H', I'.unwish, q⟩) fun _ _ z => False.elim z
theorem PSs.nox {st : List Stmt} {t : TS} (h : PSs X.nox st t) : PSs X st t := fun pins s σ H D I hw =>
  wpAny_mono (h pins s σ H D (I.wish _) hw) (fun _ _ q => q.unwish) fun _ _ z => False.elim z
end

/-! ### blocks and small statements -/
section
variable {X : Cx} {st : Stmt} {rest : List Stmt} {t u : TS} {e : Expr} {te : TE} {pos : Pos}
def tNext : TS := fun D σ H => D.nx σ H
def tSeq (t u : TS) : TS := fun D σ H => t { D with nx := u D } σ H
theorem pss_nil : PSs X [] tNext := fun _ _ σ H _ I h => wpAny_execs_nil ⟨σ, H, I, h⟩
theorem pss_cons (h1 : PS X st t) (h2 : PSs X rest u) : PSs X (st :: rest) (tSeq t u) := by
  intro pins s σ H D I h
  refine wpAny_execs_cons (thn (h1 pins s σ H { D with nx := u D } I h) fun f s1 q => ?_)
  cases f with
  | next =>
    obtain ⟨σ', H', I', q⟩ := q
    exact h2 pins s1 σ' H' D I' q
  | ret v => exact q
  | brk => exact q
  | cont => exact q
theorem pss_one (h1 : PS X st t) : PSs X [st] t := by
  intro pins s σ H D I h
  refine wpAny_execs_cons (thn (h1 pins s σ H D I h) fun f s1 q => ?_)
  cases f with
  | next => exact wpAny_execs_nil q
  | ret v => exact q
  | brk => exact q
  | cont => exact q
def tBreak : TS := fun D σ H => D.bk σ H
def tCont : TS := fun D σ H => D.ct σ H
theorem ps_pass : PS X (.Pass pos) tNext := fun _ _ σ H _ I h => wpAny_Pass ⟨σ, H, I, h⟩
theorem ps_break : PS X (.Break pos) tBreak := fun _ _ σ H _ I h => wpAny_Break ⟨σ, H, I, h⟩
theorem ps_continue : PS X (.Continue pos) tCont := fun _ _ σ H _ I h => wpAny_Continue ⟨σ, H, I, h⟩
/-- in a def's body nothing is shown -/
theorem Inv.quiet {pins : List (Addr × Obj)} {σ : St} {H : Hp} {s : Shared} (I : Inv X pins σ H s) : interactive X.env = false := by simp [interactive, I.ok.kind]
/-- a docstring -/
theorem ps_doc {x j pos pos'} : PS X (.Expr (.Constant (.str x) j pos) pos') tNext := fun _ s σ H _ I h => wpAny_Expr (Calls.Constant_str (show SP X _ _ .next { s with toks := s.toks + 1 } from ⟨σ, H, I.tok _, h⟩)) I.quiet
/-- an expression whose value is dropped -/
def tDrop (te : TE) : TS := fun D σ H => te σ H fun _ H1 => D.nx σ H1
theorem ps_expr (he : PE X e te) (hs : swapsWith e none pos.line X.env = pure false := by rfl) : PS X (.Expr e pos) (tDrop te) := by
  intro pins s σ H D I h
  exact wpAny_Expr_any (thn (he pins s σ H _ I h) fun v s1 ⟨x, H1, I1, r1, q1⟩ => ⟨σ, H1, I1, q1⟩) I.quiet hs
def tRet (te : TE) : TS := fun D σ H => te σ H D.rt
theorem ps_ret (he : PE X e te) : PS X (.Return (some e) pos) (tRet te) := by
  intro pins s σ H D I h
  exact wpAny_Return_some (thn (he pins s σ H _ I h) fun v s1 ⟨x, H1, I1, r1, q1⟩ => ⟨x, σ, H1, I1, r1, q1⟩)
def tRetN : TS := fun D _ H => D.rt .non H
theorem ps_retN : PS X (.Return none pos) tRetN := fun _ _ σ H _ I h => wpAny_Return_none ⟨.non, σ, H, I, rfl, h⟩
def tIfS (c : TT) (t u : TS) : TS := fun D σ H => c σ H fun b H1 => if b = true then t D σ H1 else u D σ H1
theorem ps_if {c : Expr} {a b : List Stmt} {tc : TT} (hc : PT X c tc) (ha : PSs X a t) (hb : PSs X b u) : PS X (.If c a b pos) (tIfS tc t u) := by
  intro pins s σ H D I h
  refine wpAny_If (thn (hc pins s σ H _ I h) fun d s1 ⟨H1, I1, q1⟩ => ?_)
  cases d with
  | true => exact ha pins s1 σ H1 D I1 q1
  | false => exact hb pins s1 σ H1 D I1 q1
/-- code that the proof never comes to -/
def tNever : TS := fun _ _ _ => False
theorem ps_never : PS X st tNever := fun _ _ _ _ _ _ h => h.elim
theorem pss_never {sts : List Stmt} : PSs X sts tNever := fun _ _ _ _ _ _ h => h.elim
end

/-! ### targets -/
abbrev TG := V → St → Hp → (St → Hp → Prop) → Prop
abbrev TGs := List V → St → Hp → (St → Hp → Prop) → Prop
def PG (X : Cx) (target : Expr) (t : TG) : Prop :=
  ∀ (pins : List (Addr × Obj)) (s : Shared) (σ : St) (H : Hp) (v : V) (u : Value) (Q : St → Hp → Prop), Inv X pins σ H s → RelV v u → t v σ H Q →
    wpAny (model X.prog X.w) X.A (assign target X.env u) (fun _ s' => ∃ σ' H', Inv X pins σ' H' s' ∧ Q σ' H') X.xe s
/-- several targets, one after another -/
def PGs (X : Cx) (ts : List Expr) (t : TGs) : Prop :=
  ∀ (pins : List (Addr × Obj)) (s : Shared) (σ : St) (H : Hp) (vs : List V) (us : List Value) (Q : St → Hp → Prop), Inv X pins σ H s → Vals vs us → t vs σ H Q →
    wpAny (model X.prog X.w) X.A (assignInOrder ((assignEach ts X.env).map (·.2)) us) (fun _ s' => ∃ σ' H', Inv X pins σ' H' s' ∧ Q σ' H') X.xe s
/-- o[i] = v, by values -/
abbrev TSet := V → V → V → Hp → (Hp → Prop) → Prop
def PSet (X : Cx) (t : TSet) : Prop :=
  ∀ (pins : List (Addr × Obj)) (s : Shared) (σ : St) (H : Hp) (o i v : V) (ov iv u : Value) (Q : Hp → Prop), Inv X pins σ H s → RelV o ov → RelV i iv → RelV v u → t o i v H Q →
    wpAny (model X.prog X.w) X.A (setItem ov iv u) (fun _ s' => ∃ H', Inv X pins σ H' s' ∧ Q H') X.xe s
/-- a op= b, by values -/
abbrev TIp := V → V → Hp → VK → Prop
def PIp (X : Cx) (op : Operator) (t : TIp) : Prop :=
  ∀ (pins : List (Addr × Obj)) (s : Shared) (σ : St) (H : Hp) (x y : V) (v u : Value) (Q : VK), Inv X pins σ H s → RelV x v → RelV y u → t x y H Q →
    wpAny (model X.prog X.w) X.A (inplaceOp op v u) (EP X pins σ Q) X.xe s
section
variable {X : Cx} {pos : Pos}
def gName (i : Nat) : TG := fun v σ H Q => Q (σ.set i (some v)) H
theorem pg_name {i : Nat} {x : Str} (hN : X.N.Nodup) (hi : X.N[i]? = some x) (hx : Loc X.env.scope x) (hf : X.fn x = true ∨ X.env.scope.names.lookup x = some .local := by first | exact .inl rfl | exact .inr rfl | assumption) : PG X (.Name x pos) (gName i) := by
  intro pins s σ H v u Q I r h
  exact wpAny_assign_Name (store_ok I hN hi hx r (fun s' I' => ⟨_, H, I', h⟩) hf)
def gNil : TGs := fun vs σ H Q => vs = [] ∧ Q σ H
def gCons (t : TG) (u : TGs) : TGs := fun vs σ H Q => ∃ v r, vs = v :: r ∧ t v σ H fun σ' H' => u r σ' H' Q
theorem pgs_nil : PGs X [] gNil := by
  intro pins s σ H vs us Q I r h
  obtain ⟨e, h⟩ := h
  subst e
  cases r
  exact assignInOrder_nil ⟨σ, H, I, h⟩
theorem pgs_cons {e : Expr} {es : List Expr} {t : TG} {u : TGs} (h1 : PG X e t) (h2 : PGs X es u)
    (hs : (assignEach (e :: es) X.env).map (·.2) = assign e X.env :: (assignEach es X.env).map (·.2) := by rfl) : PGs X (e :: es) (gCons t u) := by
  intro pins s σ H vs us Q I r h
  obtain ⟨v, vr, e1, h⟩ := h
  subst e1
  cases r with
  | cons r rr =>
    rw [hs]
    refine assignInOrder_cons (thn (h1 pins s σ H _ _ _ I r h) fun _ s1 ⟨σ1, H1, I1, q1⟩ => ?_)
    exact h2 pins s1 σ1 H1 _ _ Q I1 rr q1
/-- (a, b, ..) = a tuple of that length -/
def gTup (K : PySem.W.Frag) (n : Nat) (t : TGs) : TG := fun v σ H Q => ∃ a xs, v = .ref a ∧ SqT K H a xs ∧ xs.length = n ∧ t xs σ H Q
theorem pg_tup {es : List Expr} {k : Nat} {t : TGs} {n : Nat} (hc : X.calm = true) (h : PGs X es t)
    (hn : (assignEach es X.env).length = n := by rfl) (hst : (assignEach es X.env).findIdx? (·.1) = none := by rfl) : PG X (.Tuple es k pos) (gTup X.K n t) := by
  intro pins s σ H v u Q I r hw
  obtain ⟨a, xs, e1, hq, hl, hw⟩ := hw
  subst e1
  cases r
  obtain ⟨its, rv, ht, hz⟩ := I.tuple hq
  refine assign_Tuple_tuple (I.ok.hd hc) ht (by simp [hn, ← hl, rv.length]) hst fun h' hx => ?_
  have I1 : Inv X pins σ H { s with heap := h' } := I.kept (t' := s.toks) fun b o e => hx b o (Nat.ne_of_lt (Heap.lt_size e)) e
  exact h pins _ σ H xs _ Q I1 (by simpa using rv) hw
/-- o[i] = .. -/
def gSub (to ti : TE) (t : TSet) : TG := fun v σ H Q => to σ H fun o H1 => ti σ H1 fun i H2 => t o i v H2 fun H3 => Q σ H3
theorem pg_sub {o i : Expr} {to ti : TE} {t : TSet} (ho : PE X o to) (hi : PE X i ti) (hs : PSet X t)
    (ha : ∀ v, assign (.Subscript o i pos) X.env v = (do
      let ov ← holding [v] (eval o X.env)
      let iv ← holding [v, ov] (eval i X.env)
      standAt pos
      holding [v, ov, iv] (setItem ov iv v)
      release [v, ov, iv] []) := by intro _; rfl) : PG X (.Subscript o i pos) (gSub to ti t) := by
  intro pins s σ H v u Q I r h
  rw [ha]
  refine wpAny_bind (wpAny_holding (thn (ho pins s σ H _ I h) fun ov s1 ⟨x, H1, I1, r1, q1⟩ => ?_))
  refine wpAny_bind (wpAny_holding (thn (hi pins s1 σ H1 _ I1 q1) fun iv s2 ⟨y, H2, I2, r2, q2⟩ => ?_))
  refine wpAny_bind (wpAny_standAt (wpAny_bind (wpAny_holding (thn (hs pins s2 σ H2 x y v ov iv u _ I2 r1 r2 r q2) fun _ s3 ⟨H3, I3, q3⟩ => ?_))))
  exact wpAny_release ⟨σ, H3, I3, q3⟩
/-- target = value -/
def tAsg (te : TE) (g : TG) : TS := fun D σ H => te σ H fun x H1 => g x σ H1 D.nx
theorem ps_asg {tg e : Expr} {te : TE} {g : TG} (he : PE X e te) (hg : PG X tg g) (hs : swapsWithSole [tg] e pos.line X.env = pure false := by rfl) (hw : swappedStores [tg] e X.env = pure none := by rfl)
    (h1 : (assignEach [tg] X.env).map (·.2) = [assign tg X.env] := by rfl) : PS X (.Assign [tg] e pos) (tAsg te g) := by
  intro pins s σ H D I h
  refine wpAny_Assign_stores (thn (he pins s σ H _ I h) fun v s1 ⟨x, H1, I1, r1, q1⟩ => ?_) hs hw
  rw [h1]
  exact thn (hg pins s1 σ H1 x v _ I1 r1 q1) fun _ s2 q => q
/-- name = value -/
theorem ps_set {i : Nat} {x : Str} {e : Expr} {te : TE} {pos' : Pos} (hN : X.N.Nodup) (hi : X.N[i]? = some x) (hx : Loc X.env.scope x) (he : PE X e te) (hs : swapsWith e (some (.Name x pos')) pos.line X.env = pure false := by rfl) (hf : X.fn x = true ∨ X.env.scope.names.lookup x = some .local := by first | exact .inl rfl | exact .inr rfl | assumption) :
    PS X (.Assign [.Name x pos'] e pos) (tAsg te (gName i)) := by
  intro pins s σ H D I h
  refine wpAny_Assign_Name (thn (he pins s σ H _ I h) fun v s1 ⟨y, H1, I1, r1, q1⟩ => ?_) hs
  exact store_ok I1 hN hi hx r1 (fun s2 I2 => ⟨_, H1, I2, q1⟩) hf
/-- a, b = x, y with plain local names: stored from the right; the pair itself is not tracked (the opening rows as in PyProof/Rows/TupAssign.lean:23) -/
def tPar (i j : Nat) (ta : TA) : TS := fun D σ H => ta σ H fun vs H1 => ∃ v w, vs = [v, w] ∧ D.nx ((σ.set i (some v)).set j (some w)) H1
theorem ps_par {i j : Nat} {x y : Str} {a b : Expr} {ta : TA} {px py pt : Pos} {kt k2 pt2} (hc : X.calm = true) (hN : X.N.Nodup) (hi : X.N[i]? = some x) (hj : X.N[j]? = some y) (hij : i ≠ j)
    (hx : X.env.scope.names.lookup x = some .local) (hy : X.env.scope.names.lookup y = some .local) (ha : PA X [a, b] ta)
    (hw : swappedStores [.Tuple [.Name x px, .Name y py] kt pt] (.Tuple [a, b] k2 pt2) X.env = pure (some [x, y]))
    (hs : swapsWithSole [.Tuple [.Name x px, .Name y py] kt pt] (.Tuple [a, b] k2 pt2) pos.line X.env = pure false := by rfl) :
    PS X (.Assign [.Tuple [.Name x px, .Name y py] kt pt] (.Tuple [a, b] k2 pt2) pos) (tPar i j ta) := by
  intro pins s σ H D I h
  rw [exec_Assign_arm]
  refine wpAny_bind (wpAny_standAt ?_)
  rw [hs]
  refine wpAny_bind (wpAny_pure ?_)
  rw [if_neg (by decide)]
  refine wpAny_bind (Tuple_ (thn (ha _ pins s σ H _ I h) fun us s1 ⟨vs, H1, I1, r1, q1⟩ => ?_))
  obtain ⟨v, w, e1, q1⟩ := q1
  subst e1
  obtain ⟨u1, u2, rfl, rv, rw'⟩ : ∃ u1 u2, us = [u1, u2] ∧ RelV v u1 ∧ RelV w u2 := by
    cases r1 with
    | cons p q =>
      cases q with
      | cons p' q' =>
        cases q'
        exact ⟨_, _, rfl, p, p'⟩
  refine wpAny_newObj_type ?_ (by show 2 ≤ sizeLine; decide)
  have I2 : Inv X pins σ H1 { s1 with heap := s1.heap.push { cls := .type "tuple", data := .seq [u1, u2].toArray } } := I1.kept (t' := s1.toks) fun b o e => Heap.get?_push_of_some _ e
  rw [hw]
  refine wpAny_bind (wpAny_pure ?_)
  show wpAny (model X.prog X.w) X.A (do rule "assign.swapped-stores"; let items ← unpackItems (.ref s1.heap.objs.size) 2 none; assignInOrder [fun v => bindName X.env y v, fun v => bindName X.env x v] items.reverse; pure Flow.next) _ _ _
  refine wpAny_bind (wpAny_rule (wpAny_bind (unpackItems_tuple (items := #[u1, u2]) (I.ok.hd hc) (IsTup.new s1.heap _) fun h' hx' => ?_)))
  have I3 := I2.kept (h' := h') (t' := s1.toks) fun b o e => hx' b o (Nat.ne_of_lt (Heap.lt_size e)) e
  show wpAny _ _ (assignInOrder [fun v => bindName X.env y v, fun v => bindName X.env x v] [u2, u1] >>= fun _ => pure Flow.next) _ _ _
  refine wpAny_bind (assignInOrder_cons (wpAny_bindName (store_ok I3 hN hj (.inl hy) rw' (fun s2 I4 => ?_) (.inr hy))))
  refine assignInOrder_cons (wpAny_bindName (store_ok I4 hN hi (.inl hx) rv (fun s3 I5 => assignInOrder_nil (wpAny_pure ?_)) (.inr hx)))
  rw [List.set_comm _ _ (Ne.symm hij)] at I5
  exact ⟨_, H1, I5, q1⟩
/-- name op= e -/
def tAug (i : Nat) (te : TE) (ti : TIp) : TS := fun D σ H => ∃ x, σ[i]? = some (some x) ∧ te σ H fun y H1 => ti x y H1 fun z H2 => D.nx (σ.set i (some z)) H2
theorem ps_aug {i : Nat} {x : Str} {e : Expr} {te : TE} {op : Operator} {ti : TIp} {pos' : Pos} (hN : X.N.Nodup) (hi : X.N[i]? = some x) (hx : Loc X.env.scope x) (he : PE X e te) (ho : PIp X op ti) (hf : X.fn x = true ∨ X.env.scope.names.lookup x = some .local := by first | exact .inl rfl | exact .inr rfl | assumption) :
    PS X (.AugAssign (.Name x pos') op e pos) (tAug i te ti) := by
  intro pins s σ H D I h
  obtain ⟨v, e1, h⟩ := h
  obtain ⟨m, hn, hl⟩ := I.loc
  have vis : Vis X.env.scope x := by rcases hx with k | k; exact .inl k; exact .inr (.inl k)
  obtain ⟨u, r, l⟩ := hl i x v hi e1 vis
  refine wpAny_AugAssign_Name ?_
  have go : wpAny (model X.prog X.w) X.A (eval e X.env) (fun w s₂ => wpAny (model X.prog X.w) X.A (inplaceOp op u w) (fun r s₃ => wpAny (model X.prog X.w) X.A (storeName X.env x r) (fun _ => SP X pins D .next) X.xe s₃) X.xe s₂) X.xe s := by
    refine thn (he pins s σ H _ I h) fun w s1 ⟨y, H1, I1, r1, q1⟩ => ?_
    refine thn (ho pins s1 σ H1 v y u w _ I1 r r1 q1) fun z s2 ⟨zv, H2, I2, r2, q2⟩ => ?_
    exact store_ok I2 hN hi hx r2 (fun s3 I3 => ⟨_, H2, I3, q2⟩) hf
  rcases l with ⟨hk, hm⟩ | ⟨hk, c, hc, hcell⟩
  · exact wpAny_loadName_local I.ok.kind hk hn hm go
  · rcases hk with hk | hk
    · exact wpAny_loadName_cell I.ok.kind hk hc hcell go
    · rcases hx with k | k
      · have : X.env.scope.names.lookup x = some .free := hk
        rw [k] at this; cases this
      · have : X.env.scope.names.lookup x = some .free := hk
        rw [k] at this; cases this
/-- o[i] op= e -/
def tAugS (to ti te : TE) (tget : V → V → Hp → VK → Prop) (tip : TIp) (tset : TSet) : TS := fun D σ H => to σ H fun o H1 => ti σ H1 fun i H2 => tget o i H2 fun x H3 => te σ H3 fun y H4 => tip x y H4 fun z H5 => tset o i z H5 fun H6 => D.nx σ H6
/-- o[i], by values -/
def PGet (X : Cx) (t : V → V → Hp → VK → Prop) : Prop :=
  ∀ (pins : List (Addr × Obj)) (s : Shared) (σ : St) (H : Hp) (o i : V) (ov iv : Value) (Q : VK), Inv X pins σ H s → RelV o ov → RelV i iv → t o i H Q →
    wpAny (model X.prog X.w) X.A (getItem ov iv) (EP X pins σ Q) X.xe s
theorem ps_augS {o i e : Expr} {to ti te : TE} {tget : V → V → Hp → VK → Prop} {tip : TIp} {tset : TSet} {op : Operator} {tpos : Pos} (ho : PE X o to) (hi : PE X i ti) (hg : PGet X tget) (he : PE X e te) (hp : PIp X op tip) (hs : PSet X tset)
    (ha : ∀ ov iv new, augStore i ov iv new = (do holding [new, ov, iv] (setItem ov iv new); release [new, ov, iv] []; pure .next) := by intros; rfl) : PS X (.AugAssign (.Subscript o i tpos) op e pos) (tAugS to ti te tget tip tset) := by
  intro pins s σ H D I h
  refine wpAny_AugAssign_SubscriptAny (thn (ho pins s σ H _ I h) fun ov s1 ⟨x1, H1, I1, r1, q1⟩ => ?_) ha
  refine thn (hi pins s1 σ H1 _ I1 q1) fun iv s2 ⟨x2, H2, I2, r2, q2⟩ => ?_
  refine thn (hg pins s2 σ H2 x1 x2 ov iv _ I2 r1 r2 q2) fun old s3 ⟨x3, H3, I3, r3, q3⟩ => ?_
  refine thn (he pins s3 σ H3 _ I3 q3) fun v s4 ⟨x4, H4, I4, r4, q4⟩ => ?_
  refine thn (hp pins s4 σ H4 x3 x4 old v _ I4 r3 r4 q4) fun new s5 ⟨x5, H5, I5, r5, q5⟩ => ?_
  exact thn (hs pins s5 σ H5 x1 x2 x5 ov iv new _ I5 r1 r2 r5 q5) fun _ s6 ⟨H6, I6, q6⟩ => ⟨σ, H6, I6, q6⟩
/-- ints -/
def ipI (f : Int → Int → Int) : TIp := fun x y H Q => ∃ i j, x = .int i ∧ y = .int j ∧ Q (.int (f i j)) H
theorem ip_add : PIp X .Add (ipI fun i j => i + j) := by
  intro pins s σ H x y v u Q I r1 r2 h
  obtain ⟨i, j, e1, e2, q⟩ := h
  subst e1; subst e2
  obtain ⟨t, rfl⟩ := r1
  obtain ⟨t', rfl⟩ := r2
  exact iadd_int ⟨.int _, H, I.tok _, ⟨_, rfl⟩, q⟩
theorem ip_sub : PIp X .Sub (ipI fun i j => i - j) := by
  intro pins s σ H x y v u Q I r1 r2 h
  obtain ⟨i, j, e1, e2, q⟩ := h
  subst e1; subst e2
  obtain ⟨t, rfl⟩ := r1
  obtain ⟨t', rfl⟩ := r2
  exact isub_int ⟨.int _, H, I.tok _, ⟨_, rfl⟩, q⟩
end

/-! ### while -/
section
variable {X : Cx} {pos : Pos}
/-- the invariant W with its measure -/
def tWhile (c : TT) (tb : TS) : TS := fun D σ H => ∃ W : Nat → St → Hp → Prop, (∃ m, W m σ H) ∧ ∀ m σ H, W m σ H →
  c σ H fun b H1 => if b = true then ∃ N : St → Hp → Prop, (∀ σ' H', N σ' H' → ∃ m', m' < m ∧ W m' σ' H') ∧ tb { D with nx := N, ct := N, bk := D.nx } σ H1 else D.nx σ H1
theorem ps_while {c : Expr} {body : List Stmt} {tc : TT} {tb : TS} (hp : PassesOwn (model X.prog X.w) X.A X.env X.xe) (hc : PT X c tc) (hb : PSs X body tb) : PS X (.While c body [] pos) (tWhile tc tb) := by
  intro pins s σ H D I h
  obtain ⟨W, ⟨m0, w0⟩, turn⟩ := h
  refine wpAny_While (codeAny_whileLoop (fun n s' => ∃ σ' H', Inv X pins σ' H' s' ∧ W n σ' H') ?_ m0 ⟨σ, H, I, w0⟩)
  rintro n s1 ⟨σ1, H1, I1, w1⟩
  refine wpAny_passesOwn hp (thn (hc pins s1 σ1 H1 _ I1 (turn n σ1 H1 w1)) fun b s2 ⟨H2, I2, q2⟩ => ?_)
  cases b with
  | true =>
    obtain ⟨N, hN, q2⟩ := q2
    rw [if_pos rfl]
    refine wpAny_passesOwn hp (thn (hb pins s2 σ1 H2 _ I2 q2) fun f s3 q3 => ?_)
    cases f with
    | next =>
      obtain ⟨σ3, H3, I3, n3⟩ := q3
      obtain ⟨m', hm, w3⟩ := hN σ3 H3 n3
      exact ⟨m', hm, σ3, H3, I3, w3⟩
    | cont =>
      obtain ⟨σ3, H3, I3, n3⟩ := q3
      obtain ⟨m', hm, w3⟩ := hN σ3 H3 n3
      exact ⟨m', hm, σ3, H3, I3, w3⟩
    | brk => exact q3
    | ret v => exact q3
  | false =>
    rw [if_neg Bool.false_ne_true]
    exact wpAny_execs_nil ⟨σ1, H2, I2, q2⟩
end

/-! ### what a loop or a comprehension walks -/
/-- at turn i: it yields x (the heap may grow), or it stops -/
structure It where
  go : Nat → Hp → Prop
  yld : Nat → Hp → V → Hp → Prop
  stop : Nat → Hp → Prop
/-- the iterator's own objects may turn: they are not the frame's, not pinned, younger than the entry (or a comprehension's own) -/
def FpOk (X : Cx) (pins : List (Addr × Obj)) (H : Hp) (b : Addr) : Prop :=
  H b = none ∧ b ≠ X.env.locals ∧ b ∉ X.fs ∧ (b ∈ X.ex ∨ X.s₀.heap.objs.size ≤ b) ∧ (∀ x c, X.env.cells.lookup x = some c → c ≠ b) ∧ ∀ p ∈ X.pn ++ pins, p.1 ≠ b
theorem Inv.fpOk {X : Cx} {pins : List (Addr × Obj)} {σ : St} {H H' : Hp} {s : Shared} {b : Addr} (I : Inv X pins σ H s) (hb : s.heap.objs.size ≤ b) (hn : H' b = none) : FpOk X pins H' b := by
  refine ⟨hn, Nat.ne_of_gt (Nat.lt_of_lt_of_le I.lt hb), I.nofs hb, .inr (Nat.le_trans I.sz hb), fun x c e z => ?_, fun p hp z => ?_⟩
  · obtain ⟨v, q⟩ := I.cell x c e
    exact absurd (Nat.lt_of_lt_of_le q.lt (by rw [z]; exact hb)) (Nat.lt_irrefl _)
  · exact absurd (Nat.lt_of_lt_of_le (Heap.lt_size (I.pin p hp).1) (by rw [z]; exact hb)) (Nat.lt_irrefl _)
structure Turn (P : Program) (w : World) (K : PySem.W.Frag) (tg : Expr) (J : It) (fp : List Addr) (it : Addr) (tn : Nat → Heap → Prop) : Prop where
  mem : it ∈ fp
  obj : ∀ i h, tn i h → ∀ b ∈ fp, ∃ o, h.get? b = some o ∧ ∀ v, o.data ≠ .cell v
  keep : ∀ i h h', tn i h → (∀ b ∈ fp, ∀ o, h.get? b = some o → h'.get? b = some o) → tn i h'
  item : ∀ (X : Cx), X.prog = P → X.w = w → X.K = K → X.calm = true → ∀ (i : Nat) (pins : List (Addr × Obj)) (s : Shared) (σ : St) (H : Hp) (E : Value → Shared → Prop), Inv X pins σ H s → (∀ b ∈ fp, FpOk X pins H b) → tn i s.heap → J.go i H →
    wpAny (model P w) X.A (pyNext (.ref it)) (fun r s1 => ∃ u, r = some u ∧
      wpAny (model P w) X.A (letOwnedTupleGo tg (.ref it) u) (fun _ s2 => ∃ x H', Inv X pins σ H' s2 ∧ RelV x u ∧ J.yld i H x H' ∧ tn (i + 1) s2.heap ∧ ∀ b ∈ fp, H' b = none) E s1) E s
  done : ∀ (X : Cx), X.prog = P → X.w = w → X.K = K → X.calm = true → ∀ (i : Nat) (pins : List (Addr × Obj)) (s : Shared) (σ : St) (H : Hp) (E : Value → Shared → Prop), Inv X pins σ H s → (∀ b ∈ fp, FpOk X pins H b) → tn i s.heap → J.stop i H →
    wpAny (model P w) X.A (pyNext (.ref it)) (fun r s1 => r = none ∧ Inv X pins σ H s1) E s
  self : ∀ (A : Around) (i : Nat) (s : Shared) (Q : Value → Shared → Prop) (E : Value → Shared → Prop), tn i s.heap → Q (.ref it) s → wpAny (model P w) A (pyIter (.ref it)) Q E s
abbrev TI := St → Hp → (It → Hp → Prop) → Prop
/-- an iterator has come -/
def PIE (X : Cx) (pins : List (Addr × Obj)) (σ : St) (tg : Expr) (R : It → Hp → Prop) (itv : Value) (s2 : Shared) : Prop :=
  ∃ (it : Addr) (fp : List Addr) (tn : Nat → Heap → Prop) (J : It) (H' : Hp), itv = .ref it ∧ Inv X pins σ H' s2 ∧ Turn X.prog X.w X.K tg J fp it tn ∧ tn 0 s2.heap ∧ (∀ b ∈ fp, FpOk X pins H' b) ∧ R J H'
def PI (X : Cx) (tg iter : Expr) (wi : TI) : Prop :=
  ∀ (pins : List (Addr × Obj)) (s : Shared) (σ : St) (H : Hp) (R : It → Hp → Prop), Inv X pins σ H s → wi σ H R →
    wpAny (model X.prog X.w) X.A (eval iter X.env) (fun v s1 => wpAny (model X.prog X.w) X.A (pyIter v) (PIE X pins σ tg R) X.xe s1) X.xe s

/-- the step ahead of the store is nothing for an iterator that keeps no tuple -/
theorem go_of {M : Model} {A : Around} {E : Value → Shared → Prop} {s : Shared} {tg : Expr} {it : Addr} {u : Value} {o : Obj} {n : String} {vs : Array Value} {Q : Unit → Shared → Prop} (ho : s.heap.get? it = some o) (hc : o.cls = .type n) (hd : o.data = .fields vs)
    (hn : ["enumerate", "zip", "dict_itemiterator", "dict_reverseitemiterator", "odict_iterator", "itertools.zip_longest", "itertools.pairwise"].contains n = false) (hQ : Q () s) : wpAny M A (letOwnedTupleGo tg (.ref it) u) Q E s := by
  unfold letOwnedTupleGo
  cases tg <;> first
    | exact wpAny_pure hQ
    | (cases u <;> first
        | exact wpAny_pure hQ
        | (refine wpAny_bind (wpAny_load ho ?_)
           rw [hc, hd]
           show wpAny M A (if (["enumerate", "zip", "dict_itemiterator", "dict_reverseitemiterator", "odict_iterator", "itertools.zip_longest", "itertools.pairwise"].contains n && vs[0]? == some (rawInt _)) = true then _ else _) Q E s
           rw [if_neg (by intro h; rw [hn, Bool.false_and] at h; cases h)]
           exact wpAny_pure hQ))

/-- the list at a, as it stands at each turn (a loop may append to it) -/
def Itl (K : PySem.W.Frag) (a : Addr) : It :=
  ⟨fun i H => ∃ xs x, SqL K H a xs ∧ xs[i]? = some x, fun i H x H' => H' = H ∧ ∀ xs, SqL K H a xs → xs[i]? = some x, fun i H => ∃ xs, SqL K H a xs ∧ xs.length ≤ i⟩
def Itt (K : PySem.W.Frag) (a : Addr) : It :=
  ⟨fun i H => ∃ xs x, SqT K H a xs ∧ xs[i]? = some x, fun i H x H' => H' = H ∧ ∀ xs, SqT K H a xs → xs[i]? = some x, fun i H => ∃ xs, SqT K H a xs ∧ xs.length ≤ i⟩
/-- lo, lo + 1, .. (n of them) -/
def Itr (lo : Int) (n : Nat) : It := ⟨fun i _ => i < n, fun i H x H' => H' = H ∧ x = .int (lo + i), fun i _ => n ≤ i⟩
theorem turn_list {P : Program} {w : World} {K : PySem.W.Frag} {tg : Expr} (a it : Addr) : Turn P w K tg (Itl K a) [it] it (fun i h => h.IsListIter it a i) where
  mem := by simp
  obj := fun i h st b hb => by
    have e : b = it := by simpa using hb
    subst e
    obtain ⟨o, e, c, d⟩ := st
    exact ⟨o, e, fun v z => by rw [d] at z; cases z⟩
  keep := fun i h h' st k => st.at fun o e => k it (by simp) o e
  item := by
    intro X hP hw hK hc i pins s σ H E I hf st hg
    subst hP hw hK
    obtain ⟨xs, x, hq, hx⟩ := hg
    obtain ⟨its, rv, p, hz⟩ := I.list hq
    obtain ⟨u, hu, ru⟩ := rv.get hx
    obtain ⟨f0, f1, f2, f3, f4, f5⟩ := hf it (by simp)
    refine wpAny_pyNext_list_item st p.isList (x := u) (by simpa using hu) fun h' st' sb => ?_
    have I1 : Inv X pins σ H { s with heap := h' } := I.turned (t' := s.toks) (fun b o hb e => (sb.2 b hb).trans e) f0 f1 f3 f4 f5
    obtain ⟨o, e, c, d⟩ := id st'
    exact ⟨u, rfl, go_of (s := { s with heap := h' }) e c d (by decide) ⟨x, H, I1, ru, ⟨rfl, fun ys hy => by rw [I.list_inj hy hq]; exact hx⟩, st', fun b hb => (hf b hb).1⟩⟩
  done := by
    intro X hP hw hK hc i pins s σ H E I hf st hg
    subst hP hw hK
    obtain ⟨xs, hq, hx⟩ := hg
    obtain ⟨its, rv, p, hz⟩ := I.list hq
    obtain ⟨f0, f1, f2, f3, f4, f5⟩ := hf it (by simp)
    have hl := rv.length
    exact wpAny_pyNext_list_end (I.ok.hd hc) st p.isList (by simp; omega) fun h' eb => ⟨rfl, I.turned (t' := s.toks) (fun b o hb e => eb b o hb e) f0 f1 f3 f4 f5⟩
  self := fun _ _ _ _ _ st h => wpAny_pyIter_listiter st h
theorem turn_tuple {P : Program} {w : World} {K : PySem.W.Frag} {tg : Expr} (a it : Addr) : Turn P w K tg (Itt K a) [it] it (fun i h => h.IsTupleIter it a i) where
  mem := by simp
  obj := fun i h st b hb => by
    have e : b = it := by simpa using hb
    subst e
    obtain ⟨o, e, c, d⟩ := st
    exact ⟨o, e, fun v z => by rw [d] at z; cases z⟩
  keep := fun i h h' st k => st.at fun o e => k it (by simp) o e
  item := by
    intro X hP hw hK hc i pins s σ H E I hf st hg
    subst hP hw hK
    obtain ⟨xs, x, hq, hx⟩ := hg
    obtain ⟨its, rv, p, hz⟩ := I.tuple hq
    obtain ⟨u, hu, ru⟩ := rv.get hx
    obtain ⟨f0, f1, f2, f3, f4, f5⟩ := hf it (by simp)
    refine wpAny_pyNext_tuple_item st (show s.heap.IsTuple a its.toArray from p) (x := u) (by simpa using hu) fun h' st' sb => ?_
    have I1 : Inv X pins σ H { s with heap := h' } := I.turned (t' := s.toks) (fun b o hb e => (sb.2 b hb).trans e) f0 f1 f3 f4 f5
    obtain ⟨o, e, c, d⟩ := id st'
    exact ⟨u, rfl, go_of (s := { s with heap := h' }) e c d (by decide) ⟨x, H, I1, ru, ⟨rfl, fun ys hy => by rw [I.tuple_inj hy hq]; exact hx⟩, st', fun b hb => (hf b hb).1⟩⟩
  done := by
    intro X hP hw hK hc i pins s σ H E I hf st hg
    subst hP hw hK
    obtain ⟨xs, hq, hx⟩ := hg
    obtain ⟨its, rv, p, hz⟩ := I.tuple hq
    obtain ⟨f0, f1, f2, f3, f4, f5⟩ := hf it (by simp)
    have hl := rv.length
    exact wpAny_pyNext_tuple_end (I.ok.hd hc) st (show s.heap.IsTuple a its.toArray from p) (by simp; omega) fun h' eb => ⟨rfl, I.turned (t' := s.toks) (fun b o hb e => eb b o hb e) f0 f1 f3 f4 f5⟩
  self := fun _ _ _ _ _ st h => wpAny_pyIter_tupleiter st h
theorem turn_range {P : Program} {w : World} {K : PySem.W.Frag} {tg : Expr} (it : Addr) (lo : Int) (n : Nat) : Turn P w K tg (Itr lo n) [it] it (fun i h => IsRangeIter h it (lo + (i : Nat) * 1) ((n : Int) - (i : Nat)) 1) where
  mem := by simp
  obj := fun i h st b hb => by
    have e : b = it := by simpa using hb
    subst e
    exact ⟨_, st, fun v z => by
      have z' : Data.fields _ = Data.cell v := z
      cases z'⟩
  keep := fun i h h' st k => k it (by simp) _ st
  item := by
    intro X hP hw hK hc i pins s σ H E I hf st hg
    subst hP hw hK
    obtain ⟨f0, f1, f2, f3, f4, f5⟩ := hf it (by simp)
    have W := Walks.range (prog := X.prog) (w := X.w) (I.ok.hd hc) it lo 1 n
    refine W.item i s _ _ hg st fun v h' tk hv st' kk => ?_
    obtain ⟨t, rfl⟩ := hv
    have I1 : Inv X pins σ H { s with heap := h', toks := tk } := I.turned (fun b o hb e => kk b o (by simpa using hb) e) f0 f1 f3 f4 f5
    refine ⟨_, rfl, go_of (s := { s with heap := h', toks := tk }) (n := "range_iterator") st' rfl rfl (by decide) ⟨.int (lo + i), H, I1, ⟨t, ?_⟩, ⟨rfl, rfl⟩, st', fun b hb => (hf b hb).1⟩⟩
    rw [Int.mul_one]
  done := by
    intro X hP hw hK hc i pins s σ H E I hf st hg
    subst hP hw hK
    obtain ⟨f0, f1, f2, f3, f4, f5⟩ := hf it (by simp)
    exact wpAny_pyNext_range_end (I.ok.hd hc) st (by have : n ≤ i := hg; omega) fun h' eb => ⟨rfl, I.turned (t' := s.toks) (fun b o hb e => eb b o hb e) f0 f1 f3 f4 f5⟩
  self := fun _ _ _ _ _ st h => wpAny_pyIter_rangeiter st h
end L2

namespace L2
open PySem PySem.Spec PyProof.Rows
section
variable {X : Cx} {tg : Expr}
def iList (K : PySem.W.Frag) (tl : TE) : TI := fun σ H R => tl σ H fun x H1 => ∃ a, x = .ref a ∧ (∃ xs, SqL K H1 a xs) ∧ R (Itl K a) H1
def iTup (K : PySem.W.Frag) (tl : TE) : TI := fun σ H R => tl σ H fun x H1 => ∃ a, x = .ref a ∧ (∃ xs, SqT K H1 a xs) ∧ R (Itt K a) H1
theorem pi_list {l : Expr} {tl : TE} (hl : PE X l tl) : PI X tg l (iList X.K tl) := by
  intro pins s σ H R I h
  refine thn (hl pins s σ H _ I h) fun v s1 ⟨x, H1, I1, r1, q1⟩ => ?_
  obtain ⟨a, e, ⟨xs, hq⟩, q⟩ := q1
  subst e
  cases r1
  obtain ⟨its, rv, p, hz⟩ := I1.list hq
  refine wpAny_pyIter_list p.isList ?_
  refine ⟨s1.heap.objs.size, [s1.heap.objs.size], _, _, H1, rfl, I1.kept (t' := s1.toks) fun b o e => Heap.get?_push_of_some _ e, turn_list a _, ⟨_, Heap.get?_push_size _ rfl, rfl, rfl⟩, fun b hb => ?_, q⟩
  have e : b = s1.heap.objs.size := by simpa using hb
  subst e
  exact I1.fpOk (Nat.le_refl _) (I1.hok.fresh (Nat.le_refl _))
theorem pi_tup {l : Expr} {tl : TE} (hl : PE X l tl) : PI X tg l (iTup X.K tl) := by
  intro pins s σ H R I h
  refine thn (hl pins s σ H _ I h) fun v s1 ⟨x, H1, I1, r1, q1⟩ => ?_
  obtain ⟨a, e, ⟨xs, hq⟩, q⟩ := q1
  subst e
  cases r1
  obtain ⟨its, rv, p, hz⟩ := I1.tuple hq
  refine wpAny_pyIter_tuple (show s1.heap.IsTuple a its.toArray from p) ?_
  refine ⟨s1.heap.objs.size, [s1.heap.objs.size], _, _, H1, rfl, I1.kept (t' := s1.toks) fun b o e => Heap.get?_push_of_some _ e, turn_tuple a _, ⟨_, Heap.get?_push_size _ rfl, rfl, rfl⟩, fun b hb => ?_, q⟩
  have e : b = s1.heap.objs.size := by simpa using hb
  subst e
  exact I1.fpOk (Nat.le_refl _) (I1.hok.fresh (Nat.le_refl _))
/-- a range object just made, walked -/
theorem range_it {pins : List (Addr × Obj)} {σ : St} {H : Hp} {s : Shared} {R : It → Hp → Prop} {E : Value → Shared → Prop} {lo hi : Int} {t u v : Tok} {tk : Nat} (I : Inv X pins σ H s) (h1 : -(2 ^ 62) ≤ lo) (h2 : lo < 2 ^ 62) (h3 : -(2 ^ 62) ≤ hi) (h4 : hi < 2 ^ 62)
    (q : R (Itr lo (hi - lo).toNat) H) : wpAny (model X.prog X.w) X.A (pyIter (.ref s.heap.objs.size)) (PIE X pins σ tg R) E { s with heap := s.heap.push { cls := .type "range", data := .fields #[.int lo t, .int hi u, .int 1 v] }, toks := tk } := by
  refine wpAny_pyIter_range (IsRange.new ..) (small_one h1 h2 h3 h4) ?_
  have I1 : Inv X pins σ H { s with heap := s.heap.push { cls := .type "range", data := .fields #[.int lo t, .int hi u, .int 1 v] }, toks := tk } := I.kept fun b o e => Heap.get?_push_of_some _ e
  refine ⟨(s.heap.push { cls := .type "range", data := .fields #[.int lo t, .int hi u, .int 1 v] }).objs.size, [(s.heap.push { cls := .type "range", data := .fields #[.int lo t, .int hi u, .int 1 v] }).objs.size], _, _, H, rfl,
    I1.kept (t' := tk) fun b o e => Heap.get?_push_of_some _ e, turn_range _ lo (hi - lo).toNat, ?_, fun b hb => ?_, q⟩
  · have e1 : lo + ((0 : Nat) : Int) * 1 = lo := by simp
    have e2 : (((hi - lo).toNat : Nat) : Int) - ((0 : Nat) : Int) = Builtin.Range.rangeSize lo hi 1 := by rw [rangeSize_one]; split <;> omega
    show IsRangeIter _ _ (lo + ((0 : Nat) : Int) * 1) ((((hi - lo).toNat : Nat) : Int) - ((0 : Nat) : Int)) 1
    rw [e1, e2]
    exact Heap.get?_push_size _ rfl
  · have e : b = (s.heap.push { cls := .type "range", data := .fields #[.int lo t, .int hi u, .int 1 v] }).objs.size := by simpa using hb
    subst e
    exact I1.fpOk (Nat.le_refl _) (I1.hok.fresh (Nat.le_refl _))
def iRng1 (ta : TA) : TI := fun σ H R => ta σ H fun vs H1 => ∃ j : Int, vs = [.int j] ∧ -(2 ^ 62) ≤ j ∧ j < 2 ^ 62 ∧ R (Itr 0 j.toNat) H1
def iRng2 (ta : TA) : TI := fun σ H R => ta σ H fun vs H1 => ∃ i j : Int, vs = [.int i, .int j] ∧ (-(2 ^ 62) ≤ i ∧ i < 2 ^ 62 ∧ -(2 ^ 62) ≤ j ∧ j < 2 ^ 62) ∧ R (Itr i (j - i).toNat) H1
theorem pi_range1 {a : Expr} {ta : TA} {p pos : Pos} (hg : Gl X "range") (hm : X.mg "range" = none) (ha : PA X [a] ta) (hs : starEach [a] X.env = [(false, eval a X.env)] := by rfl) : PI X tg (.Call (.Name "range" p) [a] [] pos) (iRng1 ta) := by
  intro pins s σ H R I h
  refine Call_ (ld_blt I hg hm boot_range (PyProof.Rows.callWith_type1 (thn (ha pos pins s σ H _ I h) fun us s1 ⟨vs, H1, I1, r1, q1⟩ => ?_) hs rfl))
  obtain ⟨j, e, q1, q2, q⟩ := q1
  subst e
  cases r1 with
  | cons r rr =>
    cases rr
    obtain ⟨t, rfl⟩ := r
    exact call_range_1 (range_it I1 (by omega) (by omega) q1 q2 (by simpa using q))
theorem pi_range2 {a b : Expr} {ta : TA} {p pos : Pos} (hg : Gl X "range") (hm : X.mg "range" = none) (ha : PA X [a, b] ta) (hs : starEach [a, b] X.env = [(false, eval a X.env), (false, eval b X.env)] := by rfl) (hs2 : starEach [b] X.env = [(false, eval b X.env)] := by rfl) :
    PI X tg (.Call (.Name "range" p) [a, b] [] pos) (iRng2 ta) := by
  intro pins s σ H R I h
  refine Call_ (ld_blt I hg hm boot_range (PyProof.Rows.callWith_type1 (thn (ha pos pins s σ H _ I h) fun us s1 ⟨vs, H1, I1, r1, q1⟩ => ?_) (by rw [hs, hs2]) (by rw [hs2]; rfl)))
  obtain ⟨i, j, e, ⟨q1, q2, q3, q4⟩, q⟩ := q1
  subst e
  cases r1 with
  | cons r rr =>
    cases rr with
    | cons r' rr =>
      cases rr
      obtain ⟨t, rfl⟩ := r
      obtain ⟨t', rfl⟩ := r'
      exact call_range_2 (range_it I1 q1 q2 q3 q4 q)

/-! ### for -/
/-- W: the invariant by the turn and a measure; N: what the body is to reach -/
def tFor (wi : TI) (g : TG) (tb : TS) : TS := fun D σ H => wi σ H fun J H1 => ∃ W : Nat → Nat → St → Hp → Prop, (∃ m, W 0 m σ H1) ∧ ∀ i m σ H, W i m σ H →
  (J.stop i H ∧ D.nx σ H) ∨ (J.go i H ∧ ∃ N : St → Hp → Prop, (∀ σ' H', N σ' H' → ∃ m', m' < m ∧ W (i + 1) m' σ' H') ∧ ∀ x H', J.yld i H x H' → g x σ H' fun σ2 H2 => tb { D with nx := N, ct := N, bk := D.nx } σ2 H2)
/-- the records at fp as they stand -/
def pinsAt (fp : List Addr) (h : Heap) : List (Addr × Obj) := fp.filterMap fun b => (h.get? b).map fun o => (b, o)
theorem mem_pinsAt {fp : List Addr} {h : Heap} {b : Addr} {o : Obj} (hb : b ∈ fp) (e : h.get? b = some o) : (b, o) ∈ pinsAt fp h := List.mem_filterMap.mpr ⟨b, hb, by rw [e]; rfl⟩
theorem of_pinsAt {fp : List Addr} {h : Heap} {p : Addr × Obj} (hp : p ∈ pinsAt fp h) : p.1 ∈ fp ∧ h.get? p.1 = some p.2 := by
  obtain ⟨b, hb, e⟩ := List.mem_filterMap.mp hp
  cases q : h.get? b with
  | none => rw [q] at e; cases e
  | some o =>
    rw [q] at e
    have e' : (b, o) = p := Option.some.inj e
    subst e'
    exact ⟨hb, q⟩
theorem Inv.pinned {pins : List (Addr × Obj)} {σ : St} {H : Hp} {s : Shared} {fp : List Addr} (I : Inv X pins σ H s) (hf : ∀ b ∈ fp, FpOk X pins H b) (ho : ∀ b ∈ fp, ∃ o, s.heap.get? b = some o ∧ ∀ v, o.data ≠ .cell v) : Inv X (pins ++ pinsAt fp s.heap) σ H s :=
  I.pins_of fun p hp => (List.mem_append.mp hp).elim (fun z => I.pin p (List.mem_append_right _ z)) fun z => by
    obtain ⟨hb, e⟩ := of_pinsAt z
    obtain ⟨f0, f1, f2, _⟩ := hf p.1 hb
    obtain ⟨o, e', d⟩ := ho p.1 hb
    rw [e] at e'; cases e'
    exact ⟨e, f0, f1, f2, d⟩
theorem Inv.unpinned {pins pl : List (Addr × Obj)} {σ : St} {H : Hp} {s : Shared} (I : Inv X (pins ++ pl) σ H s) : Inv X pins σ H s := I.pins_of fun p hp => I.pin p (List.mem_append_right _ (List.mem_append_left _ hp))
theorem ps_for {iter : Expr} {body : List Stmt} {wi : TI} {g : TG} {tb : TS} {pos : Pos} (hp : PassesOwn (model X.prog X.w) X.A X.env X.xe) (hc : X.calm = true) (hi : PI X tg iter wi) (hg : PG X tg g) (hb : PSs X body tb)
    (hs : ∀ x, foldedSetIterable iter X.env x = pure x := by intro _; rfl) : PS X (.For tg iter body [] pos) (tFor wi g tb) := by
  intro pins s σ H D I h
  refine wpAny_For (thn (hi pins s σ H _ I h) fun v s1 h1 => thn h1 fun itv s2 h2 => ?_) hs
  obtain ⟨it, fp, tn, J, H2, e, I2, T, st2, f2, W, ⟨m0, w0⟩, turn⟩ := h2
  subst e
  -- what stays true of the iterator's objects through the loop
  have stat : ∀ {H' : Hp}, (∀ b ∈ fp, H' b = none) → ∀ b ∈ fp, FpOk X pins H' b := fun hn b hb => ⟨hn b hb, (f2 b hb).2⟩
  refine codeAny_forLoop_any (fun n s' => ∃ i σ' H', Inv X pins σ' H' s' ∧ tn i s'.heap ∧ (∀ b ∈ fp, H' b = none) ∧ W i n σ' H') ?_ m0 ⟨0, σ, H2, I2, st2, fun b hb => (f2 b hb).1, w0⟩
  rintro n s3 ⟨i, σ3, H3, I3, st3, fr3, w3⟩
  rcases turn i n σ3 H3 w3 with ⟨stop, qn⟩ | ⟨go, N, hN, step⟩
  · refine wpAny_passesOwn hp (thn (T.done X rfl rfl rfl hc i pins s3 σ3 H3 X.xe I3 (stat fr3) st3 stop) fun r s4 ⟨hr, I4⟩ => ?_)
    subst hr
    exact wpAny_execs_nil ⟨σ3, H3, I4, qn⟩
  · refine wpAny_passesOwn hp (thn (T.item X rfl rfl rfl hc i pins s3 σ3 H3 X.xe I3 (stat fr3) st3 go) fun r s4 ⟨u, hr, h4⟩ => ?_)
    subst hr
    refine wpAny_passesOwn hp (thn h4 fun _ s5 ⟨x, H5, I5, r5, y5, st5, fr5⟩ => ?_)
    have I5' := I5.pinned (stat fr5) (T.obj _ _ st5)
    refine wpAny_passesOwn hp (thn (hg _ s5 σ3 H5 x u _ I5' r5 (step x H5 y5)) fun _ s6 ⟨σ6, H6, I6, q6⟩ => ?_)
    refine wpAny_passesOwn hp (thn (hb _ s6 σ6 H6 _ I6 q6) fun f s7 q7 => ?_)
    have again : ∀ {σ7 : St} {H7 : Hp}, Inv X (pins ++ pinsAt fp s5.heap) σ7 H7 s7 → N σ7 H7 → ∃ m, m < n ∧ ∃ i σ' H', Inv X pins σ' H' s7 ∧ tn i s7.heap ∧ (∀ b ∈ fp, H' b = none) ∧ W i m σ' H' := fun {σ7 H7} I7 n7 => by
      obtain ⟨m', hm, w7⟩ := hN σ7 H7 n7
      refine ⟨m', hm, i + 1, σ7, H7, I7.unpinned, T.keep _ _ _ st5 fun b hb o e => (I7.pin (b, o) (List.mem_append_right _ (List.mem_append_right _ (mem_pinsAt hb e)))).1, fun b hb => ?_, w7⟩
      obtain ⟨o, e, d⟩ := T.obj _ _ st5 b hb
      exact (I7.pin (b, o) (List.mem_append_right _ (List.mem_append_right _ (mem_pinsAt hb e)))).2.1
    cases f with
    | next => obtain ⟨σ7, H7, I7, n7⟩ := q7; exact again I7 n7
    | cont => obtain ⟨σ7, H7, I7, n7⟩ := q7; exact again I7 n7
    | brk => obtain ⟨σ7, H7, I7, q7⟩ := q7; exact ⟨σ7, H7, I7.unpinned, q7⟩
    | ret v => obtain ⟨x7, σ7, H7, I7, r7, q7⟩ := q7; exact ⟨x7, σ7, H7, I7.unpinned, r7, q7⟩
end

/-! ### the forms one uses -/
/-- over a list that the body leaves as it is -/
theorem for_list {K : PySem.W.Frag} {a : Addr} {xs : List V} {g : TG} {tb : TS} {D : Ends} {σ : St} {H : Hp} (Pv : Nat → St → Hp → Prop) (h0 : Pv 0 σ H) (hl : ∀ i σ H, i ≤ xs.length → Pv i σ H → SqL K H a xs)
    (hs : ∀ i x σ H, xs[i]? = some x → Pv i σ H → g x σ H fun σ2 H2 => tb { D with nx := Pv (i + 1), ct := Pv (i + 1), bk := D.nx } σ2 H2) (hd : ∀ σ H, Pv xs.length σ H → D.nx σ H) :
    ∃ W : Nat → Nat → St → Hp → Prop, (∃ m, W 0 m σ H) ∧ ∀ i m σ H, W i m σ H →
      ((Itl K a).stop i H ∧ D.nx σ H) ∨ ((Itl K a).go i H ∧ ∃ N : St → Hp → Prop, (∀ σ' H', N σ' H' → ∃ m', m' < m ∧ W (i + 1) m' σ' H') ∧ ∀ x H', (Itl K a).yld i H x H' → g x σ H' fun σ2 H2 => tb { D with nx := N, ct := N, bk := D.nx } σ2 H2) := by
  refine ⟨fun i m σ H => m = xs.length - i ∧ i ≤ xs.length ∧ Pv i σ H, ⟨xs.length, by simp, Nat.zero_le _, h0⟩, ?_⟩
  rintro i m σ H ⟨rfl, hi, p⟩
  have q := hl i σ H hi p
  by_cases hlt : i < xs.length
  · refine .inr ⟨⟨xs, xs[i], q, by simp [hlt]⟩, Pv (i + 1), fun σ' H' p' => ⟨xs.length - (i + 1), by omega, rfl, hlt, p'⟩, fun x H' y => ?_⟩
    obtain ⟨e, y⟩ := y
    subst e
    exact hs i x σ _ (y xs q) p
  · have e : i = xs.length := by omega
    subst e
    exact .inl ⟨⟨xs, q, Nat.le_refl _⟩, hd σ H p⟩
theorem for_tup {K : PySem.W.Frag} {a : Addr} {xs : List V} {g : TG} {tb : TS} {D : Ends} {σ : St} {H : Hp} (Pv : Nat → St → Hp → Prop) (h0 : Pv 0 σ H) (hl : ∀ i σ H, i ≤ xs.length → Pv i σ H → SqT K H a xs)
    (hs : ∀ i x σ H, xs[i]? = some x → Pv i σ H → g x σ H fun σ2 H2 => tb { D with nx := Pv (i + 1), ct := Pv (i + 1), bk := D.nx } σ2 H2) (hd : ∀ σ H, Pv xs.length σ H → D.nx σ H) :
    ∃ W : Nat → Nat → St → Hp → Prop, (∃ m, W 0 m σ H) ∧ ∀ i m σ H, W i m σ H →
      ((Itt K a).stop i H ∧ D.nx σ H) ∨ ((Itt K a).go i H ∧ ∃ N : St → Hp → Prop, (∀ σ' H', N σ' H' → ∃ m', m' < m ∧ W (i + 1) m' σ' H') ∧ ∀ x H', (Itt K a).yld i H x H' → g x σ H' fun σ2 H2 => tb { D with nx := N, ct := N, bk := D.nx } σ2 H2) := by
  refine ⟨fun i m σ H => m = xs.length - i ∧ i ≤ xs.length ∧ Pv i σ H, ⟨xs.length, by simp, Nat.zero_le _, h0⟩, ?_⟩
  rintro i m σ H ⟨rfl, hi, p⟩
  have q := hl i σ H hi p
  by_cases hlt : i < xs.length
  · refine .inr ⟨⟨xs, xs[i], q, by simp [hlt]⟩, Pv (i + 1), fun σ' H' p' => ⟨xs.length - (i + 1), by omega, rfl, hlt, p'⟩, fun x H' y => ?_⟩
    obtain ⟨e, y⟩ := y
    subst e
    exact hs i x σ _ (y xs q) p
  · have e : i = xs.length := by omega
    subst e
    exact .inl ⟨⟨xs, q, Nat.le_refl _⟩, hd σ H p⟩
theorem for_range {lo : Int} {n : Nat} {g : TG} {tb : TS} {D : Ends} {σ : St} {H : Hp} (Pv : Nat → St → Hp → Prop) (h0 : Pv 0 σ H)
    (hs : ∀ i σ H, i < n → Pv i σ H → g (.int (lo + i)) σ H fun σ2 H2 => tb { D with nx := Pv (i + 1), ct := Pv (i + 1), bk := D.nx } σ2 H2) (hd : ∀ σ H, Pv n σ H → D.nx σ H) :
    ∃ W : Nat → Nat → St → Hp → Prop, (∃ m, W 0 m σ H) ∧ ∀ i m σ H, W i m σ H →
      ((Itr lo n).stop i H ∧ D.nx σ H) ∨ ((Itr lo n).go i H ∧ ∃ N : St → Hp → Prop, (∀ σ' H', N σ' H' → ∃ m', m' < m ∧ W (i + 1) m' σ' H') ∧ ∀ x H', (Itr lo n).yld i H x H' → g x σ H' fun σ2 H2 => tb { D with nx := N, ct := N, bk := D.nx } σ2 H2) := by
  refine ⟨fun i m σ H => m = n - i ∧ i ≤ n ∧ Pv i σ H, ⟨n, by simp, Nat.zero_le _, h0⟩, ?_⟩
  rintro i m σ H ⟨rfl, hi, p⟩
  by_cases hlt : i < n
  · refine .inr ⟨hlt, Pv (i + 1), fun σ' H' p' => ⟨n - (i + 1), by omega, rfl, hlt, p'⟩, fun x H' y => ?_⟩
    obtain ⟨e, y⟩ := y
    subst e y
    exact hs i σ _ hlt p
  · have e : i = n := by omega
    subst e
    exact .inl ⟨Nat.le_refl _, hd σ H p⟩
/-- while, by a word and a measure of the state -/
theorem while_by {c : TT} {tb : TS} {D : Ends} {σ : St} {H : Hp} (Pv : St → Hp → Prop) (μ : St → Hp → Nat) (h0 : Pv σ H)
    (hs : ∀ σ H, Pv σ H → c σ H fun b H1 => if b = true then tb { D with nx := fun σ' H' => Pv σ' H' ∧ μ σ' H' < μ σ H, ct := fun σ' H' => Pv σ' H' ∧ μ σ' H' < μ σ H, bk := D.nx } σ H1 else D.nx σ H1)
    (mono : ∀ σ H Q Q', (∀ b H1, Q b H1 → Q' b H1) → c σ H Q → c σ H Q') : tWhile c tb D σ H := by
  refine ⟨fun m σ H => m = μ σ H ∧ Pv σ H, ⟨_, rfl, h0⟩, ?_⟩
  rintro m σ H ⟨rfl, p⟩
  refine mono σ H _ _ (fun b H1 q => ?_) (hs σ H p)
  cases b with
  | true => exact ⟨_, fun σ' H' ⟨p', l⟩ => ⟨_, l, rfl, p'⟩, q⟩
  | false => exact q
end L2

namespace L2
open PySem PySem.Spec PyProof.Rows

abbrev R2 := V → V → Hp → VK → Prop
/-- a two-place operation on values: f is binaryOp op, inplaceOp op or compareOp op -/
def OpR (X : Cx) (f : Value → Value → Sem Value) (r : R2) : Prop :=
  ∀ (pins : List (Addr × Obj)) (s : Shared) (σ : St) (H : Hp) (x y : V) (v u : Value) (Q : VK), Inv X pins σ H s → RelV x v → RelV y u → r x y H Q →
    wpAny (model X.prog X.w) X.A (f v u) (EP X pins σ Q) X.xe s
/-- a one-place operation -/
def UnR (X : Cx) (f : Value → Sem Value) (r : V → Hp → VK → Prop) : Prop :=
  ∀ (pins : List (Addr × Obj)) (s : Shared) (σ : St) (H : Hp) (x : V) (v : Value) (Q : VK), Inv X pins σ H s → RelV x v → r x H Q →
    wpAny (model X.prog X.w) X.A (f v) (EP X pins σ Q) X.xe s
/-- a call of a value that is known (a builtin, a type) with values -/
def CallR (X : Cx) (f : Value) (r : List V → Hp → VK → Prop) : Prop :=
  ∀ (pins : List (Addr × Obj)) (s : Shared) (σ : St) (H : Hp) (xs : List V) (us : List Value) (Q : VK), Inv X pins σ H s → Vals xs us → r xs H Q →
    wpAny (model X.prog X.w) X.A (call f us) (EP X pins σ Q) X.xe s
/-- a value's truth -/
def TruR (X : Cx) (r : V → Hp → (Bool → Hp → Prop) → Prop) : Prop :=
  ∀ (pins : List (Addr × Obj)) (s : Shared) (σ : St) (H : Hp) (x : V) (v : Value) (Q : Bool → Hp → Prop), Inv X pins σ H s → RelV x v → r x H Q →
    wpAny (model X.prog X.w) X.A (truthy v) (TP X pins σ Q) X.xe s

def tOp (r : R2) (ta tb : TE) : TE := fun σ H Q => ta σ H fun x H1 => tb σ H1 fun y H2 => r x y H2 Q
def tUn (r : V → Hp → VK → Prop) (ta : TE) : TE := fun σ H Q => ta σ H fun x H1 => r x H1 Q
/-- ints in, under C, and a value out -/
def rI (C : Int → Int → Prop) (g : Int → Int → V) : R2 := fun x y H Q => ∃ i j, x = .int i ∧ y = .int j ∧ C i j ∧ Q (g i j) H
def rI0 (g : Int → Int → V) : R2 := fun x y H Q => ∃ i j, x = .int i ∧ y = .int j ∧ Q (g i j) H
def rU (g : Int → V) : V → Hp → VK → Prop := fun x H Q => ∃ i, x = .int i ∧ Q (g i) H

section
variable {X : Cx} {a b c : Expr} {ta tb tc : TE} {pos : Pos}

theorem binT (ha : PE X a ta) (hb : PE X b tb) {pins : List (Addr × Obj)} {s : Shared} {σ : St} {H : Hp} {R : V → V → Hp → Prop} (I : Inv X pins σ H s)
    (h : ta σ H fun x H1 => tb σ H1 fun y H2 => R x y H2) {Q : Value → Shared → Prop} {f : Value → Value → Sem Value}
    (hf : ∀ v u s2 x y H2, Inv X pins σ H2 s2 → RelV x v → RelV y u → R x y H2 → wpAny (model X.prog X.w) X.A (f v u) Q X.xe s2) :
    wpAny (model X.prog X.w) X.A (eval a X.env) (fun v s₁ => wpAny (model X.prog X.w) X.A (eval b X.env) (fun u s₂ => wpAny (model X.prog X.w) X.A (f v u) Q X.xe s₂) X.xe s₁) X.xe s := by
  refine thn (ha pins s σ H _ I h) fun v s1 ⟨x, H1, I1, r1, q1⟩ => ?_
  refine thn (hb pins s1 σ H1 _ I1 q1) fun u s2 ⟨y, H2, I2, r2, q2⟩ => ?_
  exact hf v u s2 x y H2 I2 r1 r2 q2

theorem pe_op {op : Operator} {r : R2} (ho : OpR X (binaryOp op) r) (ha : PE X a ta) (hb : PE X b tb) : PE X (.BinOp a op b pos) (tOp r ta tb) := by
  intro pins s σ H Q I h
  exact wpAny_BinOp (binT ha hb I h fun v u s2 x y H2 I2 rx ry q => ho pins s2 σ H2 x y v u Q I2 rx ry q)
theorem pe_un {op : UnaryOp} {r : V → Hp → VK → Prop} (ho : UnR X (unaryOp op) r) (ha : PE X a ta) : PE X (.UnaryOp op a pos) (tUn r ta) := by
  intro pins s σ H Q I h
  exact UnaryOp_ (thn (ha pins s σ H _ I h) fun v s1 ⟨x, H1, I1, r1, q1⟩ => ho pins s1 σ H1 x v Q I1 r1 q1)
/-- a op= e at a name: the name's slot i -/
theorem augR {op : Operator} {r : R2} (ho : OpR X (inplaceOp op) r) {pins : List (Addr × Obj)} {s : Shared} {σ : St} {H : Hp} {x y : V} {v u : Value} {Q : VK} (I : Inv X pins σ H s)
    (rx : RelV x v) (ry : RelV y u) (q : r x y H Q) : wpAny (model X.prog X.w) X.A (inplaceOp op v u) (EP X pins σ Q) X.xe s := ho pins s σ H x y v u Q I rx ry q

/-! ### ints -/
theorem opI {f : Value → Value → Sem Value} {C : Int → Int → Prop} {g : Int → Int → Int}
    (rule : ∀ (i j : Int) (t u : Tok) (s : Shared) (Q : Value → Shared → Prop) (E : Value → Shared → Prop), C i j → Q (.int (g i j) s.toks) { s with toks := s.toks + 1 } → wpAny (model X.prog X.w) X.A (f (.int i t) (.int j u)) Q E s) :
    OpR X f (rI C fun i j => .int (g i j)) := by
  intro pins s σ H x y v u Q I rx ry h
  obtain ⟨i, j, rfl, rfl, hc, q⟩ := h
  obtain ⟨t, rfl⟩ := rx
  obtain ⟨t', rfl⟩ := ry
  exact rule i j t t' s _ _ hc ⟨.int (g i j), H, I.tok _, ⟨_, rfl⟩, q⟩
theorem opI0 {f : Value → Value → Sem Value} {g : Int → Int → Int}
    (rule : ∀ (i j : Int) (t u : Tok) (s : Shared) (Q : Value → Shared → Prop) (E : Value → Shared → Prop), Q (.int (g i j) s.toks) { s with toks := s.toks + 1 } → wpAny (model X.prog X.w) X.A (f (.int i t) (.int j u)) Q E s) :
    OpR X f (rI0 fun i j => .int (g i j)) := by
  intro pins s σ H x y v u Q I rx ry h
  obtain ⟨i, j, rfl, rfl, q⟩ := h
  obtain ⟨t, rfl⟩ := rx
  obtain ⟨t', rfl⟩ := ry
  exact rule i j t t' s _ _ ⟨.int (g i j), H, I.tok _, ⟨_, rfl⟩, q⟩
theorem opB0 {f : Value → Value → Sem Value} {g : Int → Int → Bool}
    (rule : ∀ (i j : Int) (t u : Tok) (s : Shared) (Q : Value → Shared → Prop) (E : Value → Shared → Prop), Q (.bool (g i j)) s → wpAny (model X.prog X.w) X.A (f (.int i t) (.int j u)) Q E s) :
    OpR X f (rI0 fun i j => .bl (g i j)) := by
  intro pins s σ H x y v u Q I rx ry h
  obtain ⟨i, j, rfl, rfl, q⟩ := h
  obtain ⟨t, rfl⟩ := rx
  obtain ⟨t', rfl⟩ := ry
  exact rule i j t t' s _ _ ⟨.bl (g i j), H, I, rfl, q⟩

def CDiv (i j : Int) : Prop := 0 < j ∧ j < 1073741824
def CDivN (i j : Int) : Prop := j ≠ 0 ∧ j.natAbs < 1073741824
def CPow (i j : Int) : Prop := 0 ≤ j ∧ j ≤ 1000000 ∧ i.natAbs < 2 ^ 64
def CMul (i j : Int) : Prop := (-(2 ^ 64) < i ∧ i < 2 ^ 64) ∨ (-(2 ^ 64) < j ∧ j < 2 ^ 64)
theorem CMul.ok {i j : Int} (h : CMul i j) : IntMulOk i j := by
  rcases h with ⟨h1, h2⟩ | ⟨h1, h2⟩
  · exact .of_left (intBits_le_64 h1 h2)
  · exact .of_right (intBits_le_64 h1 h2)
theorem two_pow_nn (k : Nat) : (0 : Int) ≤ 2 ^ k := by
  rw [two_pow_cast]
  exact Int.natCast_nonneg _

theorem op_add : OpR X (binaryOp .Add) (rI0 fun i j => .int (i + j)) := opI0 fun _ _ _ _ _ _ _ q => add_int q
theorem op_sub : OpR X (binaryOp .Sub) (rI0 fun i j => .int (i - j)) := opI0 fun _ _ _ _ _ _ _ q => sub_int q
theorem op_mul : OpR X (binaryOp .Mult) (rI CMul fun i j => .int (i * j)) := opI fun _ _ _ _ _ _ _ hc q => mul_int q hc.ok
/-- // by a positive divisor -/
theorem op_fdiv : OpR X (binaryOp .FloorDiv) (rI CDiv fun i j => .int (i / j)) := opI fun i j _ _ _ _ _ hc q => by
  have h1 : (0 : Int) < j := hc.1
  have h2 : j < 1073741824 := hc.2
  exact floordiv_int (by omega) (by rw [Int.fdiv_eq_ediv_of_nonneg i (by omega)]; exact q) (.inl (PyProof.noPylong_small (by omega)))
theorem op_fdivN : OpR X (binaryOp .FloorDiv) (rI CDivN fun i j => .int (i.fdiv j)) := opI fun _ _ _ _ _ _ _ hc q => floordiv_int hc.1 q (.inl (PyProof.noPylong_small hc.2))
/-- % by a positive divisor of any size -/
theorem op_mod : OpR X (binaryOp .Mod) (rI (fun _ j => 0 < j) fun i j => .int (i % j)) := opI fun i j _ _ _ _ _ hc q => by
  have h1 : (0 : Int) < j := hc
  exact mod_int' (by omega) (by rw [Int.fmod_eq_emod_of_nonneg i (by omega)]; exact q)
theorem op_modN : OpR X (binaryOp .Mod) (rI (fun _ j => j ≠ 0) fun i j => .int (i.fmod j)) := opI fun _ _ _ _ _ _ _ hc q => mod_int' hc q
theorem op_pow : OpR X (binaryOp .Pow) (rI CPow fun i j => .int (i ^ j.toNat)) := opI fun _ _ _ _ _ _ _ hc q => pow_int_small hc.1 hc.2.1 hc.2.2 q
theorem op_shl : OpR X (binaryOp .LShift) (rI CPow fun i j => .int (i * 2 ^ j.toNat)) := opI fun _ _ _ _ _ _ _ hc q => lshift_int_small hc.1 hc.2.1 hc.2.2 q
theorem op_shr : OpR X (binaryOp .RShift) (rI (fun _ j => 0 ≤ j) fun i j => .int (i / 2 ^ j.toNat)) := opI fun i j _ _ _ _ _ hc q =>
  rshift_int hc (by rw [Int.fdiv_eq_ediv_of_nonneg i (two_pow_nn _)]; exact q)
theorem op_and : OpR X (binaryOp .BitAnd) (rI0 fun i j => .int (Builtin.bitAnd i j)) := opI0 fun _ _ _ _ _ _ _ q => and_int q
theorem op_or : OpR X (binaryOp .BitOr) (rI0 fun i j => .int (Builtin.bitOr i j)) := opI0 fun _ _ _ _ _ _ _ q => or_int q
theorem op_xor : OpR X (binaryOp .BitXor) (rI0 fun i j => .int (Builtin.bitXor i j)) := opI0 fun _ _ _ _ _ _ _ q => xor_int q

theorem iop_add : OpR X (inplaceOp .Add) (rI0 fun i j => .int (i + j)) := opI0 fun _ _ _ _ _ _ _ q => iadd_int q
theorem iop_sub : OpR X (inplaceOp .Sub) (rI0 fun i j => .int (i - j)) := opI0 fun _ _ _ _ _ _ _ q => isub_int q
theorem iop_mul : OpR X (inplaceOp .Mult) (rI CMul fun i j => .int (i * j)) := opI fun _ _ _ _ _ _ _ hc q => imul_int q hc.ok
theorem iop_fdiv : OpR X (inplaceOp .FloorDiv) (rI CDiv fun i j => .int (i / j)) := opI fun i j _ _ _ _ _ hc q => by
  have h1 : (0 : Int) < j := hc.1
  have h2 : j < 1073741824 := hc.2
  exact ifloordiv_int (by omega) (by rw [Int.fdiv_eq_ediv_of_nonneg i (by omega)]; exact q) (.inl (PyProof.noPylong_small (by omega)))
theorem iop_mod : OpR X (inplaceOp .Mod) (rI (fun _ j => 0 < j) fun i j => .int (i % j)) := opI fun i j _ _ _ _ _ hc q => by
  have h1 : (0 : Int) < j := hc
  exact imod_int (by omega) (by rw [Int.fmod_eq_emod_of_nonneg i (by omega)]; exact q)
theorem iop_shl : OpR X (inplaceOp .LShift) (rI CPow fun i j => .int (i * 2 ^ j.toNat)) := opI fun _ _ _ _ _ _ _ hc q => ilshift_int_small hc.1 hc.2.1 hc.2.2 q
theorem iop_shr : OpR X (inplaceOp .RShift) (rI (fun _ j => 0 ≤ j) fun i j => .int (i / 2 ^ j.toNat)) := opI fun i j _ _ _ _ _ hc q =>
  irshift_int hc (by rw [Int.fdiv_eq_ediv_of_nonneg i (two_pow_nn _)]; exact q)
theorem iop_and : OpR X (inplaceOp .BitAnd) (rI0 fun i j => .int (Builtin.bitAnd i j)) := opI0 fun _ _ _ _ _ _ _ q => iand_int q
theorem iop_or : OpR X (inplaceOp .BitOr) (rI0 fun i j => .int (Builtin.bitOr i j)) := opI0 fun _ _ _ _ _ _ _ q => ior_int q
theorem iop_xor : OpR X (inplaceOp .BitXor) (rI0 fun i j => .int (Builtin.bitXor i j)) := opI0 fun _ _ _ _ _ _ _ q => ixor_int q

theorem unI {f : Value → Sem Value} {g : Int → Int}
    (rule : ∀ (i : Int) (t : Tok) (s : Shared) (Q : Value → Shared → Prop) (E : Value → Shared → Prop), Q (.int (g i) s.toks) { s with toks := s.toks + 1 } → wpAny (model X.prog X.w) X.A (f (.int i t)) Q E s) :
    UnR X f (rU fun i => .int (g i)) := by
  intro pins s σ H x v Q I rx h
  obtain ⟨i, rfl, q⟩ := h
  obtain ⟨t, rfl⟩ := rx
  exact rule i t s _ _ ⟨.int (g i), H, I.tok _, ⟨_, rfl⟩, q⟩
theorem un_neg : UnR X (unaryOp .USub) (rU fun i => .int (-i)) := unI fun _ _ _ _ _ q => neg_int q
theorem un_inv : UnR X (unaryOp .Invert) (rU fun i => .int (Builtin.bitNot i)) := unI fun _ _ _ _ _ q => invert_int q

/-! ### bools among ints: n += (a < b) -/
theorem op_add_ib : OpR X (binaryOp .Add) (fun x y H Q => ∃ i k, x = .int i ∧ y = .bl k ∧ Q (.int (i + b2i k)) H) := by
  intro pins s σ H x y v u Q I rx ry h
  obtain ⟨i, k, rfl, rfl, q⟩ := h
  obtain ⟨t, rfl⟩ := rx
  cases ry
  exact add_int_bool ⟨.int (i + b2i k), H, I.tok _, ⟨_, rfl⟩, q⟩
end

/-! ### comparisons -/
/-- the scalars that == tells apart as data does -/
def scal : V → V → Bool
  | .non, .non => true | .non, .int _ => true | .int _, .non => true | .non, .bl _ => true | .bl _, .non => true | .non, .str _ => true | .str _, .non => true
  | .int _, .int _ => true | .bl _, .bl _ => true | .str _, .str _ => true | .byt _, .byt _ => true
  | .int _, .str _ => true | .str _, .int _ => true | .bl _, .str _ => true | .str _, .bl _ => true
  | _, _ => false
def rEq : R2 := fun x y H Q => scal x y = true ∧ Q (.bl (decide (x = y))) H
def rNe : R2 := fun x y H Q => scal x y = true ∧ Q (.bl (!decide (x = y))) H

theorem dec_int {i j : Int} : decide (V.int i = V.int j) = (i == j) := by
  rw [Bool.eq_iff_iff]
  simp
theorem dec_bl {i j : Bool} : decide (V.bl i = V.bl j) = (i == j) := by
  rw [Bool.eq_iff_iff]
  simp
theorem dec_str {i j : Str} : decide (V.str i = V.str j) = (i == j) := by
  rw [Bool.eq_iff_iff]
  simp
theorem dec_byt {i j : Array UInt8} : decide (V.byt i = V.byt j) = (i.toList == j.toList) := by
  rw [Bool.eq_iff_iff]
  cases i
  cases j
  simp

section
variable {X : Cx} {a b c : Expr} {ta tb tc : TE} {pos : Pos}
theorem fin_bl {pins : List (Addr × Obj)} {σ : St} {H : Hp} {s : Shared} {Q : VK} {k k' : Bool} (I : Inv X pins σ H s) (q : Q (.bl k) H) (e : k = k') : EP X pins σ Q (.bool k') s := by
  subst e
  exact ⟨.bl k, H, I, rfl, q⟩
theorem op_eq : OpR X (compareOp .Eq) rEq := by
  intro pins s σ H x y v u Q I rx ry h
  obtain ⟨hs, q⟩ := h
  cases x with
  | non =>
    cases rx
    cases y with
    | non => cases ry; exact PySem.EqNone.eq_none_none (fin_bl I q (by simp))
    | bl j => cases ry; exact PySem.EqNone.eq_none_bool (fin_bl I q (by simp))
    | int j => obtain ⟨t', rfl⟩ := ry; exact PySem.EqNone.eq_none_int (fin_bl I q (by simp))
    | str j => obtain ⟨t', rfl⟩ := ry; exact PySem.EqNone.eq_none_str (fin_bl I q (by simp))
    | _ => exact absurd (show false = true from hs) Bool.false_ne_true
  | bl i =>
    cases rx
    cases y with
    | non => cases ry; exact PySem.EqNone.eq_bool_none (fin_bl I q (by simp))
    | bl j => cases ry; exact eq_bool (fin_bl I q dec_bl)
    | str j => obtain ⟨t', rfl⟩ := ry; exact PySem.EqMixed.eq_bool_str (fin_bl I q (by simp))
    | _ => exact absurd (show false = true from hs) Bool.false_ne_true
  | int i =>
    obtain ⟨t, rfl⟩ := rx
    cases y with
    | non => cases ry; exact PySem.EqNone.eq_int_none (fin_bl I q (by simp))
    | int j => obtain ⟨t', rfl⟩ := ry; exact eq_int (fin_bl I q dec_int)
    | str j => obtain ⟨t', rfl⟩ := ry; exact PySem.EqMixed.eq_int_str (fin_bl I q (by simp))
    | _ => exact absurd (show false = true from hs) Bool.false_ne_true
  | str i =>
    obtain ⟨t, rfl⟩ := rx
    cases y with
    | non => cases ry; exact PySem.EqNone.eq_str_none (fin_bl I q (by simp))
    | bl j => cases ry; exact PySem.EqMixed.eq_str_bool (fin_bl I q (by simp))
    | int j => obtain ⟨t', rfl⟩ := ry; exact PySem.EqMixed.eq_str_int (fin_bl I q (by simp))
    | str j => obtain ⟨t', rfl⟩ := ry; exact eq_str (fin_bl I q dec_str)
    | _ => exact absurd (show false = true from hs) Bool.false_ne_true
  | byt i =>
    obtain ⟨t, rfl⟩ := rx
    cases y with
    | byt j => obtain ⟨t', rfl⟩ := ry; exact PySem.W.eq_bytes (fin_bl I q dec_byt)
    | _ => exact absurd (show false = true from hs) Bool.false_ne_true
  | _ => cases y <;> exact absurd (show false = true from hs) Bool.false_ne_true
theorem op_ne : OpR X (compareOp .NotEq) rNe := by
  intro pins s σ H x y v u Q I rx ry h
  obtain ⟨hs, q⟩ := h
  cases x with
  | non =>
    cases rx
    cases y with
    | non => cases ry; exact PySem.EqNone.ne_none_none (fin_bl I q (by simp))
    | bl j => cases ry; exact PySem.EqNone.ne_none_bool (fin_bl I q (by simp))
    | int j => obtain ⟨t', rfl⟩ := ry; exact PySem.EqNone.ne_none_int (fin_bl I q (by simp))
    | str j => obtain ⟨t', rfl⟩ := ry; exact PySem.EqNone.ne_none_str (fin_bl I q (by simp))
    | _ => exact absurd (show false = true from hs) Bool.false_ne_true
  | bl i =>
    cases rx
    cases y with
    | non => cases ry; exact PySem.EqNone.ne_bool_none (fin_bl I q (by simp))
    | bl j => cases ry; exact ne_bool (fin_bl I q (congrArg not dec_bl))
    | str j => obtain ⟨t', rfl⟩ := ry; exact PySem.EqMixed.ne_bool_str (fin_bl I q (by simp))
    | _ => exact absurd (show false = true from hs) Bool.false_ne_true
  | int i =>
    obtain ⟨t, rfl⟩ := rx
    cases y with
    | non => cases ry; exact PySem.EqNone.ne_int_none (fin_bl I q (by simp))
    | int j => obtain ⟨t', rfl⟩ := ry; exact ne_int (fin_bl I q (congrArg not dec_int))
    | str j => obtain ⟨t', rfl⟩ := ry; exact PySem.EqMixed.ne_int_str (fin_bl I q (by simp))
    | _ => exact absurd (show false = true from hs) Bool.false_ne_true
  | str i =>
    obtain ⟨t, rfl⟩ := rx
    cases y with
    | non => cases ry; exact PySem.EqNone.ne_str_none (fin_bl I q (by simp))
    | bl j => cases ry; exact PySem.EqMixed.ne_str_bool (fin_bl I q (by simp))
    | int j => obtain ⟨t', rfl⟩ := ry; exact PySem.EqMixed.ne_str_int (fin_bl I q (by simp))
    | str j => obtain ⟨t', rfl⟩ := ry; exact ne_str (fin_bl I q (congrArg not dec_str))
    | _ => exact absurd (show false = true from hs) Bool.false_ne_true
  | byt i =>
    obtain ⟨t, rfl⟩ := rx
    cases y with
    | byt j => obtain ⟨t', rfl⟩ := ry; exact PySem.W.ne_bytes (fin_bl I q (congrArg not dec_byt))
    | _ => exact absurd (show false = true from hs) Bool.false_ne_true
  | _ => cases y <;> exact absurd (show false = true from hs) Bool.false_ne_true

theorem op_lt : OpR X (compareOp .Lt) (rI0 fun i j => .bl (decide (i < j))) := opB0 fun _ _ _ _ _ _ _ q => lt_int q
theorem op_le : OpR X (compareOp .LtE) (rI0 fun i j => .bl (decide (i ≤ j))) := opB0 fun _ _ _ _ _ _ _ q => le_int q
theorem op_gt : OpR X (compareOp .Gt) (rI0 fun i j => .bl (decide (j < i))) := opB0 fun _ _ _ _ _ _ _ q => gt_int q
theorem op_ge : OpR X (compareOp .GtE) (rI0 fun i j => .bl (decide (j ≤ i))) := opB0 fun _ _ _ _ _ _ _ q => ge_int q
theorem op_lt_str : OpR X (compareOp .Lt) (fun x y H Q => ∃ i j, x = .str i ∧ y = .str j ∧ Q (.bl (decide (i.cps.toList < j.cps.toList))) H) := by
  intro pins s σ H x y v u Q I rx ry h
  obtain ⟨i, j, rfl, rfl, q⟩ := h
  obtain ⟨t, rfl⟩ := rx
  obtain ⟨t', rfl⟩ := ry
  exact lt_str (fin_bl I q rfl)
/-- the one string within the other -/
theorem op_in_str : OpR X (compareOp .In) (fun x y H Q => ∃ i j, x = .str i ∧ y = .str j ∧ Q (.bl (!(Builtin.Str.occurrences j i 0 j.length 1).isEmpty)) H) := by
  intro pins s σ H x y v u Q I rx ry h
  obtain ⟨i, j, rfl, rfl, q⟩ := h
  obtain ⟨t, rfl⟩ := rx
  obtain ⟨t', rfl⟩ := ry
  exact in_str (fin_bl I q rfl)

/-- is None, is not None: the right side a value none -/
theorem op_isN : OpR X (compareOp .Is) (fun x y H Q => y = .non ∧ Q (.bl (decide (x = .non))) H) := by
  intro pins s σ H x y v u Q I rx ry h
  obtain ⟨rfl, q⟩ := h
  cases ry
  refine is_none_gen (fin_bl I q ?_)
  cases x <;> first
    | (cases rx; rfl)
    | (obtain ⟨t, rfl⟩ := rx; rfl)
theorem op_notN : OpR X (compareOp .IsNot) (fun x y H Q => y = .non ∧ Q (.bl (!decide (x = .non))) H) := by
  intro pins s σ H x y v u Q I rx ry h
  obtain ⟨rfl, q⟩ := h
  cases ry
  refine isnot_none_gen (fin_bl I q ?_)
  cases x <;> first
    | (cases rx; rfl)
    | (obtain ⟨t, rfl⟩ := rx; rfl)

theorem op_notin_str : OpR X (compareOp .NotIn) (fun x y H Q => ∃ i j, x = .str i ∧ y = .str j ∧ Q (.bl (!(!(Builtin.Str.occurrences j i 0 j.length 1).isEmpty))) H) := by
  intro pins s σ H x y v u Q I rx ry h
  obtain ⟨i, j, rfl, rfl, q⟩ := h
  obtain ⟨t, rfl⟩ := rx
  obtain ⟨t', rfl⟩ := ry
  exact notIn_str (fin_bl I q rfl)
/-- is, is not of two objects that are tracked lists or instances -/
def isObj : HO → Bool
  | .lst _ => true
  | .ins _ _ _ => true
  | _ => false
theorem obj_there {pins : List (Addr × Obj)} {s : Shared} {σ : St} {H : Hp} {a : Addr} {o : HO} (I : Inv X pins σ H s) (h : H a = some o) (p : isObj o = true) : ∃ ob, s.heap.get? a = some ob ∧ ob.cls ≠ .type "tuple" := by
  cases o with
  | lst xs =>
    obtain ⟨_, its, n, _, e⟩ : xs.length ≤ sizeLine ∧ ∃ (its : List Value) (n : Nat), Vals xs its ∧ s.heap.get? a = some { cls := .type "list", data := .seq its.toArray n } := I.hok a _ h
    exact ⟨_, e, (by show Value.type "list" ≠ .type "tuple"; decide +kernel)⟩
  | ins C dx fs =>
    have x := I.hok a _ h
    obtain ⟨_, _, _, e, _⟩ := x
    exact ⟨_, e, (by show Value.ref C ≠ .type "tuple"; exact fun z => by cases z)⟩
  | _ => exact absurd (show false = true from p) Bool.false_ne_true
theorem op_is_ref : OpR X (compareOp .Is) (fun x y H Q => ∃ a b oa ob, x = .ref a ∧ y = .ref b ∧ H a = some oa ∧ isObj oa = true ∧ H b = some ob ∧ isObj ob = true ∧ Q (.bl (decide (a = b))) H) := by
  intro pins s σ H x y v u Q I rx ry h
  obtain ⟨a, b, oa, ob, rfl, rfl, ha, pa, hb, pb, q⟩ := h
  cases rx
  cases ry
  obtain ⟨o1, e1, n1⟩ := obj_there I ha pa
  obtain ⟨o2, e2, _⟩ := obj_there I hb pb
  by_cases z : a = b
  · subst z
    exact wpAny_is_ref_self (fin_bl I q (by simp))
  · exact wpAny_is_ref_other z e1 e2 n1 (fin_bl I q (by simp [z]))
theorem op_isnot_ref : OpR X (compareOp .IsNot) (fun x y H Q => ∃ a b oa ob, x = .ref a ∧ y = .ref b ∧ H a = some oa ∧ isObj oa = true ∧ H b = some ob ∧ isObj ob = true ∧ Q (.bl (!decide (a = b))) H) := by
  intro pins s σ H x y v u Q I rx ry h
  obtain ⟨a, b, oa, ob, rfl, rfl, ha, pa, hb, pb, q⟩ := h
  cases rx
  cases ry
  obtain ⟨o1, e1, n1⟩ := obj_there I ha pa
  obtain ⟨o2, e2, _⟩ := obj_there I hb pb
  by_cases z : a = b
  · subst z
    exact wpAny_isNot_ref_self (fin_bl I q (by simp))
  · exact wpAny_isNot_ref_other z e1 e2 n1 (fin_bl I q (by simp [z]))

/-- two rules for one operation: by cases -/
theorem OpR.or {f : Value → Value → Sem Value} {r r' : R2} (h : OpR X f r) (h' : OpR X f r') : OpR X f (fun x y H Q => r x y H Q ∨ r' x y H Q) := by
  intro pins s σ H x y v u Q I rx ry q
  rcases q with q | q
  · exact h pins s σ H x y v u Q I rx ry q
  · exact h' pins s σ H x y v u Q I rx ry q

theorem nomark (b : Expr) {op : CmpOp} (h : op ≠ .In := by decide) (h2 : op ≠ .NotIn := by decide) : behindInMarks op b = false := by
  have e1 : (op == CmpOp.In) = false := by cases op <;> first | rfl | exact absurd rfl h
  have e2 : (op == CmpOp.NotIn) = false := by cases op <;> first | rfl | exact absurd rfl h2
  cases b <;> simp [behindInMarks, e1, e2]
/-- a comparison as a value; hm: nomark b, or (for in, not in) by with_unfolding_all rfl -/
theorem pe_cmpR {op : CmpOp} {r : R2} (ho : OpR X (compareOp op) r) (ha : PE X a ta) (hb : PE X b tb) (hm : behindInMarks op b = false) : PE X (.Compare a [op] [b] pos) (tOp r ta tb) := by
  intro pins s σ H Q I h
  exact wpAny_Compare1 (binT ha hb I h fun v u s2 x y H2 I2 rx ry q => ho pins s2 σ H2 x y v u Q I2 rx ry q) hm
/-- a reading of a value as a test -/
def tTest (t : TE) : TT := fun σ H Q => t σ H fun x H' => ∃ k, x = .bl k ∧ Q k H'
theorem pt_cmpR {op : CmpOp} {r : R2} (ho : OpR X (compareOp op) r) (ha : PE X a ta) (hb : PE X b tb) (hm : behindInMarks op b = false) : PT X (.Compare a [op] [b] pos) (tTest (tOp r ta tb)) := by
  intro pins s σ H Q I h
  refine wpAny_isTrue_Compare1 (thn (ha pins s σ H _ I h) fun v s1 ⟨x, H1, I1, r1, q1⟩ => thn (hb pins s1 σ H1 _ I1 q1) fun u s2 ⟨y, H2, I2, r2, q2⟩ =>
    thn (ho pins s2 σ H2 x y v u _ I2 r1 r2 q2) fun c s3 ⟨z, H3, I3, r3, k, e, q3⟩ => ?_) hm
  subst e
  cases r3
  exact wpAny_truthy_bool ⟨H3, I3, q3⟩
/-- a op1 b op2 c -/
def tChain (r r' : R2) (ta tb tc : TE) : TE := fun σ H Q => ta σ H fun x H1 => tb σ H1 fun y H2 => r x y H2 fun z H3 => ∃ k, z = .bl k ∧
  (if k = true then tc σ H3 fun w' H4 => r' y w' H4 Q else Q (.bl false) H3)
theorem pe_chain {op op' : CmpOp} {r r' : R2} (ho : OpR X (compareOp op) r) (ho' : OpR X (compareOp op') r') (ha : PE X a ta) (hb : PE X b tb) (hc : PE X c tc)
    (hm : lastMarks [op, op'] [b, c] = false := by with_unfolding_all rfl) : PE X (.Compare a [op, op'] [b, c] pos) (tChain r r' ta tb tc) := by
  intro pins s σ H Q I h
  refine Compare_chain (thn (ha pins s σ H _ I h) fun v s1 ⟨x, H1, I1, r1, q1⟩ => chain_link (thn (hb pins s1 σ H1 _ I1 q1) fun u s2 ⟨y, H2, I2, r2, q2⟩ =>
    thn (ho pins s2 σ H2 x y v u _ I2 r1 r2 q2) fun d s3 ⟨z, H3, I3, r3, k, e, q3⟩ => ?_)) hm
  subst e
  cases r3
  refine wpAny_truthy_bool ?_
  cases k with
  | false => exact ite_ff ⟨.bl false, H3, I3, rfl, q3⟩
  | true => exact ite_tt (chain_last (thn (hc pins s3 σ H3 _ I3 q3) fun w' s4 ⟨z', H4, I4, r4, q4⟩ => ho' pins s4 σ H4 y z' u w' Q I4 r2 r4 q4))
theorem pt_chain {op op' : CmpOp} {r r' : R2} (ho : OpR X (compareOp op) r) (ho' : OpR X (compareOp op') r') (ha : PE X a ta) (hb : PE X b tb) (hc : PE X c tc)
    (hm : lastMarks [op, op'] [b, c] = false := by with_unfolding_all rfl) : PT X (.Compare a [op, op'] [b, c] pos) (tTest (tChain r r' ta tb tc)) := by
  intro pins s σ H Q I h
  refine isTrue_chain (thn (ha pins s σ H _ I h) fun v s1 ⟨x, H1, I1, r1, q1⟩ => test_link (thn (hb pins s1 σ H1 _ I1 q1) fun u s2 ⟨y, H2, I2, r2, q2⟩ =>
    thn (ho pins s2 σ H2 x y v u _ I2 r1 r2 q2) fun d s3 ⟨z, H3, I3, r3, k, e, q3⟩ => ?_)) hm
  subst e
  cases r3
  refine wpAny_truthy_bool ?_
  cases k with
  | false =>
    obtain ⟨k', e', q'⟩ := q3
    cases e'
    exact ite_ff ⟨H3, I3, q'⟩
  | true =>
    refine ite_tt (test_last (thn (hc pins s3 σ H3 _ I3 q3) fun w' s4 ⟨z', H4, I4, r4, q4⟩ => thn (ho' pins s4 σ H4 y z' u w' _ I4 r2 r4 q4) fun d' s5 ⟨z2, H5, I5, r5, k2, e2, q5⟩ => ?_))
    subst e2
    cases r5
    exact wpAny_truthy_bool ⟨H5, I5, q5⟩

/-! ### truth -/
/-- a value's truth by the abstract heap -/
def TruV (K : PySem.W.Frag) (x : V) (H : Hp) (k : Bool) : Prop :=
  match x with
  | .non => k = false
  | .bl b => k = b
  | .int i => k = (i != 0)
  | .str y => y.length ≤ sizeLine ∧ k = ((y.length : Int) != 0)
  | .byt y => y.size ≤ sizeLine ∧ k = ((y.size : Int) != 0)
  | .ref p => (∃ xs, SqL K H p xs ∧ k = !xs.isEmpty) ∨ (∃ xs, SqT K H p xs ∧ k = !xs.isEmpty) ∨ ∃ kvs, H p = some (.dK kvs) ∧ k = !kvs.isEmpty
  | _ => False
theorem isEmpty_kv {κ : Type} {kvs : List (κ × V)} {vs : List (κ × Value)} (r : KV kvs vs) : (!vs.isEmpty) = !kvs.isEmpty := by
  cases r <;> rfl
theorem isEmpty_of {xs : List V} {its : List Value} (r : Vals xs its) : (!its.toArray.isEmpty) = !xs.isEmpty := by
  cases r <;> simp
theorem line63 : (sizeLine : Nat) < 2 ^ 63 := by rw [sizeLine_eq]; decide
theorem tru_ok : TruR X (fun x H Q => ∃ k, TruV X.K x H k ∧ Q k H) := by
  intro pins s σ H x v Q I rx h
  obtain ⟨k, e, q⟩ := h
  have hl := line63
  have hs : sizeLine = 16777216 := sizeLine_eq
  cases x with
  | non =>
    cases rx
    have e' : k = false := e
    subst e'
    exact truthy_none ⟨H, I, q⟩
  | bl b =>
    cases rx
    have e' : k = b := e
    subst e'
    exact wpAny_truthy_bool ⟨H, I, q⟩
  | int i =>
    obtain ⟨t, rfl⟩ := rx
    have e' : k = (i != 0) := e
    subst e'
    exact PySem.P.truthy_int ⟨H, I, q⟩
  | str y =>
    obtain ⟨t, rfl⟩ := rx
    obtain ⟨hy, e'⟩ : y.length ≤ sizeLine ∧ k = ((y.length : Int) != 0) := e
    subst e'
    exact PySem.P.truthy_str (by omega) ⟨H, I.tok _, q⟩
  | byt y =>
    obtain ⟨t, rfl⟩ := rx
    obtain ⟨hy, e'⟩ : y.size ≤ sizeLine ∧ k = ((y.size : Int) != 0) := e
    subst e'
    exact PySem.W.truthy_bytes (by omega) ⟨H, I.tok _, q⟩
  | ref p =>
    cases rx
    have e' : (∃ xs, SqL X.K H p xs ∧ k = !xs.isEmpty) ∨ (∃ xs, SqT X.K H p xs ∧ k = !xs.isEmpty) ∨ ∃ kvs, H p = some (.dK kvs) ∧ k = !kvs.isEmpty := e
    rcases e' with ⟨xs, hx, e'⟩ | ⟨xs, hx, e'⟩ | ⟨kvs, hx, e'⟩
    · subst e'
      obtain ⟨its, r, pl, hz⟩ := I.list hx
      have hlen := r.length
      exact wpAny_truthy_list pl.isList (by simp only [List.size_toArray]; omega) ⟨H, I.tok _, by rw [isEmpty_of r]; exact q⟩
    · subst e'
      obtain ⟨its, r, pl, hz⟩ := I.tuple hx
      have hlen := r.length
      exact truthy_tuple pl (by simp only [List.size_toArray]; omega) ⟨H, I.tok _, by rw [isEmpty_of r]; exact q⟩
    · subst e'
      obtain ⟨hz, hS, vs, r, m⟩ : kvs.length ≤ sizeLine ∧ (p == sysModules) = false ∧ ∃ vs, KV kvs vs ∧ s.heap.DictOf (mixKind X.prog X.w) p vs := I.hok p _ hx
      have hlen : kvs.length = vs.length := Paired.length r
      exact wpAny_truthy_dict hS m (by omega) ⟨H, I.tok _, by rw [isEmpty_kv r]; exact q⟩
  | _ => exact (show False from e).elim
/-- any expression whose test is its value's truth (a name, a call, a subscript, a field ..: he by fun _ => rfl) -/
theorem pt_truth (ha : PE X a ta) (he : ∀ whole, isTrue a X.env whole = (do let v ← whole; standAt a.pos; holding [v] (truthy v))) :
    PT X a (fun σ H Q => ta σ H fun x H' => ∃ k, TruV X.K x H' k ∧ Q k H') := by
  intro pins s σ H Q I h
  exact isTrue_plain (thn (ha pins s σ H _ I h) fun v s1 ⟨x, H1, I1, r1, q1⟩ => tru_ok pins s1 σ H1 x v Q I1 r1 q1) (he _)

/-! ### strs and bytes -/
theorem pe_byt {x : List UInt8} {k : Nat} : PE X (.Constant (.bytes x) k pos) (fun _ H Q => Q (.byt x.toArray) H) := fun _ _ _ H _ I h => PySem.W.Constant_bytes ⟨.byt x.toArray, H, I.tok _, ⟨_, rfl⟩, h⟩
theorem op_add_str : OpR X (binaryOp .Add) (fun x y H Q => ∃ i j, x = .str i ∧ y = .str j ∧ i.length + j.length ≤ sizeLine ∧ Q (.str (i ++ j)) H) := by
  intro pins s σ H x y v u Q I rx ry h
  obtain ⟨i, j, rfl, rfl, hz, q⟩ := h
  obtain ⟨t, rfl⟩ := rx
  obtain ⟨t', rfl⟩ := ry
  exact add_str (fun t' tk => ⟨.str (i ++ j), H, I.tok _, ⟨_, rfl⟩, q⟩) hz
theorem iop_add_str : OpR X (inplaceOp .Add) (fun x y H Q => ∃ i j, x = .str i ∧ y = .str j ∧ i.length + j.length ≤ sizeLine ∧ Q (.str (i ++ j)) H) := by
  intro pins s σ H x y v u Q I rx ry h
  obtain ⟨i, j, rfl, rfl, hz, q⟩ := h
  obtain ⟨t, rfl⟩ := rx
  obtain ⟨t', rfl⟩ := ry
  exact iadd_str (fun t' tk => ⟨.str (i ++ j), H, I.tok _, ⟨_, rfl⟩, q⟩) hz
theorem op_add_byt : OpR X (binaryOp .Add) (fun x y H Q => ∃ i j, x = .byt i ∧ y = .byt j ∧ i.size + j.size ≤ 16777216 ∧ Q (.byt (i ++ j)) H) := by
  intro pins s σ H x y v u Q I rx ry h
  obtain ⟨i, j, rfl, rfl, hz, q⟩ := h
  obtain ⟨t, rfl⟩ := rx
  obtain ⟨t', rfl⟩ := ry
  exact PySem.W.KBy.add_bytes hz (fun t' tk => ⟨.byt (i ++ j), H, I.tok _, ⟨_, rfl⟩, q⟩)

def PlainIxT (b : Expr) : Prop := ∀ o i, subscripted b false o i = operate [o, i] (getItem o i)
/-- s[i], 0 ≤ i < len -/
theorem pe_item_str (ha : PE X a ta) (hb : PE X b tb) (hs : PlainIxT b) :
    PE X (.Subscript a b pos) (tOp (fun x y H Q => ∃ z i c, x = .str z ∧ y = .int i ∧ 0 ≤ i ∧ i < 2 ^ 63 ∧ i < z.length ∧ z.cps[i.toNat]? = some c ∧ Q (.str ⟨#[c]⟩) H) ta tb) := by
  intro pins s σ H Q I h
  refine Subscript_ (binT ha hb I h fun v u s2 x y H2 I2 rx ry q => ?_)
  obtain ⟨z, i, c, rfl, rfl, h0, h63, h1, hc, q⟩ := q
  obtain ⟨t, rfl⟩ := rx
  obtain ⟨t', rfl⟩ := ry
  have e : seqIndex? i z.length = some i.toNat := PySem.StrLaws.seqIndex_nonneg h0 h1
  exact tail_any (typeIs_str s2 z t) slot_str_getitem.lookup (getItem_str (c := c) (by
    have e1 : decide (i < -(2 ^ 63 : Int)) = false := decide_eq_false (by omega)
    have e2 : decide (i ≥ 2 ^ 63) = false := decide_eq_false (by omega)
    rw [e1, e2] <;> rfl) (by rw [e]; exact hc) ⟨.str ⟨#[c]⟩, H2, I2.tok _, ⟨_, rfl⟩, q⟩) (hs _ _)
/-- b[i], 0 ≤ i < len -/
theorem pe_item_byt (ha : PE X a ta) (hb : PE X b tb) (hs : PlainIxT b) :
    PE X (.Subscript a b pos) (tOp (fun x y H Q => ∃ (z : List UInt8) (i : Int), x = .byt z.toArray ∧ y = .int i ∧ z.length ≤ sizeLine ∧ 0 ≤ i ∧ i < z.length ∧ Q (.int ((z.getD i.toNat 0).toNat : Nat)) H) ta tb) := by
  intro pins s σ H Q I h
  refine Subscript_ (binT ha hb I h fun v u s2 x y H2 I2 rx ry q => ?_)
  obtain ⟨z, i, rfl, rfl, hz, h0, h1, q⟩ := q
  obtain ⟨t, rfl⟩ := rx
  obtain ⟨t', rfl⟩ := ry
  have hl : sizeLine = 16777216 := sizeLine_eq
  exact tail_any (PySem.W.typeIs_bytes s2 z.toArray t) PySem.W.FB.slot_bytes_getitem.lookup (PySem.W.getItem_bytes (by omega) h0 h1 ⟨.int ((z.getD i.toNat 0).toNat : Nat), H2, I2.tok _, ⟨_, rfl⟩, q⟩) (hs _ _)

/-! ### scalar builtins, by CallR -/
theorem vals1 {x : V} {us : List Value} (r : Vals [x] us) : ∃ u, us = [u] ∧ RelV x u := by
  cases r with
  | cons r1 r2 => cases r2; exact ⟨_, rfl, r1⟩
theorem vals2 {x y : V} {us : List Value} (r : Vals [x, y] us) : ∃ u w', us = [u, w'] ∧ RelV x u ∧ RelV y w' := by
  cases r with
  | cons r1 r2 =>
    cases r2 with
    | cons r3 r4 => cases r4; exact ⟨_, _, rfl, r1, r3⟩
theorem call_abs : CallR X (.builtin "abs") (fun xs H Q => ∃ i, xs = [.int i] ∧ Q (.int (if i < 0 then -i else i)) H) := by
  intro pins s σ H xs us Q I r h
  obtain ⟨i, rfl, q⟩ := h
  obtain ⟨u, rfl, t, rfl⟩ := vals1 r
  exact call_abs_int fun u tk => ⟨.int (if i < 0 then -i else i), H, I.tok _, ⟨_, rfl⟩, q⟩
theorem call_max2 (hc : X.calm = true) : CallR X (.builtin "max") (fun xs H Q => ∃ i j, xs = [.int i, .int j] ∧ Q (.int (if j > i then j else i)) H) := by
  intro pins s σ H xs us Q I r h
  obtain ⟨i, j, rfl, q⟩ := h
  obtain ⟨u, w', rfl, ⟨t, rfl⟩, ⟨t', rfl⟩⟩ := vals2 r
  refine max_two_ints (I.ok.hd hc) fun h' tk k => ⟨_, H, I.kept k, ?_, q⟩
  by_cases hj : j > i
  · rw [if_pos hj, if_pos hj]; exact ⟨_, rfl⟩
  · rw [if_neg hj, if_neg hj]; exact ⟨_, rfl⟩
theorem call_min2 (hc : X.calm = true) : CallR X (.builtin "min") (fun xs H Q => ∃ i j, xs = [.int i, .int j] ∧ Q (.int (if j < i then j else i)) H) := by
  intro pins s σ H xs us Q I r h
  obtain ⟨i, j, rfl, q⟩ := h
  obtain ⟨u, w', rfl, ⟨t, rfl⟩, ⟨t', rfl⟩⟩ := vals2 r
  refine min_two_ints (I.ok.hd hc) fun h' tk k => ⟨_, H, I.kept k, ?_, q⟩
  by_cases hj : j < i
  · rw [if_pos hj, if_pos hj]; exact ⟨_, rfl⟩
  · rw [if_neg hj, if_neg hj]; exact ⟨_, rfl⟩
theorem call_int1 : CallR X (.type "int") (fun xs H Q => (∃ i, xs = [.int i] ∧ Q (.int i) H) ∨ ∃ k, xs = [.bl k] ∧ Q (.int (if k then 1 else 0)) H) := by
  intro pins s σ H xs us Q I r h
  rcases h with ⟨i, rfl, q⟩ | ⟨k, rfl, q⟩
  · obtain ⟨u, rfl, t, rfl⟩ := vals1 r
    exact call_int_int ⟨.int i, H, I, ⟨_, rfl⟩, q⟩
  · obtain ⟨u, rfl, r1⟩ := vals1 r
    cases r1
    exact call_int_bool ⟨.int (if k then 1 else 0), H, I.tok _, ⟨_, rfl⟩, q⟩
theorem call_bool1 : CallR X (.type "bool") (fun xs H Q => (∃ i, xs = [.int i] ∧ Q (.bl (i != 0)) H) ∨ ∃ k, xs = [.bl k] ∧ Q (.bl k) H) := by
  intro pins s σ H xs us Q I r h
  rcases h with ⟨i, rfl, q⟩ | ⟨k, rfl, q⟩
  · obtain ⟨u, rfl, t, rfl⟩ := vals1 r
    exact call_bool_int ⟨.bl (i != 0), H, I, rfl, q⟩
  · obtain ⟨u, rfl, r1⟩ := vals1 r
    cases r1
    exact call_bool_bool ⟨.bl k, H, I, rfl, q⟩
theorem call_str_int : CallR X (.type "str") (fun xs H Q => ∃ i, xs = [.int i] ∧ i.natAbs.log2 < 1920 ∧ Q (.str (toString i)) H) := by
  intro pins s σ H xs us Q I r h
  obtain ⟨i, rfl, hz, q⟩ := h
  obtain ⟨u, rfl, t, rfl⟩ := vals1 r
  exact PySem.P.str_of_int hz ⟨.str _, H, I.tok _, ⟨_, rfl⟩, q⟩
theorem call_ord : CallR X (.builtin "ord") (fun xs H Q => ∃ x, xs = [.str x] ∧ x.length = 1 ∧ Q (.int (x.cps.getD 0 0 : Nat)) H) := by
  intro pins s σ H xs us Q I r h
  obtain ⟨x, rfl, hz, q⟩ := h
  obtain ⟨u, rfl, t, rfl⟩ := vals1 r
  exact ord_of_one hz ⟨.int _, H, I.tok _, ⟨_, rfl⟩, q⟩
theorem call_chr : CallR X (.builtin "chr") (fun xs H Q => ∃ i, xs = [.int i] ∧ 0 ≤ i ∧ i ≤ 1114111 ∧ Q (.str ⟨#[i.toNat]⟩) H) := by
  intro pins s σ H xs us Q I r h
  obtain ⟨i, rfl, h0, h1, q⟩ := h
  obtain ⟨u, rfl, t, rfl⟩ := vals1 r
  exact chr_of_range h0 h1 ⟨.str _, H, I.tok _, ⟨_, rfl⟩, q⟩
/-- len of a str, a bytes, a list, a tuple -/
def LenV (K : PySem.W.Frag) (x : V) (H : Hp) (n : Nat) : Prop :=
  match x with
  | .str y => y.length ≤ sizeLine ∧ n = y.length
  | .byt y => y.size ≤ sizeLine ∧ n = y.size
  | .ref p => (∃ xs, SqL K H p xs ∧ n = xs.length) ∨ ∃ xs, SqT K H p xs ∧ n = xs.length
  | _ => False
theorem call_len : CallR X (.builtin "len") (fun xs H Q => ∃ x n, xs = [x] ∧ LenV X.K x H n ∧ Q (.int n) H) := by
  intro pins s σ H xs us Q I r h
  obtain ⟨x, n, rfl, e, q⟩ := h
  obtain ⟨u, rfl, rx⟩ := vals1 r
  have hl := line63
  have hs : sizeLine = 16777216 := sizeLine_eq
  cases x with
  | str y =>
    obtain ⟨t, rfl⟩ := rx
    obtain ⟨hy, e'⟩ : y.length ≤ sizeLine ∧ n = y.length := e
    subst e'
    exact len_str (by omega) ⟨.int _, H, I.tok _, ⟨_, rfl⟩, q⟩
  | byt y =>
    obtain ⟨t, rfl⟩ := rx
    obtain ⟨hy, e'⟩ : y.size ≤ sizeLine ∧ n = y.size := e
    subst e'
    exact PySem.W.len_bytes (by omega) ⟨.int _, H, I.tok _, ⟨_, rfl⟩, q⟩
  | ref p =>
    cases rx
    have e' : (∃ xs, SqL X.K H p xs ∧ n = xs.length) ∨ ∃ xs, SqT X.K H p xs ∧ n = xs.length := e
    rcases e' with ⟨xs, hx, e'⟩ | ⟨xs, hx, e'⟩
    · subst e'
      obtain ⟨its, r', pl, hz⟩ := I.list hx
      have hlen := r'.length
      exact Calls.call_len_list pl.isList (by simp only [List.size_toArray]; omega) ⟨.int xs.length, H, I.tok _, ⟨_, by simp only [List.size_toArray]; rw [hlen]⟩, q⟩
    · subst e'
      obtain ⟨its, r', pl, hz⟩ := I.tuple hx
      have hlen := r'.length
      exact len_tuple pl (by simp only [List.size_toArray]; omega) ⟨.int xs.length, H, I.tok _, ⟨_, by simp only [List.size_toArray]; rw [hlen]⟩, q⟩
  | _ => exact (show False from e).elim
/-- divmod: a new tuple -/
theorem call_divmod : CallR X (.builtin "divmod") (fun xs H Q => ∃ i j, xs = [.int i, .int j] ∧ CDiv i j ∧ ∀ p, H p = none → Q (.ref p) (upd H p (.tup [.int (i / j), .int (i % j)]))) := by
  intro pins s σ H xs us Q I r h
  obtain ⟨i, j, rfl, ⟨h1, h2⟩, q⟩ := h
  obtain ⟨u, w', rfl, ⟨t, rfl⟩, ⟨t', rfl⟩⟩ := vals2 r
  refine divmod_int (by omega) ?_ (.inl (PyProof.noPylong_small (by omega)))
  rw [Int.fdiv_eq_ediv_of_nonneg i (by omega), Int.fmod_eq_emod_of_nonneg i (by omega)]
  have hn : H s.heap.objs.size = none := I.hok.fresh (Nat.le_refl _)
  refine ⟨.ref s.heap.objs.size, _, ?_, rfl, q _ hn⟩
  refine I.laid (fun b o e => Heap.get?_push_of_some _ e) (Nat.le_refl _) ⟨by simp only [List.length_cons, List.length_nil]; rw [sizeLine_eq]; decide, [.int (i / j) s.toks, .int (i % j) (s.toks + 1)], .cons ⟨_, rfl⟩ (.cons ⟨_, rfl⟩ .nil), ?_⟩
  exact ⟨_, Heap.get?_push_size s.heap rfl, rfl, 0, rfl⟩
end
end L2

namespace L2
open PySem PySem.Spec PyProof.Rows

/-! ### an instance, its attributes a map -/
structure ObjM (h : Heap) (x dx C : Addr) (mA : Str → Option Value) : Prop where
  obj : h.get? x = some (PySem.W.instObj C dx)
  ns : h.Ns1 dx mA
  ne : dx ≠ x

theorem lookIn_ns {h : Heap} {dx : Addr} {mA : Str → Option Value} (n : h.Ns1 dx mA) : ∃ od, h.get? dx = some od ∧ ∀ name, PySem.W.lookIn name od = some (mA name) := by
  obtain ⟨o, es, ep, ho, hd, hk, _, hm⟩ := n
  refine ⟨o, ho, fun name => ?_⟩
  have e := hm name
  unfold nsFind findBy at e
  rw [← Array.find?_toList] at e
  unfold PySem.W.lookIn
  rw [hd]
  dsimp only
  split
  · rename_i y q
    rw [q] at e
    exact congrArg some e
  · rename_i q
    rw [q] at e
    have a : es.toList.any (·.refKey) = false := by
      rw [List.any_eq_false]
      intro y hy
      obtain ⟨z, t, hkey⟩ := hk y (Array.mem_toList_iff.mp hy)
      simp [DictEntry.refKey, hkey]
    have a' : ¬ es.toList.any (·.refKey) = true := by rw [a]; exact Bool.false_ne_true
    rw [if_neg a']
    exact congrArg some e

theorem ObjM.look {h : Heap} {x dx C : Addr} {mA : Str → Option Value} (I : ObjM h x dx C mA) : ∃ od, PySem.W.InstAt h x (PySem.W.instObj C dx) C (some od) ∧ ∀ name, PySem.W.lookIn name od = some (mA name) :=
  let ⟨od, ho, hl⟩ := lookIn_ns I.ns
  ⟨od, ⟨I.obj, rfl, rfl, ho⟩, hl⟩

section
variable {prog : Program} {w : World} {A : Around} {E : Value → Shared → Prop} {s : Shared} {K : PySem.W.Frag} {x dx C f : Addr} {mA : Str → Option Value} {name : Str} {v : Value}

theorem get_map {expr : Bool} {Q : Value → Shared → Prop} (X : K.In s.heap) (I : ObjM s.heap x dx C mA) (hg : PySem.W.plainGet K C name = true) (hh : PySem.W.hasDictIn K C = true)
    (ha : PySem.W.findIn K (.ref C) name = some none) (hv : mA name = some v) (hv' : PySem.W.handedIn v = true) (h : Q v { s with toks := s.toks + 1 }) :
    wpAny (model prog w) A (getAttr (.ref x) name expr) Q E s := by
  obtain ⟨od, J, hl⟩ := I.look
  exact PySem.W.get_value X J (PySem.W.plainGet_of hg).1 (PySem.W.findObj_own hh ha rfl (by rw [hl, hv])) hv' h

theorem get_const {expr : Bool} {a : Value} {Q : Value → Shared → Prop} (X : K.In s.heap) (I : ObjM s.heap x dx C mA) (hg : PySem.W.plainGet K C name = true) (hh : PySem.W.hasDictIn K C = true)
    (ha : PySem.W.findIn K (.ref C) name = some (some a)) (hn : PySem.W.specialIn K a "__get__" = some none) (hc : PySem.W.copiedNames.contains name = false) (hv : mA name = none) (hv' : PySem.W.handedIn a = true)
    (h : Q a { s with toks := s.toks + 1 }) : wpAny (model prog w) A (getAttr (.ref x) name expr) Q E s := by
  obtain ⟨od, J, hl⟩ := I.look
  exact PySem.W.get_value X J (PySem.W.plainGet_of hg).1 (PySem.W.findObj_cls hh ha hn hv' hc (by rw [hl, hv])) hv' h

theorem get_meth {pl : Sem Bool} {Q : Value × List Value → Shared → Prop} (X : K.In s.heap) (I : ObjM s.heap x dx C mA) (hg : PySem.W.plainGet K C name = true)
    (hf : PySem.W.findIn K (.ref C) name = some (some (.ref f))) (ht : PySem.W.isFn K (.ref f) = true) (hv : mA name = none) (h : Q (.ref f, [.ref x]) s) :
    wpAny (model prog w) A (getMethod (.ref x) name pl) Q E s := by
  obtain ⟨od, J, hl⟩ := I.look
  exact PySem.W.method_fn X J (PySem.W.plainGet_of hg).1 (PySem.W.plainGet_of hg).2 hf (beq_iff_eq.mp ht) (by show (PySem.W.lookIn name od).map (·.isSome) = some false; rw [hl, hv]; rfl) h

theorem set_map {ns : List Str} {Q : Unit → Shared → Prop} (X : K.In s.heap) (I : ObjM s.heap x dx C mA)
    (hs : PySem.W.findIn K (.ref C) "__setattr__" = some (some (.builtin "object.__setattr__"))) (hp : PySem.W.plainOver K C = true) (ht : PySem.W.takerIn K C name = some none) (hh : PySem.W.hasDictIn K C = true)
    (hw : PySem.Within mA ns) (hsz : ns.length ≤ sizeLine)
    (h : ∀ h', ObjM h' x dx C (fun y => if y = name then some v else mA y) → Heap.SameBut dx s.heap h' → Q () { s with heap := h', toks := s.toks + 2 }) :
    wpAny (model prog w) A (setAttr (.ref x) name v) Q E s := by
  obtain ⟨od, J, hl⟩ := I.look
  refine PySem.W.set_plain X J hs (PySem.W.osa_open (s := { s with toks := s.toks + 1 }) (r := none) X J hp ht fun b => ?_)
  obtain ⟨cd, hc, hd'⟩ := PySem.W.any_some hh
  have hx : s.heap.get? x = some ⟨.ref C, some dx, .plain, #[]⟩ := I.obj
  refine wpAny_bind (wpAny_pure (wpAny_bind (wpAny_bind (wpAny_loadPart hx (wpAny_bind (PySem.W.Looks.here (s := { s with toks := s.toks + 1 }) (PySem.W.looks_clsIn X hc) ?_))))))
  rw [hd']
  refine wpAny_pure (a := some dx) (wpAny_bind (wpAny_pure (wpAny_bind ?_)))
  refine wpAny_nsSet1 (s := { s with toks := s.toks + 1 }) I.ns fun h' hn2 hs2 => ?_
  obtain ⟨oD, esD, epD, hoD, hdD, hcD⟩ := hn2.count (PySem.Within.cons name v hw)
  refine wpAny_bind (wpAny_lookBehind hoD (by rw [hdD]; exact pastItsLine_dict (Nat.le_trans hcD (by rw [List.length_cons]; omega))) ?_)
  exact wpAny_pure (h _ ⟨(hs2.2 _ (Ne.symm I.ne)).trans I.obj, hn2, I.ne⟩ hs2)

/-- C(..): the dict at the heap's end, the instance behind it; then its __init__ -/
theorem make_map {R : Result → Shared → Prop} {vs : List Value} {kw : List (Str × Value)} (X : K.In s.heap) (hm : PySem.W.makesIn K C = true)
    (hi : PySem.W.findIn K (.ref C) "__init__" = some (some (.ref f))) (hf : PySem.W.typeIn K (.ref f) = some (.type "function"))
    (h : codeAny (model prog w) (A.under (.builtin "type.__call__" ⟨.ref C :: vs, kw⟩)) (.call (.ref f) ⟨.ref (s.heap.objs.size + 1) :: vs, kw⟩) (PySem.W.InitBack (s.heap.objs.size + 1) R)
      { s with heap := (s.heap.push PySem.W.emptyDict).push (PySem.W.instObj C s.heap.objs.size) }) :
    codeAny (model prog w) A (.call (.ref C) ⟨vs, kw⟩) R s := by
  obtain ⟨hh, g, d, t, os⟩ := s
  exact PySem.W.make_core (PySem.W.makes_of X hm) (PySem.W.looks_findIn X hi) (fun self => PySem.W.bind_fn X self hf) (.inl rfl) h
/-- C() where there is no __init__ but object's -/
theorem make_map0 {R : Result → Shared → Prop} (X : K.In s.heap) (hm : PySem.W.makesIn K C = true)
    (hi : PySem.W.findIn K (.ref C) "__init__" = some (some (.builtin "object.__init__")))
    (hb : ∀ self, PySem.W.Looks (model prog w) s.heap (bindSpecial (.builtin "object.__init__") self) (.builtin "object.__init__", [self]))
    (h : codeAny (model prog w) (A.under (.builtin "type.__call__" ⟨[.ref C], []⟩)) (.call (.builtin "object.__init__") ⟨[.ref (s.heap.objs.size + 1)], []⟩) (PySem.W.InitBack (s.heap.objs.size + 1) R)
      { s with heap := (s.heap.push PySem.W.emptyDict).push (PySem.W.instObj C s.heap.objs.size) }) :
    codeAny (model prog w) A (.call (.ref C) ⟨[], []⟩) R s := by
  obtain ⟨hh, g, d, t, os⟩ := s
  exact PySem.W.make_core (PySem.W.makes_of X hm) (PySem.W.looks_findIn X hi) hb (.inr ⟨rfl, rfl⟩) h
end

/-! ### the attributes as a list of pairs -/
def putF (f : Str) (v : V) : List (Str × V) → List (Str × V)
  | [] => [(f, v)]
  | (g, x) :: r => if g = f then (g, v) :: r else (g, x) :: putF f v r
theorem lookup_putF (f g : Str) (v : V) : ∀ fs : List (Str × V), (putF f v fs).lookup g = if g = f then some v else fs.lookup g
  | [] => by
    show List.lookup g [(f, v)] = _
    by_cases h : g = f
    · have hb : (g == f) = true := beq_iff_eq.mpr h
      simp only [List.lookup, hb, if_pos h]
    · have hb : (g == f) = false := beq_eq_false_iff_ne.mpr h
      simp only [List.lookup, hb, if_neg h]
  | (k, x) :: r => by
    have ih := lookup_putF f g v r
    rw [show putF f v ((k, x) :: r) = (if k = f then (k, v) :: r else (k, x) :: putF f v r) from rfl]
    by_cases hk : k = f
    · rw [if_pos hk]
      by_cases h : g = k
      · have hb : (g == k) = true := beq_iff_eq.mpr h
        simp only [List.lookup, hb, if_pos (h.trans hk)]
      · have hb : (g == k) = false := beq_eq_false_iff_ne.mpr h
        simp only [List.lookup, hb, if_neg (fun e : g = f => h (e.trans hk.symm))]
    · rw [if_neg hk]
      by_cases h : g = k
      · have hb : (g == k) = true := beq_iff_eq.mpr h
        simp only [List.lookup, hb, if_neg (fun e : g = f => hk (h.symm.trans e))]
      · have hb : (g == k) = false := beq_eq_false_iff_ne.mpr h
        simp only [List.lookup, hb]
        exact ih
theorem keys_putF (f : Str) (v : V) : ∀ fs : List (Str × V), f ∈ (putF f v fs).map (·.1) ∧ ∀ g, g ∈ fs.map (·.1) → g ∈ (putF f v fs).map (·.1)
  | [] => ⟨by simp [putF], fun g h => by simp at h⟩
  | (k, x) :: r => by
    obtain ⟨i1, i2⟩ := keys_putF f v r
    rw [show putF f v ((k, x) :: r) = (if k = f then (k, v) :: r else (k, x) :: putF f v r) from rfl]
    by_cases hk : k = f
    · rw [if_pos hk]
      subst hk
      exact ⟨by simp, fun g h => by simpa using h⟩
    · rw [if_neg hk]
      refine ⟨?_, fun g h => ?_⟩
      · rw [List.map_cons]
        exact List.mem_cons_of_mem _ i1
      · rw [List.map_cons] at h ⊢
        rcases List.mem_cons.mp h with e | e
        · exact List.mem_cons.mpr (.inl e)
        · exact List.mem_cons_of_mem _ (i2 g e)
theorem length_putF (f : Str) (v : V) : ∀ fs : List (Str × V), (putF f v fs).length ≤ fs.length + 1
  | [] => by simp [putF]
  | (k, x) :: r => by
    have ih := length_putF f v r
    rw [show putF f v ((k, x) :: r) = (if k = f then (k, v) :: r else (k, x) :: putF f v r) from rfl]
    by_cases hk : k = f
    · rw [if_pos hk, List.length_cons, List.length_cons]; omega
    · rw [if_neg hk, List.length_cons, List.length_cons]; omega

theorem RelO.some_of {v : V} {o : Option Value} (r : RelO (some v) o) : ∃ u, o = some u ∧ RelV v u := by
  cases o with
  | none => exact (show False from r).elim
  | some u => exact ⟨u, rfl, r⟩
theorem RelO.none_of {o : Option Value} (r : RelO none o) : o = none := by
  cases o with
  | none => rfl
  | some u => exact (show False from r).elim
theorem handed_of {v : V} {u : Value} (r : RelV v u) : PySem.W.handedIn u = true := by
  cases v with
  | non => cases (show u = Value.none from r); rfl
  | bl b => cases (show u = Value.bool b from r); rfl
  | int i => obtain ⟨t, e⟩ := (show ∃ t, u = Value.int i t from r); cases e; rfl
  | str x => obtain ⟨t, e⟩ := (show ∃ t, u = Value.str x t from r); cases e; rfl
  | byt b => obtain ⟨t, e⟩ := (show ∃ t, u = Value.bytes b t from r); cases e; rfl
  | flt b => obtain ⟨t, e⟩ := (show ∃ t, u = Value.float b t from r); cases e; rfl
  | ref a => cases (show u = Value.ref a from r); rfl
  | ty n => cases (show u = Value.type n from r); rfl

section
variable {P : Program} {w : World} {H H' : Hp} {h h' : Heap} {a C dx : Addr} {fs fs' : List (Str × V)}
theorem ins_get (hok : HOk P w H h) (e : H a = some (.ins C dx fs)) : ∃ mA, ObjM h a dx C mA ∧ (∀ f, RelO (fs.lookup f) (mA f)) ∧ PySem.Within mA (fs.map (·.1)) ∧ fs.length ≤ 1000 ∧ H dx = some (.own a) := by
  obtain ⟨d, z, ne, ob, mA, n, r, q⟩ := (show ObjOk P w H h a (.ins C dx fs) from hok a _ e)
  exact ⟨mA, ⟨ob, n, ne⟩, r, q, z, d⟩
end

/-! ### what of the text a class must have -/
structure Cls (K : PySem.W.Frag) (C : Addr) : Prop where
  pg : PySem.W.plainGet K C Str.empty = true
  hd : PySem.W.hasDictIn K C = true
  po : PySem.W.plainOver K C = true
  sa : PySem.W.findIn K (.ref C) "__setattr__" = some (some (.builtin "object.__setattr__"))
theorem Cls.get {K : PySem.W.Frag} {C : Addr} (c : Cls K C) (f : Str) : PySem.W.plainGet K C f = true := c.pg
/-- no class of it has the name -/
def NoAttr (K : PySem.W.Frag) (C : Addr) (f : Str) : Prop := PySem.W.findIn K (.ref C) f = some none
theorem NoAttr.taker {K : PySem.W.Frag} {C : Addr} {f : Str} (n : NoAttr K C f) : PySem.W.takerIn K C f = some none := by
  unfold PySem.W.takerIn
  rw [show PySem.W.findIn K (.ref C) f = some none from n]
  rfl
/-- a constant of the class -/
structure Con (K : PySem.W.Frag) (C : Addr) (f : Str) (v : V) (u : Value) : Prop where
  at_ : PySem.W.findIn K (.ref C) f = some (some u)
  rel : RelV v u
  get : PySem.W.specialIn K u "__get__" = some none
  cp : PySem.W.copiedNames.contains f = false
/-- a method: a plain def of the class or of one above it -/
structure Meth (K : PySem.W.Frag) (C : Addr) (m : Str) (f : Addr) : Prop where
  at_ : PySem.W.findIn K (.ref C) m = some (some (.ref f))
  fn : PySem.W.isFn K (.ref f) = true
  kp : PySem.W.keepIn K (.ref f) = true

section
variable {X : Cx} {pins : List (Addr × Obj)} {σ : St} {H : Hp} {s : Shared} {a C dx : Addr} {fs : List (Str × V)} {f : Str} {v : V} {A : Around} {E : Value → Shared → Prop}

theorem getattr_ok {b : Bool} {Q : Value → Shared → Prop} (I : Inv X pins σ H s) (e : H a = some (.ins C dx fs)) (c : Cls X.K C) (n : NoAttr X.K C f) (l : fs.lookup f = some v)
    (h : ∀ u s', Inv X pins σ H s' → RelV v u → Q u s') : wpAny (model X.prog X.w) A (getAttr (.ref a) f b) Q E s := by
  obtain ⟨mA, O, r, _, _, _⟩ := ins_get I.hok e
  obtain ⟨u, hu, ru⟩ := RelO.some_of (v := v) (o := mA f) (by rw [← l]; exact r f)
  exact get_map I.kIn O (c.get f) c.hd n hu (handed_of ru) (h u _ (I.tok _) ru)

theorem getcon_ok {b : Bool} {u : Value} {Q : Value → Shared → Prop} (I : Inv X pins σ H s) (e : H a = some (.ins C dx fs)) (c : Cls X.K C) (k : Con X.K C f v u) (l : fs.lookup f = none)
    (h : ∀ s', Inv X pins σ H s' → Q u s') : wpAny (model X.prog X.w) A (getAttr (.ref a) f b) Q E s := by
  obtain ⟨mA, O, r, _, _, _⟩ := ins_get I.hok e
  have hn : mA f = none := RelO.none_of (by rw [← l]; exact r f)
  exact get_const I.kIn O (c.get f) c.hd k.at_ k.get k.cp hn (handed_of k.rel) (h _ (I.tok _))

theorem getmeth_ok {m : Str} {g : Addr} {pl : Sem Bool} {Q : Value × List Value → Shared → Prop} (I : Inv X pins σ H s) (e : H a = some (.ins C dx fs)) (c : Cls X.K C) (k : Meth X.K C m g) (l : fs.lookup m = none)
    (h : Q (.ref g, [.ref a]) s) : wpAny (model X.prog X.w) A (getMethod (.ref a) m pl) Q E s := by
  obtain ⟨mA, O, r, _, _, _⟩ := ins_get I.hok e
  have hn : mA m = none := RelO.none_of (by rw [← l]; exact r m)
  exact get_meth I.kIn O (c.get m) k.at_ k.fn hn h

theorem setattr_ok {y : V} {u : Value} {Q : Unit → Shared → Prop} (I : Inv X pins σ H s) (e : H a = some (.ins C dx fs)) (c : Cls X.K C) (n : NoAttr X.K C f) (hl : fs.length < 1000) (ry : RelV y u)
    (h : ∀ s', Inv X pins σ (upd H a (.ins C dx (putF f y fs))) s' → Q () s') : wpAny (model X.prog X.w) A (setAttr (.ref a) f u) Q E s := by
  obtain ⟨mA, O, r, wi, _, ho⟩ := ins_get I.hok e
  have hz : (fs.map (·.1)).length ≤ sizeLine := by rw [List.length_map, sizeLine_eq]; omega
  refine set_map I.kIn O c.sa c.po n.taker c.hd wi hz fun h' O' sb => h _ ?_
  have hd : ∃ o, h'.get? dx = some o := let ⟨o, _, _, e', _⟩ := O'.ns; ⟨o, e'⟩
  refine I.write (x := a) (e := dx) (by rw [e]; exact True.intro) (.inr ho) (fun b q hb z => (sb.2 b hb).trans z) hd ?_
  refine ⟨by rw [upd_ne O.ne]; exact ho, ?_, O.ne, O'.obj, _, O'.ns, fun g => ?_, fun g hg => ?_⟩
  · have := length_putF f y fs; omega
  · show RelO ((putF f y fs).lookup g) (if g = f then some u else mA g)
    rw [lookup_putF]
    by_cases q : g = f
    · rw [if_pos q, if_pos q]; exact ry
    · rw [if_neg q, if_neg q]; exact r g
  · by_cases q : g = f
    · rw [q]; exact (keys_putF f y fs).1
    · refine (keys_putF f y fs).2 g (wi g fun z => hg ?_)
      show (if g = f then some u else mA g) = none
      rw [if_neg q]; exact z

/-- a new instance, tracked, without attributes -/
theorem Inv.made (I : Inv X pins σ H s) : Inv X pins σ (upd (upd H s.heap.objs.size (.own (s.heap.objs.size + 1))) (s.heap.objs.size + 1) (.ins C s.heap.objs.size []))
    { s with heap := (s.heap.push PySem.W.emptyDict).push (PySem.W.instObj C s.heap.objs.size) } := by
  have e1 : (s.heap.push PySem.W.emptyDict).get? s.heap.objs.size = some PySem.W.emptyDict := Heap.get?_push_size s.heap rfl
  have e2 : ((s.heap.push PySem.W.emptyDict).push (PySem.W.instObj C s.heap.objs.size)).get? (s.heap.objs.size + 1) = some (PySem.W.instObj C s.heap.objs.size) := by
    have := Heap.get?_push_size (s.heap.push PySem.W.emptyDict) (o := PySem.W.instObj C s.heap.objs.size) rfl
    rwa [Heap.size_push] at this
  have e3 : (s.heap.push PySem.W.emptyDict).Ns s.heap.objs.size (fun _ => none) := ⟨PySem.W.emptyDict, #[], _, e1, rfl, (fun e he => absurd he (by simp)), fun _ => rfl⟩
  have I1 := I.laid (a := s.heap.objs.size) (o := .own (s.heap.objs.size + 1)) (h' := s.heap.push PySem.W.emptyDict) (t' := s.toks) (fun b u q => Heap.get?_push_of_some _ q) (Nat.le_refl _) ⟨_, e1⟩
  refine I1.laid (a := s.heap.objs.size + 1) (o := .ins C s.heap.objs.size []) (t' := s.toks) (fun b u q => Heap.get?_push_of_some _ q) (Nat.le_of_eq (Heap.size_push _ _)) ?_
  have ne : s.heap.objs.size ≠ s.heap.objs.size + 1 := Nat.ne_of_lt (Nat.lt_succ_self _)
  refine ⟨by rw [upd_ne ne, upd_same], Nat.zero_le _, ne, e2, fun _ => none, (Heap.Ns1.of_empty e3).at fun o q => Heap.get?_push_of_some _ q, fun _ => True.intro, fun y hy => absurd rfl hy⟩

/-- e.f where nothing but the object is asked: through attributeBase (super) and the last hold -/
theorem attr_of {prog : Program} {w : World} {env : Env} {e : Expr} {f : Str} {pos : Pos} {s : Shared} {Q : Value → Shared → Prop} (hb : attributeBase e f env (eval e env) = eval e env)
    (h : wpAny (model prog w) A (eval e env) (fun o s₁ => wpAny (model prog w) A (getAttr o f true) Q E s₁) E s) : wpAny (model prog w) A (eval (.Attribute e f pos) env) Q E s :=
  Attribute_any_ h (by rw [arm_eval_Attribute, hb])
end

/-! ### readings and rules -/
/-- e.f, an attribute of the instance -/
def tFld (K : PySem.W.Frag) (ta : TE) (f : Str) : TE := fun σ H Q => ta σ H fun x H1 => ∃ a C dx fs v, x = .ref a ∧ H1 a = some (.ins C dx fs) ∧ Cls K C ∧ NoAttr K C f ∧ fs.lookup f = some v ∧ Q v H1
/-- e.f, a constant of the class -/
def tCon (K : PySem.W.Frag) (ta : TE) (f : Str) : TE := fun σ H Q => ta σ H fun x H1 => ∃ a C dx fs v u, x = .ref a ∧ H1 a = some (.ins C dx fs) ∧ Cls K C ∧ Con K C f v u ∧ fs.lookup f = none ∧ Q v H1
/-- e.f = value -/
def sFld (K : PySem.W.Frag) (ta tv : TE) (f : Str) : TS := fun D σ H => tv σ H fun y H1 => ta σ H1 fun x H2 => ∃ a C dx fs, x = .ref a ∧ H2 a = some (.ins C dx fs) ∧ Cls K C ∧ NoAttr K C f ∧ fs.length < 1000 ∧
  D.nx σ (upd H2 a (.ins C dx (putF f y fs)))
/-- an augmented operator on two values -/
def InOp (X : Cx) (op : Operator) (rd : V → V → Hp → VK → Prop) : Prop :=
  ∀ (pins : List (Addr × Obj)) (s : Shared) (σ : St) (H : Hp) (x y : V) (u v : Value) (Q : VK), Inv X pins σ H s → RelV x u → RelV y v → rd x y H Q → wpAny (model X.prog X.w) X.A (inplaceOp op u v) (EP X pins σ Q) X.xe s
/-- e.f op= value -/
def sFldAug (K : PySem.W.Frag) (ta tv : TE) (rd : V → V → Hp → VK → Prop) (f : Str) : TS := fun D σ H => ta σ H fun x H1 => ∃ a C dx fs v, x = .ref a ∧ H1 a = some (.ins C dx fs) ∧ Cls K C ∧ NoAttr K C f ∧ fs.lookup f = some v ∧
  tv σ H1 fun y H2 => rd v y H2 fun z H3 => ∃ dx' fs', H3 a = some (.ins C dx' fs') ∧ fs'.length < 1000 ∧ D.nx σ (upd H3 a (.ins C dx' (putF f z fs')))

section
variable {X : Cx} {o e value : Expr} {f : Str} {pos pos' tpos : Pos} {ta tv : TE}
theorem pe_fld (he : PE X e ta) (hb : attributeBase e f X.env (eval e X.env) = eval e X.env) : PE X (.Attribute e f pos) (tFld X.K ta f) := by
  intro pins s σ H Q I h
  refine attr_of hb (thn (he pins s σ H _ I h) fun u s1 ⟨x, H1, I1, rx, a, C, dx, fs, v, ex, ea, c, n, l, q⟩ => ?_)
  subst ex
  obtain rfl : u = Value.ref a := rx
  exact getattr_ok I1 ea c n l fun u' s2 I2 ru => ⟨v, H1, I2, ru, q⟩
theorem pe_con (he : PE X e ta) (hb : attributeBase e f X.env (eval e X.env) = eval e X.env) : PE X (.Attribute e f pos) (tCon X.K ta f) := by
  intro pins s σ H Q I h
  refine attr_of hb (thn (he pins s σ H _ I h) fun u s1 ⟨x, H1, I1, rx, a, C, dx, fs, v, u0, ex, ea, c, k, l, q⟩ => ?_)
  subst ex
  obtain rfl : u = Value.ref a := rx
  exact getcon_ok I1 ea c k l fun s2 I2 => ⟨v, H1, I2, k.rel, q⟩
theorem ps_fld (ha : PE X o ta) (hv : PE X value tv) (hs : swapsWith value (some (.Attribute o f pos')) pos.line X.env = pure false) : PS X (.Assign [.Attribute o f pos'] value pos) (sFld X.K ta tv f) := by
  intro pins s σ H D I h
  refine plainObj_wpAny_Assign_Attribute (thn (hv pins s σ H _ I h) fun u s1 ⟨y, H1, I1, ry, q⟩ => thn (ha pins s1 σ H1 _ I1 q) fun ov s2 ⟨x, H2, I2, rx, a, C, dx, fs, ex, ea, c, n, l, q2⟩ => ?_) hs
  subst ex
  obtain rfl : ov = Value.ref a := rx
  exact setattr_ok I2 ea c n l ry fun s3 I3 => ⟨σ, _, I3, q2⟩
theorem ps_fldaug {op : Operator} {rd : V → V → Hp → VK → Prop} (ha : PE X o ta) (hv : PE X value tv) (hop : InOp X op rd) : PS X (.AugAssign (.Attribute o f tpos) op value pos) (sFldAug X.K ta tv rd f) := by
  intro pins s σ H D I h
  refine wpAny_AugAssign_AttributeAny (thn (ha pins s σ H _ I h) fun ov s1 ⟨x, H1, I1, rx, a, C, dx, fs, v, ex, ea, c, n, l, q⟩ => ?_)
  subst ex
  obtain rfl : ov = Value.ref a := rx
  refine getattr_ok I1 ea c n l fun u s2 I2 ru => thn (hv pins s2 σ H1 _ I2 q) fun w3 s3 ⟨y, H2, I3, ry, q3⟩ => thn (hop pins s3 σ H2 v y u w3 _ I3 ru ry q3) fun w4 s4 ⟨z, H3, I4, rz, dx', fs', ea', l', q4⟩ => ?_
  exact setattr_ok I4 ea' c n l' rz fun s5 I5 => ⟨σ, _, I5, q4⟩
def rAdd : V → V → Hp → VK → Prop := fun x y H Q => ∃ i j, x = .int i ∧ y = .int j ∧ Q (.int (i + j)) H
def rSub : V → V → Hp → VK → Prop := fun x y H Q => ∃ i j, x = .int i ∧ y = .int j ∧ Q (.int (i - j)) H
theorem in_add : InOp X .Add rAdd := by
  rintro pins s σ H x y u v Q I rx ry ⟨i, j, rfl, rfl, q⟩
  obtain ⟨t, rfl⟩ := (show ∃ t, u = Value.int i t from rx)
  obtain ⟨t', rfl⟩ := (show ∃ t', v = Value.int j t' from ry)
  exact PyProof.Rows.iadd_int ⟨.int (i + j), H, I.tok _, ⟨_, rfl⟩, q⟩
theorem in_sub : InOp X .Sub rSub := by
  rintro pins s σ H x y u v Q I rx ry ⟨i, j, rfl, rfl, q⟩
  obtain ⟨t, rfl⟩ := (show ∃ t, u = Value.int i t from rx)
  obtain ⟨t', rfl⟩ := (show ∃ t', v = Value.int j t' from ry)
  exact PyProof.Rows.isub_int ⟨.int (i - j), H, I.tok _, ⟨_, rfl⟩, q⟩

/-- what is between an instance and its method: the tree of a method call -/
theorem methcall_of {pl : Sem Bool} {m : Str} {apos : Pos} {args : List Expr} {pins : List (Addr × Obj)} {s : Shared} {σ : St} {H : Hp} {Q : Value → Shared → Prop} {te : TE} (he : PE X e te) (I : Inv X pins σ H s)
    (h : te σ H fun x H1 => ∃ a C dx fs g, x = .ref a ∧ H1 a = some (.ins C dx fs) ∧ Cls X.K C ∧ Meth X.K C m g ∧ fs.lookup m = none ∧
      ∀ s1, Inv X pins σ H1 s1 → wpAny (model X.prog X.w) X.A (callWith pos (.ref g) [.ref a] (backTo pos (starEach args X.env)) (backToKw pos (keywordEach [] X.env))) Q X.xe s1)
    (ht : eval (.Call (.Attribute e m apos) args [] pos) X.env = (do
      let ov ← eval e X.env
      standAt apos.atName
      let (f, first) ← holding [ov] (getMethod ov m pl)
      callWith pos f first (backTo pos (starEach args X.env)) (backToKw pos (keywordEach [] X.env)))) :
    wpAny (model X.prog X.w) X.A (eval (.Call (.Attribute e m apos) args [] pos) X.env) Q X.xe s := by
  refine PySem.W.methodCall_KW (pl := pl) (thn (he pins s σ H _ I h) fun u s1 ⟨x, H1, I1, rx, a, C, dx, fs, g, ex, ea, c, k, l, q⟩ => ?_) ht
  subst ex
  obtain rfl : u = Value.ref a := rx
  exact getmeth_ok I1 ea c k l (q s1 I1)
end

/-! ### isinstance -/
section
variable {X : Cx} {pins : List (Addr × Obj)} {σ : St} {H : Hp} {s : Shared} {A : Around} {E : Value → Shared → Prop} {Q : Value → Shared → Prop} {c : Value} {b : Bool}
/-- the type of a value, as the fragment's deciders take it; for an instance its class -/
inductive TyOf (K : PySem.W.Frag) (H : Hp) : V → Value → Prop where
  | non : TyOf K H .non (.type "NoneType")
  | bl (x : Bool) : TyOf K H (.bl x) (.type "bool")
  | int (i : Int) : TyOf K H (.int i) (.type "int")
  | str (x : Str) : TyOf K H (.str x) (.type "str")
  | flt (x : UInt64) : TyOf K H (.flt x) (.type "float")
  | lst {a : Addr} {xs : List V} (e : H a = some (.lst xs)) : TyOf K H (.ref a) (.type "list")
  | frz {a : Addr} {o : Obj} {xs : List V} (e : H a = some (.frz o (.lst xs))) : TyOf K H (.ref a) (.type "list")
  | tup {a : Addr} {xs : List V} (e : H a = some (.tup xs)) : TyOf K H (.ref a) (.type "tuple")
  | dK {a : Addr} {kvs : List (Key × V)} (e : H a = some (.dK kvs)) : TyOf K H (.ref a) (.type "dict")
  | dT {a : Addr} {kvs : List (List Key × V)} (e : H a = some (.dT kvs)) : TyOf K H (.ref a) (.type "dict")
  | ins {a C dx : Addr} {fs : List (Str × V)} (e : H a = some (.ins C dx fs)) (cl : Cls K C) (ha : PySem.W.findIn K (.ref C) "__class__" = some (some (.builtin "object.__class__")))
      (hn : PySem.W.specialIn K (.builtin "object.__class__") "__get__" = some (some (.builtin "getset_descriptor.__get__"))) (htk : PySem.W.takesIn K (.builtin "object.__class__") = some true)
      (hm : PySem.W.mroIn K C (.type "object") = some true) : TyOf K H (.ref a) (.ref C)
/-- isinstance(x, c) for one class c, a built-in or an own one: kitOne's answer -/
theorem isinst_ok {x : V} {u t : Value} (I : Inv X pins σ H s) (rx : RelV x u) (ty : TyOf X.K H x t) (e : PySem.W.kitOne X.K t c = some b) (h : ∀ tk, Q (.bool b) { s with toks := tk }) :
    wpAny (model X.prog X.w) A (call (.builtin "isinstance") [u, c]) Q E s := by
  cases ty with
  | non => cases (show u = Value.none from rx); exact PySem.W.kia_one PySem.W.kitx_none I.kIn True.intro e (fun z => nomatch z) h
  | bl y => cases (show u = Value.bool y from rx); exact PySem.W.kia_one PySem.W.kitx_bool I.kIn True.intro e (fun z => nomatch z) h
  | int i => obtain ⟨t, q⟩ := (show ∃ t, u = Value.int i t from rx); cases q; exact PySem.W.kia_one PySem.W.kitx_int I.kIn True.intro e (fun z => nomatch z) h
  | str y => obtain ⟨t, q⟩ := (show ∃ t, u = Value.str y t from rx); cases q; exact PySem.W.kia_one PySem.W.kitx_str I.kIn True.intro e (fun z => nomatch z) h
  | flt y => obtain ⟨t, q⟩ := (show ∃ t, u = Value.float y t from rx); cases q; exact PySem.W.kia_one PySem.W.kitx_float I.kIn True.intro e (fun z => nomatch z) h
  | @lst a xs ea =>
    cases (show u = Value.ref a from rx)
    obtain ⟨_, _, n, _, h1⟩ := (show ObjOk X.prog X.w H s.heap a (.lst xs) from I.hok a _ ea)
    exact PySem.W.kia_one PySem.W.kitx_list I.kIn ⟨_, h1, rfl⟩ e (fun z => nomatch z) h
  | @frz a ob xs ea =>
    cases (show u = Value.ref a from rx)
    obtain ⟨_, _, _, n, _, h1⟩ := (show ObjOk X.prog X.w H s.heap a (.frz ob (.lst xs)) from I.hok a _ ea)
    exact PySem.W.kia_one PySem.W.kitx_list I.kIn ⟨_, h1, rfl⟩ e (fun z => nomatch z) h
  | @tup a xs ea =>
    cases (show u = Value.ref a from rx)
    obtain ⟨_, _, _, p⟩ := (show ObjOk X.prog X.w H s.heap a (.tup xs) from I.hok a _ ea)
    obtain ⟨o, h1, h2, _⟩ := p
    exact PySem.W.kia_one PySem.W.kitx_tuple I.kIn ⟨o, h1, h2⟩ e (fun z => nomatch z) h
  | @dK a kvs ea =>
    cases (show u = Value.ref a from rx)
    obtain ⟨_, _, vs, _, p⟩ := (show ObjOk X.prog X.w H s.heap a (.dK kvs) from I.hok a _ ea)
    obtain ⟨o, es, ep, h1, h2, _⟩ := p
    exact PySem.W.kia_one PySem.W.kitx_dict I.kIn ⟨o, h1, h2.1⟩ e (fun z => nomatch z) h
  | @dT a kvs ea =>
    cases (show u = Value.ref a from rx)
    obtain ⟨_, _, xs, _, o, es, ep, h1, h2, _⟩ := (show ObjOk X.prog X.w H s.heap a (.dT kvs) from I.hok a _ ea)
    exact PySem.W.kia_one PySem.W.kitx_dict I.kIn ⟨o, h1, h2.1⟩ e (fun z => nomatch z) h
  | @ins a C dx fs ea cl ha hn htk hm =>
    cases (show u = Value.ref a from rx)
    obtain ⟨mA, O, _⟩ := ins_get I.hok ea
    obtain ⟨od, J, _⟩ := O.look
    exact PySem.W.kia_one (PySem.W.kitx_own (cl.get _) cl.hd ha hn htk hm) I.kIn J e (fun z => nomatch z) h
end
end L2

namespace L2
open PySem PySem.Spec PyProof.Rows

/-! ### room -/
structure Room (k : Nat) (A : Around) : Prop where
  hd : A.handled = none
  dp : A.depth + 3 * k + 5 < recursionLimit
  un : A.units + 16 * k + 200 < cLine
theorem Room.mono {j k : Nat} {A : Around} (r : Room k A) (h : j ≤ k) : Room j A := ⟨r.hd, by have := r.dp; omega, by have := r.un; omega⟩
theorem Room.deeper {k : Nat} {A : Around} (r : Room (k + 1) A) (env : Env) : Room k (A.deeper env) :=
  ⟨r.hd, by have := r.dp; show A.depth + 1 + 3 * k + 5 < _; omega, by have := r.un; show A.units + 3 + 16 * k + 200 < _; omega⟩
theorem Room.in1 {k : Nat} {A : Around} (r : Room (k + 1) A) : Room k A.in1 :=
  ⟨r.hd, by have := r.dp; show A.depth + 3 * k + 5 < _; omega, by have := r.un; show A.units + 1 + 16 * k + 200 < _; omega⟩
theorem make_depth {A : Around} {C : Addr} {us : List Value} {kw : List (Str × Value)} : (A.under (.builtin "type.__call__" ⟨.ref C :: us, kw⟩)).depth = A.depth + 1 := by
  first | rfl | simp [Around.under, Code.weight, Code.isCreation, Code.isGuard, Code.isCaller, Code.frames, Code.isFrame, guardIds]
theorem make_units {A : Around} {C : Addr} {us : List Value} {kw : List (Str × Value)} : (A.under (.builtin "type.__call__" ⟨.ref C :: us, kw⟩)).units = A.units + 1 := by
  first | rfl | simp [Around.under, Code.cUnits, Code.frames, Code.isFrame]
theorem Room.make {k : Nat} {A : Around} (r : Room (k + 1) A) (C : Addr) (us : List Value) (kw : List (Str × Value)) : Room k (A.under (.builtin "type.__call__" ⟨.ref C :: us, kw⟩)) :=
  ⟨r.hd, by have := r.dp; rw [make_depth]; omega, by have := r.un; rw [make_units]; omega⟩
theorem Room.depth {k : Nat} {A : Around} (r : Room k A) : A.depth < recursionLimit := by have := r.dp; omega
theorem Room.units {k : Nat} {A : Around} (r : Room k A) : A.units + 64 < cLine := by have := r.un; omega
theorem Room.units0 {k : Nat} {A : Around} (r : Room k A) : A.units < cLine := by have := r.un; omega

/-! ### argument lists and displays -/
def tNil : TA := fun _ H Q => Q [] H
def tCons (ta : TE) (tr : TA) : TA := fun σ H Q => ta σ H fun x H1 => tr σ H1 fun xs H2 => Q (x :: xs) H2
section
variable {X : Cx} {e : Expr} {es : List Expr} {te : TE} {t : TA} {pos : Pos}
theorem pa_nil : PA X [] tNil := fun _ _ _ _ H Q I h => Calls.spliced_nil ⟨[], H, I, .nil, h⟩
theorem pa_cons (ha : PE X e te) (hr : PA X es t) (hs : starEach (e :: es) X.env = (false, eval e X.env) :: starEach es X.env := by rfl) : PA X (e :: es) (tCons te t) := by
  intro pos pins s σ H Q I h
  rw [hs]
  show wpAny _ _ (spliced ((false, eval e X.env) :: backTo pos (starEach es X.env))) _ _ s
  refine Calls.spliced_cons (thn (ha pins s σ H _ I h) fun u s1 ⟨x, H1, I1, r1, q1⟩ => ?_)
  exact thn (hr pos pins s1 σ H1 _ I1 q1) fun us s2 ⟨xs, H2, I2, r2, q2⟩ => ⟨x :: xs, H2, I2, .cons r1 r2, q2⟩

/-- a tuple, a list of written items -/
def tTup (t : TA) : TE := fun σ H Q => t σ H fun xs H1 => xs.length ≤ sizeLine ∧ ∀ p, H1 p = none → Q (.ref p) (upd H1 p (.tup xs))
def tLst (t : TA) : TE := fun σ H Q => t σ H fun xs H1 => xs.length ≤ sizeLine ∧ ∀ p, H1 p = none → Q (.ref p) (upd H1 p (.lst xs))
theorem pe_tup {x1} (h : PA X es t) : PE X (.Tuple es x1 pos) (tTup t) := by
  intro pins s σ H Q I hq
  refine wpAny_Tuple_spliced (thn (h pos pins s σ H _ I hq) fun us s1 ⟨xs, H1, I1, r, z, q⟩ => ⟨by rw [← r.length]; exact z, ?_⟩)
  have hf : H1 s1.heap.objs.size = none := I1.hok.fresh (Nat.le_refl _)
  refine ⟨.ref s1.heap.objs.size, upd H1 s1.heap.objs.size (.tup xs), I1.laid (t' := s1.toks) (fun b u e => Heap.get?_push_of_some _ e) (Nat.le_refl _) ?_, rfl, q _ hf⟩
  exact ⟨z, us, r, ⟨_, Heap.get?_push_size _ rfl, rfl, _, rfl⟩⟩
theorem pe_lst (h : PA X es t) : PE X (.List es pos) (tLst t) := by
  intro pins s σ H Q I hq
  refine wpAny_List_spliced (thn (h pos pins s σ H _ I hq) fun us s1 ⟨xs, H1, I1, r, z, q⟩ => ⟨by rw [← r.length]; exact z, ?_⟩)
  have hf : H1 s1.heap.objs.size = none := I1.hok.fresh (Nat.le_refl _)
  refine ⟨.ref s1.heap.objs.size, upd H1 s1.heap.objs.size (.lst xs), I1.laid (t' := s1.toks) (fun b u e => Heap.get?_push_of_some _ e) (Nat.le_refl _) ?_, rfl, q _ hf⟩
  exact ⟨z, us, 0, r, Heap.get?_push_size _ rfl⟩
end

/-! ### what a def promises -/
/-- a def's promise: the bound arguments in the parameters' order, the heap, the wanted end, the wanted exception -/
abbrev Sp := List V → Hp → VK → XK → Prop
/-- how an exception lies behind a call (file 08 gives it): the callers' frames, abstract heap and state ahead of the call, the wish, the exception, the state -/
abbrev CXT := List Env → Hp → Shared → XK → Value → Shared → Prop

/-- the state at a call -/
structure Env0 (P : Program) (w : World) (K : PySem.W.Frag) (mg : Str → Option Value) (base : Heap) (A : Around) (outer : List Env) (s : Shared) (H : Hp) : Prop where
  frames : A.frames = some outer
  mod : Mod K mg base
  bs : ∀ b o, base.get? b = some o → s.heap.get? b = some o ∧ H b = none
  bsz : base.objs.size ≤ s.heap.objs.size
  funs : s.heap.FunFrames base outer
  frf : ∀ b ∈ frs outer, H b = none
  hok : HOk P w H s.heap
  bare : AllBare s.gens
/-- a call's end -/
def CE (outer : List Env) (P : Program) (w : World) (H : Hp) (s : Shared) (Q : VK) (u : Value) (s' : Shared) : Prop :=
  ∃ v H', s'.os = s.os ∧ AllBare s'.gens ∧ Un (frs outer) [] H H' s.heap s'.heap ∧ HOk P w H' s'.heap ∧ RelV v u ∧ Q v H'
def CR (CX : CXT) (outer : List Env) (P : Program) (w : World) (H : Hp) (s : Shared) (Q : VK) (E : XK) (r : Result) (s' : Shared) : Prop :=
  match r with
  | .ok (.ret u) => CE outer P w H s Q u s'
  | .ok _ => False
  | .error e => CX outer H s E e s'
structure FnOk (P : Program) (w : World) (K : PySem.W.Frag) (mg : Str → Option Value) (base : Heap) (CX : CXT) (k : Nat) (f : Addr) (fd : FuncData) (ps : List Str) (sp : Sp) : Prop where
  len : ∀ vs H Q E, sp vs H Q E → vs.length = ps.length
  run : ∀ (A : Around) (outer : List Env) (s : Shared) (H : Hp) (args : Args) (us : List Value) (vs : List V) (Q : VK) (E : XK), Room k A → Env0 P w K mg base A outer s H → BindsTo s fd args (ps.zip us) → Vals vs us → sp vs H Q E →
    codeAny (model P w) A (.call (.ref f) args) (CR CX outer P w H s Q E) s
theorem FnOk.mono {P : Program} {w : World} {K : PySem.W.Frag} {mg : Str → Option Value} {base : Heap} {CX : CXT} {j k : Nat} {f : Addr} {fd : FuncData} {ps : List Str} {sp : Sp} (F : FnOk P w K mg base CX j f fd ps sp) (h : j ≤ k) :
    FnOk P w K mg base CX k f fd ps sp := ⟨F.len, fun A outer s H args us vs Q E hr => F.run A outer s H args us vs Q E (hr.mono h)⟩
/-- a weaker promise -/
theorem FnOk.imp {P : Program} {w : World} {K : PySem.W.Frag} {mg : Str → Option Value} {base : Heap} {CX : CXT} {k : Nat} {f : Addr} {fd : FuncData} {ps : List Str} {sp sp' : Sp} (F : FnOk P w K mg base CX k f fd ps sp)
    (h : ∀ vs H Q E, sp' vs H Q E → sp vs H Q E) : FnOk P w K mg base CX k f fd ps sp' :=
  ⟨fun vs H Q E q => F.len vs H Q E (h _ _ _ _ q), fun A outer s H args us vs Q E hr he hb hv hs => F.run A outer s H args us vs Q E hr he hb hv (h _ _ _ _ hs)⟩

theorem Env0.make {P : Program} {w : World} {K : PySem.W.Frag} {mg : Str → Option Value} {base : Heap} {A : Around} {outer : List Env} {s : Shared} {H : Hp} (e : Env0 P w K mg base A outer s H) (C : Addr) (us : List Value) (kw : List (Str × Value)) :
    Env0 P w K mg base (A.under (.builtin "type.__call__" ⟨.ref C :: us, kw⟩)) outer s H := ⟨by first | exact e.frames | (simpa [Around.under, Code.envs, Code.isFrame, pushEnvs] using e.frames), e.mod, e.bs, e.bsz, e.funs, e.frf, e.hok, e.bare⟩
theorem Env0.in1 {P : Program} {w : World} {K : PySem.W.Frag} {mg : Str → Option Value} {base : Heap} {A : Around} {outer : List Env} {s : Shared} {H : Hp} (e : Env0 P w K mg base A outer s H) :
    Env0 P w K mg base A.in1 outer s H := ⟨e.frames, e.mod, e.bs, e.bsz, e.funs, e.frf, e.hok, e.bare⟩

section
variable {X : Cx} {pins : List (Addr × Obj)} {σ : St} {H : Hp} {s s' : Shared}
/-- from a body: what a callee wants -/
theorem Inv.env0 (I : Inv X pins σ H s) : Env0 X.prog X.w X.K X.mg X.base X.A X.stack s H :=
  ⟨I.ok.frames, I.ok.mod, I.bs, Nat.le_trans I.ok.bsz I.sz, I.stack, I.stkFree, I.hok, I.bare⟩
/-- behind a call -/
theorem Inv.after {Q : VK} {u : Value} (I : Inv X pins σ H s) (h : CE X.stack X.prog X.w H s Q u s') : EP X pins σ Q u s' := by
  obtain ⟨v, H', os, bare, un, hok, r, q⟩ := h
  obtain ⟨hh, g, d, t, os'⟩ := s'
  obtain rfl : os' = s.os := os
  exact ⟨v, H', I.call (h' := hh) (g' := g) (d' := d) (t' := t) (ch := []) un hok bare (fun b z => absurd z (by simp)), r, q⟩
end

/-! ### calls -/
/-- f(..): the written arguments, then the defaults dvs; E: what is wanted of an exception -/
def tCall (sp : Sp) (dvs : List V) (E : XK) (t : TA) : TE := fun σ H Q => t σ H fun vs H1 => sp (vs ++ dvs) H1 Q E
/-- o.m(..) of an instance of the class at C -/
def tMeth (C : Addr) (m : Str) (sp : Sp) (dvs : List V) (E : XK) (ta : TE) (t : TA) : TE := fun σ H Q => ta σ H fun x H1 => ∃ a dx fs, x = .ref a ∧ H1 a = some (.ins C dx fs) ∧ fs.lookup m = none ∧
  t σ H1 fun vs H2 => sp (x :: (vs ++ dvs)) H2 Q E
/-- C(..): a new instance and its dict, then __init__ -/
def tMake (C : Addr) (sp : Sp) (dvs : List V) (E : XK) (t : TA) : TE := fun σ H Q => t σ H fun vs H1 => ∀ x dx, H1 x = none → H1 dx = none → dx ≠ x →
  sp (.ref x :: (vs ++ dvs)) (upd (upd H1 dx (.own x)) x (.ins C dx [])) (fun v H2 => v = .non ∧ Q (.ref x) H2) E

/-- how the parameters are bound: us the positional arguments, kw the keywords' values by name, ds the defaults that fill up -/
def Binds (K : PySem.W.Frag) (fd : FuncData) (ps : List Str) (ds : List Value) : Prop :=
  ∀ (s : Shared) (us : List Value), K.In s.heap → (us ++ ds).length = ps.length → BindsTo s fd ⟨us, []⟩ (ps.zip (us ++ ds))
/-- every parameter is given -/
theorem Binds.all {K : PySem.W.Frag} {fd : FuncData} {ps : List Str} (h : ∀ us : List Value, us.length = ps.length → bindArgs fd ⟨us, []⟩ = pure (ps.zip us)) : Binds K fd ps [] := fun s us _ hl => by
  rw [List.append_nil] at hl ⊢
  exact .of_eq (h us hl)

/-- an exception of a callee reaches what this body wants of exceptions -/
def Passes (CX : CXT) (X : Cx) (E : XK) : Prop := ∀ (pins : List (Addr × Obj)) (σ : St) (H : Hp) (s : Shared) (e : Value) (s' : Shared), Inv X pins σ H s → CX X.stack H s E e s' → X.xe e s'

section
variable {X : Cx} {CX : CXT} {k : Nat} {f C : Addr} {fd : FuncData} {ps : List Str} {sp : Sp} {dvs : List V} {ds : List Value} {E : XK} {x m : Str} {p pos apos : Pos} {e o : Expr} {es : List Expr} {ta : TE} {t : TA}

/-- the callee runs -/
theorem run_fn {pins : List (Addr × Obj)} {σ : St} {H : Hp} {s : Shared} {Q : VK} {us : List Value} {vs : List V} (F : FnOk X.prog X.w X.K X.mg X.base CX k f fd ps sp) (hr : Room k X.A) (hb : Binds X.K fd ps ds) (hd : Vals dvs ds) (hx : Passes CX X E)
    (I : Inv X pins σ H s) (r : Vals vs us) (h : sp (vs ++ dvs) H Q E) : wpAny (model X.prog X.w) X.A (call (.ref f) us) (EP X pins σ Q) X.xe s := by
  have r2 : Vals (vs ++ dvs) (us ++ ds) := r.append hd
  have hl : (us ++ ds).length = ps.length := by rw [← r2.length]; exact F.len _ _ _ _ h
  refine wpAny_call (codeAny_mono (F.run X.A X.stack s H ⟨us, []⟩ (us ++ ds) (vs ++ dvs) Q E hr I.env0 (hb s us I.kIn hl) r2 h) fun r s' hq => ?_)
  cases r with
  | error e => exact hx pins σ H s e s' I hq
  | ok fl =>
    cases fl with
    | ret u => exact I.after hq
    | next => exact False.elim hq
    | brk => exact False.elim hq
    | cont => exact False.elim hq

theorem pe_call (F : FnOk X.prog X.w X.K X.mg X.base CX k f fd ps sp) (hr : Room k X.A) (hg : Gl X x) (hm : X.mg x = some (.ref f)) (hk : PySem.W.keepIn X.K (.ref f) = true) (hb : Binds X.K fd ps ds) (hd : Vals dvs ds) (hx : Passes CX X E)
    (ha : PA X (e :: es) t) (hdb : (x == ("__debug__" : Str)) = false := by decide) (he : starEach (e :: es) X.env = (false, eval e X.env) :: starEach es X.env := by rfl) (hpl : (backTo pos (starEach es X.env)).any (·.1) = false := by rfl) :
    PE X (.Call (.Name x p) (e :: es) [] pos) (tCall sp dvs E t) := by
  intro pins s σ H Q I h
  refine wpAny_Call_Name_kw (ld_glob I hg hm ?_ hdb)
  refine PySem.W.callWith_K (h₀ := X.base) I.ok.mod.kin hk (thn (ha pos pins s σ H _ I h) fun us s1 ⟨vs, H1, I1, r, q⟩ => ⟨I1.kIn, ?_⟩) he hpl
  exact run_fn F hr hb hd hx I1 r q
theorem pe_call0 (F : FnOk X.prog X.w X.K X.mg X.base CX k f fd ps sp) (hr : Room k X.A) (hg : Gl X x) (hm : X.mg x = some (.ref f)) (hk : PySem.W.keepIn X.K (.ref f) = true) (hb : Binds X.K fd ps ds) (hd : Vals dvs ds) (hx : Passes CX X E)
    (hdb : (x == ("__debug__" : Str)) = false := by decide) : PE X (.Call (.Name x p) [] [] pos) (tCall sp dvs E tNil) := by
  intro pins s σ H Q I h
  refine wpAny_Call_Name_kw (ld_glob I hg hm ?_ hdb)
  exact PySem.W.callWith_K0 I.kIn hk (run_fn (us := []) F hr hb hd hx I .nil h)

/-- o.m(e, ..) -/
theorem pe_meth {pl : Sem Bool} (he : PE X o ta) (c : Cls X.K C) (hm : Meth X.K C m f) (F : FnOk X.prog X.w X.K X.mg X.base CX k f fd ps sp) (hr : Room k X.A) (hb : Binds X.K fd ps ds) (hd : Vals dvs ds) (hx : Passes CX X E) (ha : PA X (e :: es) t)
    (hst : starEach (e :: es) X.env = (false, eval e X.env) :: starEach es X.env := by rfl) (hpl : (backTo pos (starEach es X.env)).any (·.1) = false := by rfl)
    (ht : eval (.Call (.Attribute o m apos) (e :: es) [] pos) X.env = (do
      let ov ← eval o X.env
      standAt apos.atName
      let (f, first) ← holding [ov] (getMethod ov m pl)
      callWith pos f first (backTo pos (starEach (e :: es) X.env)) (backToKw pos (keywordEach [] X.env))) := by rfl) :
    PE X (.Call (.Attribute o m apos) (e :: es) [] pos) (tMeth C m sp dvs E ta t) := by
  intro pins s σ H Q I h
  refine PySem.W.methodCall_KW (pl := pl) (thn (he pins s σ H _ I h) fun u s1 ⟨x, H1, I1, rx, a, dx, fs, ex, ea, l, q⟩ => ?_) ht
  subst ex
  obtain rfl : u = Value.ref a := rx
  refine getmeth_ok I1 ea c hm l ?_
  refine PySem.W.callWith_K (first := [.ref a]) (h₀ := X.base) I.ok.mod.kin hm.kp (thn (ha pos pins s1 σ H1 _ I1 q) fun us s2 ⟨vs, H2, I2, r, q2⟩ => ⟨I2.kIn, ?_⟩) hst hpl
  exact run_fn (us := .ref a :: us) (vs := .ref a :: vs) F hr hb hd hx I2 (.cons rfl r) q2
/-- o.m() -/
theorem pe_meth0 {pl : Sem Bool} (he : PE X o ta) (c : Cls X.K C) (hm : Meth X.K C m f) (F : FnOk X.prog X.w X.K X.mg X.base CX k f fd ps sp) (hr : Room k X.A) (hb : Binds X.K fd ps ds) (hd : Vals dvs ds) (hx : Passes CX X E)
    (ht : eval (.Call (.Attribute o m apos) [] [] pos) X.env = (do
      let ov ← eval o X.env
      standAt apos.atName
      let (f, first) ← holding [ov] (getMethod ov m pl)
      callWith pos f first (backTo pos (starEach [] X.env)) (backToKw pos (keywordEach [] X.env))) := by rfl) :
    PE X (.Call (.Attribute o m apos) [] [] pos) (tMeth C m sp dvs E ta tNil) := by
  intro pins s σ H Q I h
  refine PySem.W.methodCall_KW (pl := pl) (thn (he pins s σ H _ I h) fun u s1 ⟨x, H1, I1, rx, a, dx, fs, ex, ea, l, q⟩ => ?_) ht
  subst ex
  obtain rfl : u = Value.ref a := rx
  refine getmeth_ok I1 ea c hm l ?_
  exact PySem.W.callWith_K0 (first := [.ref a]) I1.kIn hm.kp (run_fn (us := [.ref a]) (vs := [.ref a]) F hr hb hd hx I1 (.cons rfl .nil) q)

/-- what a class must have to be made -/
structure Mk (K : PySem.W.Frag) (C f : Addr) : Prop where
  makes : PySem.W.makesIn K C = true
  init : PySem.W.findIn K (.ref C) "__init__" = some (some (.ref f))
  fn : PySem.W.isFn K (.ref f) = true
  kp : PySem.W.keepIn K (.ref C) = true

theorem run_make {pins : List (Addr × Obj)} {σ : St} {H : Hp} {s : Shared} {Q : VK} {us : List Value} {vs : List V} (M : Mk X.K C f) (F : FnOk X.prog X.w X.K X.mg X.base CX k f fd ps sp) (hr : Room (k + 1) X.A) (hb : Binds X.K fd ps ds) (hd : Vals dvs ds)
    (hx : Passes CX X E) (I : Inv X pins σ H s) (r : Vals vs us)
    (h : ∀ x dx, H x = none → H dx = none → dx ≠ x → sp (.ref x :: (vs ++ dvs)) (upd (upd H dx (.own x)) x (.ins C dx [])) (fun v H2 => v = .non ∧ Q (.ref x) H2) E) :
    wpAny (model X.prog X.w) X.A (call (.ref C) us) (EP X pins σ Q) X.xe s := by
  have hq := h (s.heap.objs.size + 1) s.heap.objs.size (I.hok.fresh (Nat.le_succ _)) (I.hok.fresh (Nat.le_refl _)) (Nat.ne_of_lt (Nat.lt_succ_self _))
  have I2 := Inv.made (C := C) I
  have r2 : Vals (V.ref (s.heap.objs.size + 1) :: (vs ++ dvs)) (Value.ref (s.heap.objs.size + 1) :: (us ++ ds)) := .cons rfl (r.append hd)
  have hl : (Value.ref (s.heap.objs.size + 1) :: us ++ ds).length = ps.length := by
    have e := r2.length
    rw [F.len _ _ _ _ hq] at e
    exact e.symm
  refine wpAny_call (make_map (f := f) I.kIn M.makes M.init (beq_iff_eq.mp M.fn) (codeAny_mono (F.run _ X.stack _ _ ⟨Value.ref (s.heap.objs.size + 1) :: us, []⟩ (Value.ref (s.heap.objs.size + 1) :: (us ++ ds)) _ _ E (hr.make C us [])
    (I2.env0.make C us []) (hb _ (Value.ref (s.heap.objs.size + 1) :: us) I2.kIn hl) r2 hq) fun r s' hq' => ?_))
  cases r with
  | error e => exact hx pins σ _ _ e s' I2 hq'
  | ok fl =>
    cases fl with
    | ret u =>
      obtain ⟨v, H', I3, rv, ev, q3⟩ := I2.after hq'
      subst ev
      exact ⟨rv, ⟨V.ref (s.heap.objs.size + 1), H', I3, rfl, q3⟩⟩
    | next => exact False.elim hq'
    | brk => exact False.elim hq'
    | cont => exact False.elim hq'
theorem pe_make (M : Mk X.K C f) (F : FnOk X.prog X.w X.K X.mg X.base CX k f fd ps sp) (hr : Room (k + 1) X.A) (hg : Gl X x) (hm : X.mg x = some (.ref C)) (hb : Binds X.K fd ps ds) (hd : Vals dvs ds) (hx : Passes CX X E)
    (ha : PA X (e :: es) t) (hdb : (x == ("__debug__" : Str)) = false := by decide) (he : starEach (e :: es) X.env = (false, eval e X.env) :: starEach es X.env := by rfl) (hpl : (backTo pos (starEach es X.env)).any (·.1) = false := by rfl) :
    PE X (.Call (.Name x p) (e :: es) [] pos) (tMake C sp dvs E t) := by
  intro pins s σ H Q I h
  refine wpAny_Call_Name_kw (ld_glob I hg hm ?_ hdb)
  refine PySem.W.callWith_K (h₀ := X.base) I.ok.mod.kin M.kp (thn (ha pos pins s σ H _ I h) fun us s1 ⟨vs, H1, I1, r, q⟩ => ⟨I1.kIn, ?_⟩) he hpl
  exact run_make M F hr hb hd hx I1 r q
theorem pe_make0 (M : Mk X.K C f) (F : FnOk X.prog X.w X.K X.mg X.base CX k f fd ps sp) (hr : Room (k + 1) X.A) (hg : Gl X x) (hm : X.mg x = some (.ref C)) (hb : Binds X.K fd ps ds) (hd : Vals dvs ds) (hx : Passes CX X E)
    (hdb : (x == ("__debug__" : Str)) = false := by decide) : PE X (.Call (.Name x p) [] [] pos) (tMake C sp dvs E tNil) := by
  intro pins s σ H Q I h
  refine wpAny_Call_Name_kw (ld_glob I hg hm ?_ hdb)
  exact PySem.W.callWith_K0 I.kIn M.kp (run_make (us := []) M F hr hb hd hx I .nil h)
end

/-! ### keywords -/
/-- the values of the keywords, from the left -/
def PK (X : Cx) (kws : List Keyword) (t : TA) : Prop :=
  ∀ (pos : Pos) (pins : List (Addr × Obj)) (s : Shared) (σ : St) (H : Hp) (Q : List V → Hp → Prop), Inv X pins σ H s → t σ H Q → wpAny (model X.prog X.w) X.A (evalAll ((backToKw pos (keywordEach kws X.env)).map (·.2))) (AP X pins σ Q) X.xe s
section
variable {X : Cx} {CX : CXT} {k : Nat} {f C : Addr} {fd : FuncData} {ps ks : List Str} {sp : Sp} {E : XK} {x m : Str} {p pos apos kpos : Pos} {e o : Expr} {es : List Expr} {kws : List Keyword} {te ta : TE} {t tk : TA} {nm : Option Str}
theorem pk_nil : PK X [] tNil := fun _ _ _ _ H Q I h => wpAny_evalAll_nil ⟨[], H, I, .nil, h⟩
theorem pk_cons (ha : PE X e te) (hr : PK X kws t) : PK X (⟨nm, e, kpos⟩ :: kws) (tCons te t) := by
  intro pos pins s σ H Q I h
  show wpAny _ _ (evalAll ((do let v ← eval e X.env; standAt pos; pure v) :: (backToKw pos (keywordEach kws X.env)).map (·.2))) _ _ s
  refine wpAny_evalAll_cons (wpAny_bind (thn (ha pins s σ H _ I h) fun u s1 ⟨x, H1, I1, r1, q1⟩ => wpAny_bind (wpAny_standAt (wpAny_pure ?_))))
  exact thn (hr pos pins s1 σ H1 _ I1 q1) fun us s2 ⟨xs, H2, I2, r2, q2⟩ => ⟨x :: xs, H2, I2, .cons r1 r2, q2⟩

/-- how a call with keywords binds: g puts the positional values us and the keywords' values ws (names ks) in the parameters' order, defaults among them -/
structure KBinds (K : PySem.W.Frag) (fd : FuncData) (ps ks : List Str) (g : List Value → List Value → List Value) (gV : List V → List V → List V) : Prop where
  to : ∀ (s : Shared) (us ws : List Value), K.In s.heap → (g us ws).length = ps.length → BindsTo s fd ⟨us, ks.zip ws⟩ (ps.zip (g us ws))
  rel : ∀ {vs : List V} {us : List Value} {zs : List V} {ws : List Value}, Vals vs us → Vals zs ws → Vals (gV vs zs) (g us ws)
def tCallK (sp : Sp) (gV : List V → List V → List V) (E : XK) (t tk : TA) : TE := fun σ H Q => t σ H fun vs H1 => tk σ H1 fun zs H2 => sp (gV vs zs) H2 Q E
variable {g : List Value → List Value → List Value} {gV : List V → List V → List V}
theorem run_fnk {pins : List (Addr × Obj)} {σ : St} {H : Hp} {s : Shared} {Q : VK} {us ws : List Value} {vs zs : List V} (F : FnOk X.prog X.w X.K X.mg X.base CX k f fd ps sp) (hr : Room k X.A) (hb : KBinds X.K fd ps ks g gV) (hx : Passes CX X E)
    (I : Inv X pins σ H s) (r : Vals vs us) (rz : Vals zs ws) (h : sp (gV vs zs) H Q E) : wpAny (model X.prog X.w) X.A (call (.ref f) us (ks.zip ws)) (EP X pins σ Q) X.xe s := by
  have r2 := hb.rel r rz
  have hl : (g us ws).length = ps.length := by rw [← r2.length]; exact F.len _ _ _ _ h
  refine wpAny_call (codeAny_mono (F.run X.A X.stack s H ⟨us, ks.zip ws⟩ (g us ws) (gV vs zs) Q E hr I.env0 (hb.to s us ws I.kIn hl) r2 h) fun r s' hq => ?_)
  cases r with
  | error e => exact hx pins σ H s e s' I hq
  | ok fl =>
    cases fl with
    | ret u => exact I.after hq
    | next => exact False.elim hq
    | brk => exact False.elim hq
    | cont => exact False.elim hq
/-- f(e, .., k = v, ..) -/
theorem pe_callK (F : FnOk X.prog X.w X.K X.mg X.base CX k f fd ps sp) (hr : Room k X.A) (hg : Gl X x) (hm : X.mg x = some (.ref f)) (hk : PySem.W.keepIn X.K (.ref f) = true) (hb : KBinds X.K fd ps ks g gV) (hx : Passes CX X E)
    (ha : PA X (e :: es) t) (hkw : PK X kws tk) (hall : (backToKw pos (keywordEach kws X.env)).all (·.1.isSome) = true := by rfl) (hks : (backToKw pos (keywordEach kws X.env)).filterMap (·.1) = ks := by rfl)
    (hdb : (x == ("__debug__" : Str)) = false := by decide) (he : starEach (e :: es) X.env = (false, eval e X.env) :: starEach es X.env := by rfl)
    (hpl : ((backTo pos (starEach (e :: es) X.env)).any (·.1) || (backToKw pos (keywordEach kws X.env)).any (·.1.isNone)) = false := by rfl) :
    PE X (.Call (.Name x p) (e :: es) kws pos) (tCallK sp gV E t tk) := by
  intro pins s σ H Q I h
  refine wpAny_Call_Name_kw (ld_glob I hg hm ?_ hdb)
  refine PySem.W.callWith_KW (h₀ := X.base) I.ok.mod.kin hk hall (thn (ha pos pins s σ H _ I h) fun us s1 ⟨vs, H1, I1, r, q⟩ => ?_) hpl he
  refine thn (hkw pos pins s1 σ H1 _ I1 q) fun ws s2 ⟨zs, H2, I2, rz, q2⟩ => ⟨I2.kIn, ?_⟩
  rw [hks]
  exact run_fnk F hr hb hx I2 r rz q2
end

/-! ### a def's body keeps its promise -/
/-- names: the parameters first -/
structure FnScope (N P : List Str) (sc : Scope) : Prop where
  kind : sc.kind = .function
  co : sc.isCoroutine = false
  gen : sc.isGenerator = false
  nd : N.Nodup
  pre : N.take P.length = P
  par : ∀ x ∈ P, sc.names.lookup x = some .local ∨ sc.names.lookup x = some .cell
  nofree : ∀ y ∈ sc.names, y.2 ≠ .free

theorem bindL_out {kindOf : Str → Option NameKind} {x : Str} : ∀ {binds : List (Str × Value)} {m : Str → Option Value}, (∀ v, (x, v) ∉ binds) → bindL kindOf binds m x = m x
  | [], _, _ => rfl
  | (n, v) :: r, m, h => by
    unfold bindL
    rw [bindL_out fun w hw => h w (List.mem_cons_of_mem _ hw)]
    split
    · have : x ≠ n := by rintro rfl; exact h v List.mem_cons_self
      simp [this]
    · rfl
theorem bindC_out {kindOf : Str → Option NameKind} {x : Str} : ∀ {binds : List (Str × Value)} {m : Str → Option Value}, (∀ v, (x, v) ∉ binds) → bindC kindOf binds m x = m x
  | [], _, _ => rfl
  | (n, v) :: r, m, h => by
    unfold bindC
    rw [bindC_out fun w hw => h w (List.mem_cons_of_mem _ hw)]
    split
    · rfl
    · have : x ≠ n := by rintro rfl; exact h v List.mem_cons_self
      simp [this]
theorem bindL_get {kindOf : Str → Option NameKind} {x : Str} {v : Value} : ∀ {P : List Str} {vs : List Value} {i : Nat} {m : Str → Option Value}, P.Nodup → P[i]? = some x → vs[i]? = some v → kindOf x = some .local →
    bindL kindOf (P.zip vs) m x = some v
  | [], _, _, _, _, h, _, _ => by simp at h
  | _ :: _, [], _, _, _, _, h, _ => by simp at h
  | p :: P, w :: vs, 0, m, nd, h1, h2, hk => by
    simp at h1 h2; subst h1; subst h2
    show bindL kindOf ((p, w) :: P.zip vs) m p = _
    unfold bindL
    rw [bindL_out fun v hv => (List.nodup_cons.mp nd).1 (List.of_mem_zip hv).1, if_pos hk]
    simp
  | p :: P, w :: vs, i + 1, m, nd, h1, h2, hk => by
    show bindL kindOf ((p, w) :: P.zip vs) m x = _
    unfold bindL
    exact bindL_get (i := i) (List.nodup_cons.mp nd).2 (by simpa using h1) (by simpa using h2) hk
theorem bindC_get {kindOf : Str → Option NameKind} {x : Str} {v : Value} : ∀ {P : List Str} {vs : List Value} {i : Nat} {m : Str → Option Value}, P.Nodup → P[i]? = some x → vs[i]? = some v → kindOf x ≠ some .local →
    bindC kindOf (P.zip vs) m x = some v
  | [], _, _, _, _, h, _, _ => by simp at h
  | _ :: _, [], _, _, _, _, h, _ => by simp at h
  | p :: P, w :: vs, 0, m, nd, h1, h2, hk => by
    simp at h1 h2; subst h1; subst h2
    show bindC kindOf ((p, w) :: P.zip vs) m p = _
    unfold bindC
    rw [bindC_out fun v hv => (List.nodup_cons.mp nd).1 (List.of_mem_zip hv).1, if_neg hk]
    simp
  | p :: P, w :: vs, i + 1, m, nd, h1, h2, hk => by
    show bindC kindOf ((p, w) :: P.zip vs) m x = _
    unfold bindC
    exact bindC_get (i := i) (List.nodup_cons.mp nd).2 (by simpa using h1) (by simpa using h2) hk

/-- the names' values at the entry -/
def start (N : List Str) (vs : List V) : St := vs.map some ++ List.replicate (N.length - vs.length) none

/-- the context of a def's body, at its entry; an exception leaves the frame, then lies as CX says -/
def cxOf (CX : CXT) (P : Program) (w : World) (K : PySem.W.Frag) (mg : Str → Option Value) (base : Heap) (N : List Str) (qual : Str) (scope : Scope) (f : Addr) (cd : Value) (A : Around) (outer : List Env) (s : Shared) (H : Hp) (E : XK) : Cx where
  prog := P
  w := w
  K := K
  mg := mg
  base := base
  A := A.deeper (envOfC qual scope s.heap.objs.size f cd)
  N := N
  s₀ := s
  H₀ := H
  env := envOfC qual scope s.heap.objs.size f cd
  outer := outer
  stack := envOfC qual scope s.heap.objs.size f cd :: outer
  ex := []
  calm := true
  fn := fun _ => true
  pn := []
  xe := fun e s' => wpAny (model P w) (A.deeper (envOfC qual scope s.heap.objs.size f cd)) (leaving (envOfC qual scope s.heap.objs.size f cd) e) (fun _ s'' => CX outer H s E e s'') (fun e' s'' => CX outer H s E e' s'') s'

theorem cell_has {sc : Scope} {n : Nat} {x : Str} (h : sc.names.lookup x = some .cell) : ∃ c, (cellsFrom n sc.names []).lookup x = some c := by
  have q := PySem.W.cellsFrom_some sc.names n [] (.inl h)
  exact Option.isSome_iff_exists.mp q

theorem inv_start {CX : CXT} {P : Program} {w : World} {K : PySem.W.Frag} {mg : Str → Option Value} {base : Heap} {N ps : List Str} {qual : Str} {scope : Scope} {f : Addr} {cd : Value} {A : Around} {outer : List Env} {s s1 : Shared} {H : Hp} {E : XK} {us : List Value} {vs : List V}
    (S : FnScope N ps scope) (hd : A.handled = none) (e0 : Env0 P w K mg base A outer s H) (hl : vs.length = ps.length) (r : Vals vs us)
    (x : InCallC s s.heap.objs.size (bindL (envOfC qual scope s.heap.objs.size f cd).kindOf (ps.zip us) fun _ => none) (cellsFrom (s.heap.objs.size + 1) scope.names []) (bindC (envOfC qual scope s.heap.objs.size f cd).kindOf (ps.zip us) fun _ => none) s1) :
    Inv (cxOf CX P w K mg base N qual scope f cd A outer s H E) [] (start N vs) H s1 := by
  have hpl : ps.length ≤ N.length := by have := congrArg List.length S.pre; rw [List.length_take] at this; omega
  obtain ⟨h1, tk, rfl, hk⟩ := x.done
  have noA : ∀ b : Addr, b ∉ (cxOf CX P w K mg base N qual scope f cd A outer s H E).ex := fun b z => absurd (show b ∈ ([] : List Addr) from z) (by simp)
  refine ⟨⟨e0.mod, S.kind, rfl, rfl, Nat.le_refl _, fun y z c h1 h2 => ?_, fun y hy => ?_, fun y c _ h => ?_, fun _ => hd, Around.frames_deeper e0.frames, .inr ⟨rfl, rfl⟩, fun b z => absurd z (noA b), e0.bs, e0.bsz, fun b _ _ => noA b, fun b z => absurd z (noA b), e0.funs, e0.frf⟩,
    rfl, e0.bare, Un.kept hk, ⟨_, x.toInCall.ns, fun i y v h1 h2 h3 => ?_⟩, fun y c h => ⟨_, x.cell y c h⟩, e0.hok.fresh (Nat.le_refl _), fun y c h => ?_, fun p hp => absurd (show p ∈ ([] : List (Addr × Obj)) from hp) (by simp), e0.hok.kept hk, ?_⟩
  · exact name_of_addr x.apart (PySem.mem_of_lookup h1) (PySem.mem_of_lookup h2)
  · have hy : scope.names.lookup y = some .cell ∨ scope.names.lookup y = some .free := hy
    rcases hy with hy | hy
    · exact cell_has hy
    · exact absurd rfl (S.nofree _ (PySem.mem_of_lookup hy))
  · exact Nat.le_of_lt (x.above y c (PySem.mem_of_lookup h))
  · have hi : i < vs.length := by
      unfold start at h2
      by_cases hi : i < vs.length
      · exact hi
      · rw [List.getElem?_append_right (by simpa using hi)] at h2
        rw [List.getElem?_replicate] at h2
        split at h2 <;> cases h2
    have ha : vs[i]? = some v := by
      unfold start at h2
      rw [List.getElem?_append_left (by simpa using hi), List.getElem?_map] at h2
      cases e : vs[i]? with
      | none => rw [e] at h2; cases h2
      | some a => rw [e] at h2; cases h2; rfl
    obtain ⟨u, hu, rv⟩ := r.get ha
    have hp : ps[i]? = some y := by
      rw [← S.pre, List.getElem?_take_of_lt (by omega)]; exact h1
    have ndP : ps.Nodup := by rw [← S.pre]; exact S.nd.sublist (List.take_sublist _ _)
    refine ⟨u, rv, ?_⟩
    rcases S.par y (List.mem_of_getElem? hp) with k | k
    · exact .inl ⟨k, bindL_get ndP hp hu k⟩
    · obtain ⟨c, e⟩ := cell_has (n := s.heap.objs.size + 1) k
      refine .inr ⟨.inl k, c, e, ?_⟩
      have q := x.cell y c e
      rw [bindC_get ndP hp hu (by show scope.names.lookup y ≠ _; rw [k]; decide)] at q
      exact q
  · exact e0.hok.fresh (Nat.le_of_lt (x.above y c (PySem.mem_of_lookup h)))
  · unfold start
    show _ = N.length
    rw [List.length_append, List.length_map, List.length_replicate]
    omega

/-- THE RULE: a def (or a method) of the text, by its body. The body's reading t is chosen for each entry; it is run at the parameters' values -/
theorem fn_of {CX : CXT} {P : Program} {w : World} {K : PySem.W.Frag} {mg : Str → Option Value} {base : Heap} {k : Nat} {f : Addr} {name qual : Str} {params : Arguments} {body : List Stmt} {scope : Scope} {dV kV doc pm cdv ct oc : Value} {an od : Option Addr}
    {osl : Array (Option Value)} {N ps : List Str} {sp : Sp} (lk : K.lookup f = some ⟨oc, od, .func (PySem.W.fnOf name qual params body scope dV kV doc pm an cdv ct), osl⟩) (hcd : PySem.W.codeIn K cdv qual = true) (S : FnScope N ps scope)
    (len : ∀ vs H Q E, sp vs H Q E → vs.length = ps.length)
    (hbody : ∀ (A : Around) (outer : List Env) (s : Shared) (H : Hp) (vs : List V) (Q : VK) (E : XK), Room k (A.deeper (envOfC qual scope s.heap.objs.size f cdv)) → sp vs H Q E →
      ∃ t, PSs (cxOf CX P w K mg base N qual scope f cdv A outer s H E) body t ∧ t { nx := fun _ H' => Q .non H', rt := Q } (start N vs) H) :
    FnOk P w K mg base CX (k + 1) f (PySem.W.fnOf name qual params body scope dV kV doc pm an cdv ct) ps sp := by
  refine ⟨len, fun A outer s H args us vs Q E hr e0 hb r hsp => ?_⟩
  have hl := len _ _ _ _ hsp
  have KX : K.In s.heap := e0.mod.kin.keeps fun b o e => (e0.bs b o e).1
  have lim : s.heap.NoLimit := e0.mod.nolimit.keeps fun b o e => (e0.bs b o e).1
  have hkind : ∀ y ∈ ps.zip us, scope.names.lookup y.1 = some .local ∨ (scope.names.lookup y.1 = some .cell ∧ ((cellsFrom (s.heap.objs.size + 1) scope.names []).lookup y.1).isSome = true) := fun ⟨n, v⟩ hy => by
    rcases S.par n (List.of_mem_zip hy).1 with q | q
    · exact .inl q
    · exact .inr ⟨q, PySem.W.cellsFrom_some _ _ _ (.inl q)⟩
  refine codeAny_call_function hr.depth (KX _ _ lk) rfl S.co S.gen rfl (PySem.W.codeRec_of KX hcd) (hb _ _ _ _ ?_)
  refine wpAny_newFunctionEnv_cells S.kind hkind fun env he s1 x => ?_
  subst he
  refine ⟨lim.keeps x.toInCall.keep, codeAny_func ?_⟩
  obtain ⟨t, ht, hq⟩ := hbody A outer s H vs Q E (hr.deeper _) hsp
  have I : Inv (cxOf CX P w K mg base N qual scope f cdv A outer s H E) [] (start N vs) H s1 := inv_start S hr.hd e0 hl r x
  refine wpAny_mono (ht [] s1 (start N vs) H _ I hq) (fun fl s' hs => ?_) fun e s' hs => hs
  have fin : ∀ {σ' : St} {H' : Hp} {v : V} {u : Value}, Inv (cxOf CX P w K mg base N qual scope f cdv A outer s H E) [] σ' H' s' → RelV v u → Q v H' → CE outer P w H s Q u s' :=
    fun {σ' H' v u} J rv q => ⟨v, H', J.os, J.bare, J.base, J.hok, rv, q⟩
  cases fl with
  | ret u =>
    obtain ⟨v, σ', H', J, rv, q⟩ := hs
    exact fin J rv q
  | next =>
    obtain ⟨σ', H', J, q⟩ := hs
    exact fin (v := V.non) (u := Value.none) J rfl q
  | brk =>
    obtain ⟨_, _, _, q⟩ := hs
    exact False.elim q
  | cont =>
    obtain ⟨_, _, _, q⟩ := hs
    exact False.elim q
end L2

namespace L2
open PySem PySem.Spec PyProof.Rows
section
variable {X : Cx} {x : Str} {p pos : Pos} {e : Expr} {es : List Expr} {t : TA} {id T : String} {r : List V → Hp → VK → Prop}

def tCB (r : List V → Hp → VK → Prop) (t : TA) : TE := fun σ H Q => t σ H fun vs H1 => r vs H1 Q
/-- f(e, ..), f a built-in function -/
theorem pe_callB (hc : CallR X (.builtin id) r) (hg : Gl X x) (hm : X.mg x = none) (hv : bootBuiltins x = some (.builtin id)) (ha : PA X (e :: es) t) (hn : x ≠ "__name__" := by decide) (hdb : (x == ("__debug__" : Str)) = false := by decide)
    (he : starEach (e :: es) X.env = (false, eval e X.env) :: starEach es X.env := by rfl) (hpl : (backTo pos (starEach es X.env)).any (·.1) = false := by rfl) : PE X (.Call (.Name x p) (e :: es) [] pos) (tCB r t) := by
  intro pins s σ H Q I h
  refine wpAny_Call_Name_kw (ld_blt I hg hm hv ?_ hn hdb)
  exact PyProof.Rows.callWith_builtin1 (thn (ha pos pins s σ H _ I h) fun us s1 ⟨vs, H1, I1, r1, q1⟩ => hc pins s1 σ H1 vs us Q I1 r1 q1) he hpl
/-- T(e, ..), T a built-in type -/
theorem pe_callTy (hc : CallR X (.type T) r) (hg : Gl X x) (hm : X.mg x = none) (hv : bootBuiltins x = some (.type T)) (ha : PA X (e :: es) t) (hn : x ≠ "__name__" := by decide) (hdb : (x == ("__debug__" : Str)) = false := by decide)
    (he : starEach (e :: es) X.env = (false, eval e X.env) :: starEach es X.env := by rfl) (hpl : (backTo pos (starEach es X.env)).any (·.1) = false := by rfl) : PE X (.Call (.Name x p) (e :: es) [] pos) (tCB r t) := by
  intro pins s σ H Q I h
  refine wpAny_Call_Name_kw (ld_blt I hg hm hv ?_ hn hdb)
  exact PyProof.Rows.callWith_type1 (thn (ha pos pins s σ H _ I h) fun us s1 ⟨vs, H1, I1, r1, q1⟩ => hc pins s1 σ H1 vs us Q I1 r1 q1) he hpl
/-- T() -/
theorem pe_callTy0 (hc : CallR X (.type T) r) (hg : Gl X x) (hm : X.mg x = none) (hv : bootBuiltins x = some (.type T)) (hn : x ≠ "__name__" := by decide) (hdb : (x == ("__debug__" : Str)) = false := by decide) :
    PE X (.Call (.Name x p) [] [] pos) (tCB r tNil) := by
  intro pins s σ H Q I h
  refine wpAny_Call_Name_kw (ld_blt I hg hm hv ?_ hn hdb)
  exact PyProof.Rows.callWith_type0 (hc pins s σ H [] [] Q I .nil h)
end
end L2

namespace HT
open PySem PyProof.Rows

/-- t < u of tuples of ints -/
def lexLt : List Int → List Int → Bool
  | [], [] => false
  | [], _ :: _ => true
  | _ :: _, [] => false
  | x :: xs, y :: ys => if x = y then lexLt xs ys else decide (x < y)
theorem lexLt_cons (x y : Int) (xs ys : List Int) : lexLt (x :: xs) (y :: ys) = if x = y then lexLt xs ys else decide (x < y) := rfl
theorem lexLt_nil_nil : lexLt [] [] = false := rfl
theorem lexLt_nil_cons (y : Int) (ys : List Int) : lexLt [] (y :: ys) = true := rfl
theorem lexLt_cons_nil (x : Int) (xs : List Int) : lexLt (x :: xs) [] = false := rfl

theorem eqAt_int (A : Around) (s : Shared) (a : Int) (t : Tok) (c : Int) (u : Tok) : ∃ e, SeqAt.EqAt A s (.int a t) (.int c u) e ∧ (e = true ↔ a = c) :=
  ⟨(a == c), SeqAt.EqAt.int_int a t c u, by simp⟩
theorem rcLt_int (A : Around) (s : Shared) (a : Int) (t : Tok) (c : Int) (u : Tok) (prog : Program) (w : World) (E : Value → Shared → Prop) (Q : Value → Shared → Prop) (h : Q (.bool (decide (a < c))) s) :
    wpAny (model prog w) A (richCompare .Lt (.int a t) (.int c u)) Q E s :=
  (PyProof.Rows.lt_int h : wpAny (model prog w) A (compareOp .Lt (.int a t) (.int c u)) Q E s)

section
open PySem.SeqAt
open PySem.AutoSeq1 (wpAny_loadPart')
open PySem.MeetsSeq PySem.MeetsSeq2 PySem.MeetsSeq3

theorem tuple_lt_ints (l b : Addr) (items items2 : Array Value) (n n2 : Nat) (dd dd2 : Option Addr) (sl sl2 : Array (Option Value)) (ns ms : List Int) (hi : IntsAre items.toList ns) (hj : IntsAre items2.toList ms) :
    Meets (Builtin.«tuple.__lt__» ⟨[.ref l, .ref b], []⟩)
      (fun _ R s => s.heap.get? l = some { cls := .type "tuple", dict := dd, data := .seq items n, slots := sl } ∧ s.heap.get? b = some { cls := .type "tuple", dict := dd2, data := .seq items2 n2, slots := sl2 } ∧
        R (.ok (.ret (.bool (lexLt ns ms)))) s) :=
  .of_wp fun prog w A R s h => by
    obtain ⟨hp, g, d, tk, os⟩ := s; obtain ⟨hl, hb, h⟩ := h
    have f2 := AutoSeq1.sub_tuple_tuple
    have z1 : items.size = ns.length := by rw [← hi.length]; simp
    have z2 : items2.size = ms.length := by rw [← hj.length]; simp
    wp_walk using wpAny_loadPart' hl, wpAny_loadPart' hb, wpAny_forIn_list _ (fun rest b s' => b.1 = none ∧ s' = ⟨hp, g, d, tk, os⟩ ∧ ∃ (vs ws : List Value) (ns' ms' : List Int), rest = vs.zip ws ∧
      IntsAre vs ns' ∧ IntsAre ws ms' ∧ ns'.length + items2.size = ms'.length + items.size ∧ R (.ok (.ret (.bool (lexLt ns' ms')))) ⟨hp, g, d, tk, os⟩) _
    case turn =>
      rintro ⟨y, x⟩ rest b s' ⟨hb', rfl, vs, ws, ns', ms', hz, hvi, hwi, hlen, hR⟩
      cases hvi with
      | nil => rw [List.zip_nil_left] at hz; cases hz
      | cons a t hvi' =>
        cases hwi with
        | nil => rw [List.zip_nil_right] at hz; cases hz
        | cons c u hwi' =>
          rw [List.zip_cons_cons] at hz
          injection hz with hyx hrest
          injection hyx with hy hx
          subst hy hx
          rw [lexLt_cons] at hR
          simp only [List.length_cons] at hlen
          obtain ⟨e, he, hiff⟩ := eqAt_int A.in1 ⟨hp, g, d, tk, os⟩ a t c u
          refine wpAny_bind (he prog w _ _ ?_)
          cases e with
          | true =>
            rw [if_pos (hiff.mp rfl)] at hR
            wp_walk
            exact ⟨rfl, rfl, _, _, _, _, hrest, hvi', hwi', by omega, hR⟩
          | false =>
            rw [if_neg (fun q => absurd (hiff.mpr q) Bool.false_ne_true)] at hR
            have hri := rcLt_int A.in1 ⟨hp, g, d, tk, os⟩ a t c u prog w
            wp_walk using hri
            exact ⟨_, rfl, by simpa using hR⟩
    case fin =>
      rintro ⟨b1, b2⟩ s' ⟨hb', rfl, vs, ws, ns', ms', hz, hvi, hwi, hlen, hR⟩
      simp only at hb'
      subst hb'
      have hv : lexLt ns' ms' = decide (items.size < items2.size) := by
        cases hvi with
        | nil =>
          cases hwi with
          | nil =>
            simp only [List.length_nil] at hlen
            rw [lexLt_nil_nil]
            exact (decide_eq_false (by omega)).symm
          | cons c u hw =>
            simp only [List.length_nil, List.length_cons] at hlen
            rw [lexLt_nil_cons]
            exact (decide_eq_true (by omega)).symm
        | cons a t hv =>
          cases hwi with
          | nil =>
            simp only [List.length_nil, List.length_cons] at hlen
            rw [lexLt_cons_nil]
            exact (decide_eq_false (by omega)).symm
          | cons c u hw =>
            rw [List.zip_cons_cons] at hz
            cases hz
      rw [hv] at hR
      wp_walk
      exact ⟨_, rfl, by simpa [Builtin.Tuple.tupleCompareSizes] using hR⟩
    case h =>
      exact ⟨rfl, rfl, items.toList, items2.toList, ns, ms, rfl, hi, hj, by omega, h⟩
end

section
variable {prog : Program} {w : World} {A : Around} {E : Value → Shared → Prop} {s : Shared}

theorem lt_tupInts {l b : Addr} {items items2 : Array Value} {ns ms : List Int} {Q : Value → Shared → Prop} (hl : IsTup s.heap l items) (hb : IsTup s.heap b items2) (hi : IntsAre items.toList ns) (hj : IntsAre items2.toList ms)
    (hu : A.units < cLine) (h : Q (.bool (lexLt ns ms)) s) : wpAny (model prog w) A (compareOp .Lt (.ref l) (.ref b)) Q E s := by
  obtain ⟨⟨cls, dd, data, sl⟩, ho, hc, n, hd⟩ := id hl
  obtain ⟨⟨cls2, dd2, data2, sl2⟩, ho2, hc2, n2, hd2⟩ := id hb
  simp only at hc hd hc2 hd2
  subst hc hd hc2 hd2
  exact richCompare_meets_room (op := .Lt) ⟨_, ho, rfl⟩ ⟨_, ho2, rfl⟩ PySem.F.slot_tuple_lt PySem.F.entry_tuple_lt (PySem.F.args_tuple_lt_2 _ _) (tuple_lt_ints l b items items2 n n2 dd dd2 sl sl2 ns ms hi hj)
    ⟨ho, ho2, show Value.bool (lexLt ns ms) ≠ Value.notImplemented ∧ Q (.bool (lexLt ns ms)) s from ⟨(fun x => nomatch x), h⟩⟩ hu

/-- t + u, t not empty -/
theorem cat_tup {t b : Addr} {vs ws : List Value} {Q : Value → Shared → Prop} (ht : IsTup s.heap t vs.toArray) (hb : IsTup s.heap b ws.toArray) (hv : vs ≠ [])
    (h1 : ws = [] → Q (.ref t) s) (h2 : ws ≠ [] → Q (.ref s.heap.objs.size) { s with heap := s.heap.push { cls := .type "tuple", data := .seq (vs ++ ws).toArray } })
    (hsz : vs.length + ws.length ≤ sizeLine) : wpAny (model prog w) A (binaryOp .Add (.ref t) (.ref b)) Q E s := by
  obtain ⟨⟨cls, dd, data, sl⟩, ho, hc, n, hd⟩ := id ht
  obtain ⟨⟨cls2, dd2, data2, sl2⟩, ho2, hc2, n2, hd2⟩ := id hb
  simp only at hc hd hc2 hd2
  subst hc hd hc2 hd2
  have e : vs.toArray ++ ws.toArray = (vs ++ ws).toArray := by simp
  by_cases hw : ws = []
  · exact concat_meets ⟨_, ho, rfl⟩ ⟨_, ho2, rfl⟩ noFill_tuple_add seq_tuple_add PySem.F.slot_tuple_add PySem.F.entry_tuple_add (PySem.F.args_tuple_add_2 _ _)
      (tuple_addW1 t b vs.toArray ws.toArray n n2 dd dd2 sl sl2 (by simpa using hv) (by simp [hw])) ⟨ho, ho2, h1 hw⟩
  · refine concat_meets ⟨_, ho, rfl⟩ ⟨_, ho2, rfl⟩ noFill_tuple_add seq_tuple_add PySem.F.slot_tuple_add PySem.F.entry_tuple_add (PySem.F.args_tuple_add_2 _ _)
      (tuple_addW2 t b vs.toArray ws.toArray n n2 dd dd2 sl sl2 (by simpa using hv) (by simpa using hw) (by rw [List.size_toArray, List.size_toArray]; exact hsz)) ⟨ho, ho2, ?_⟩
    rw [e]
    exact h2 hw

/-! ### t[a:b], not the whole -/
/-- a slice's bound as a place among n (d where it is left out) -/
def sIx (n d : Nat) : Option Int → Nat
  | none => d
  | some v => if v < 0 then (v + (n : Int)).toNat else min v.toNat n
theorem sIx_none (n d : Nat) : sIx n d none = d := rfl
theorem sIx_nat (n d k : Nat) : sIx n d (some (k : Int)) = min k n := by
  show (if (k : Int) < 0 then ((k : Int) + (n : Int)).toNat else min (k : Int).toNat n) = min k n
  rw [if_neg (by omega), Int.toNat_natCast]
theorem sIx_le (n d : Nat) (hd : d ≤ n) (o : Option Int) : sIx n d o ≤ n := by
  cases o with
  | none => exact hd
  | some v =>
    show (if v < 0 then (v + (n : Int)).toNat else min v.toNat n) ≤ n
    by_cases hv : v < 0
    · rw [if_pos hv]; omega
    · rw [if_neg hv]; exact Nat.min_le_right _ _
theorem clip_eq (v : Int) (n d : Nat) : (if v < 0 then max (v + (n : Int)) 0 else min v (n : Int)) = ((sIx n d (some v) : Nat) : Int) := by
  show (if v < 0 then max (v + (n : Int)) 0 else min v (n : Int)) = (((if v < 0 then (v + (n : Int)).toNat else min v.toNat n) : Nat) : Int)
  by_cases hv : v < 0
  · simp only [if_pos hv]; omega
  · simp only [if_neg hv]; omega
theorem adjust_gen (lo hi : Option Int) (n : Nat) : Builtin.Slice.sliceAdjust lo hi 1 (n : Int) = (((sIx n 0 lo : Nat) : Int), ((sIx n n hi : Nat) : Int)) := by
  have h1 : ¬ ((1 : Int) < 0) := by omega
  unfold Builtin.Slice.sliceAdjust
  simp only [h1, if_false]
  refine Prod.ext ?_ ?_
  · cases lo with
    | none => rfl
    | some v => exact clip_eq v n 0
  · cases hi with
    | none => rfl
    | some v => exact clip_eq v n n
theorem places_gen (i j : Nat) : Builtin.Slice.slicePlaces (i : Int) (j : Int) 1 = j - i := by
  unfold Builtin.Slice.slicePlaces
  have h1 : (1 : Int) > 0 := by omega
  simp only [h1, if_true, Int.ediv_one]
  split <;> omega
theorem slicePart_ {v : Value} {o : Option Int} {Q : Option Int → Shared → Prop} (p : IsPart v o) (h : Q o s) : wpAny (model prog w) A (Builtin.Slice.slicePartIndex v) Q E s := by
  cases p with
  | none => exact slicePart_none h
  | int i t => exact slicePart_int h
theorem sliceApplied_gen {sl : Addr} {vl vu : Value} {lo hi : Option Int} {n : Nat} {Q : Int × Int × Nat → Shared → Prop} (hs : s.heap.IsSliceOf sl vl vu .none) (pl : IsPart vl lo) (pu : IsPart vu hi)
    (h : Q (((sIx n 0 lo : Nat) : Int), 1, sIx n n hi - sIx n 0 lo) s) : wpAny (model prog w) A (Builtin.Slice.sliceApplied (.ref sl) (pure (n : Int))) Q E s := by
  obtain ⟨os, hos, hcs, hds⟩ := id hs
  unfold Builtin.Slice.sliceApplied Builtin.Slice.sliceFields
  refine wpAny_bind (wpAny_bind (wpAny_field hos hds (x := vl) rfl (wpAny_bind (wpAny_field hos hds (x := vu) rfl (wpAny_bind (wpAny_field hos hds (x := .none) rfl (wpAny_pure ?_)))))))
  refine wpAny_bind (slicePart_none ?_)
  show wpAny _ _ (if ((1 : Int) == 0) = true then _ else _) _ _ s
  rw [if_neg (by decide)]
  refine wpAny_bind (slicePart_ pl (wpAny_bind (slicePart_ pu (wpAny_bind (wpAny_pure ?_)))))
  show wpAny _ _ (match Builtin.Slice.sliceAdjust lo hi 1 (n : Int) with | (lo, hi) => pure (lo, (1 : Int), Builtin.Slice.slicePlaces lo hi 1)) _ _ s
  rw [adjust_gen lo hi n]
  show wpAny _ _ (pure (((sIx n 0 lo : Nat) : Int), (1 : Int), Builtin.Slice.slicePlaces ((sIx n 0 lo : Nat) : Int) ((sIx n n hi : Nat) : Int) 1)) _ _ s
  rw [places_gen]
  exact wpAny_pure h
theorem pick_gen (xs : Array Value) (i k : Nat) : ((List.range k).filterMap fun (m : Nat) => xs[((i : Int) + (m : Int) * 1).toNat]?).toArray = ((xs.toList.drop i).take k).toArray := by
  have e : (fun (m : Nat) => xs[((i : Int) + (m : Int) * 1).toNat]?) = fun m => xs[i + m]? := by
    funext m
    have : ((i : Int) + (m : Int) * 1).toNat = i + m := by omega
    rw [this]
  rw [e]
  have := pick_run xs i k
  rw [List.filterMap_map] at this
  have e2 : ((fun x => xs[x]?) ∘ fun x => i + x) = fun m => xs[i + m]? := rfl
  rw [e2] at this
  rw [this]

theorem getItem_tuple_cut {t sl : Addr} {items : Array Value} {vl vu : Value} {lo hi : Option Int} {Q : Value → Shared → Prop} (ht : IsTup s.heap t items) (hs : s.heap.IsSliceOf sl vl vu .none) (pl : IsPart vl lo) (pu : IsPart vu hi)
    (hw : ¬ (sIx items.size 0 lo = 0 ∧ sIx items.size items.size hi = items.size))
    (h : Q (.ref s.heap.objs.size) { s with heap := s.heap.push { cls := .type "tuple", data := .seq ((items.toList.drop (sIx items.size 0 lo)).take (sIx items.size items.size hi - sIx items.size 0 lo)).toArray } })
    (hsz : items.size ≤ sizeLine) : wpAny (model prog w) A (getItem (.ref t) (.ref sl)) Q E s := by
  have htake : sizeOk (.seq ((items.toList.drop (sIx items.size 0 lo)).take (sIx items.size items.size hi - sIx items.size 0 lo)).toArray) := by
    show ((items.toList.drop (sIx items.size 0 lo)).take (sIx items.size items.size hi - sIx items.size 0 lo)).toArray.size ≤ sizeLine
    rw [List.size_toArray, List.length_take, List.length_drop, Array.length_toList]
    omega
  have hj : sIx items.size items.size hi ≤ items.size := sIx_le _ _ (Nat.le_refl _) hi
  obtain ⟨os, hos, hcs, hds⟩ := id hs
  have hTs : s.TypeIs (.ref sl) "slice" := ⟨os, hos, hcs⟩
  unfold getItem
  try with_reducible refine wpAny_holding ?_
  first | refine wpAny_bind (wpAny_pure ?_) | skip
  refine wpAny_bind (wpAny_sequenceKey ht.typeIs (by decide) ?_)
  refine wpAny_bind (wpAny_callSpecial?_slot (name := Str.ofString "__getitem__") ht.typeIs PyProof.Rows.slot_tuple_getitem
    (wpAny_call_entry PyProof.Rows.slot_tuple_getitem ht.typeIs entry_tuple_getitem ?_ (args_tuple_getitem _ _)))
  show wpAny _ _ (Builtin.Tuple.tupleItemsOf (.ref t) >>= _) _ _ s
  refine wpAny_bind (tupleItemsOf_ ht ?_)
  refine wpAny_bind (wpAny_typeOf hTs ?_)
  rw [if_pos (by decide)]
  refine wpAny_bind (sliceApplied_gen hs pl pu ?_)
  have hno : ¬ ((((sIx items.size 0 lo : Nat) : Int) == 0 && (1 : Int) == 1 && (sIx items.size items.size hi - sIx items.size 0 lo) == items.size) = true) := by
    intro q
    rw [Bool.and_eq_true, Bool.and_eq_true] at q
    have q1 : ((sIx items.size 0 lo : Nat) : Int) = 0 := eq_of_beq q.1.1
    have q2 : sIx items.size items.size hi - sIx items.size 0 lo = items.size := eq_of_beq q.2
    exact hw ⟨by omega, by omega⟩
  show wpAny _ _ (if (((sIx items.size 0 lo : Nat) : Int) == 0 && (1 : Int) == 1 && (sIx items.size items.size hi - sIx items.size 0 lo) == items.size) = true then _ else _) _ _ s
  rw [if_neg hno, pick_gen]
  first
    | exact wpAny_bind (m := Builtin.Tuple.tupleExact _) (wpAny_newObj_type (wpAny_pure ⟨_, rfl, wpAny_pure h⟩) htake)
    | exact wpAny_bind (m := Builtin.Tuple.tupleExact _) (wpAny_newObj_type (wpAny_bind (wpAny_pure (wpAny_pure ⟨_, rfl, wpAny_pure h⟩))) htake)
    | exact wpAny_bind (wpAny_bind (m := Builtin.Tuple.tupleExact _) (wpAny_newObj_type (wpAny_pure (wpAny_pure ⟨_, rfl, wpAny_pure h⟩)) htake))
    | exact wpAny_bind (wpAny_bind (m := Builtin.Tuple.tupleExact _) (wpAny_newObj_type (wpAny_pure ⟨_, rfl, wpAny_pure h⟩) htake))
end
end HT

namespace L2
open PySem PySem.Spec PyProof.Rows

/-! ### the parts of a slice -/
abbrev TO := St → Hp → (Option Int → Hp → Prop) → Prop
/-- a slice's part (left out, or an int) -/
def PO (X : Cx) (e : Option Expr) (t : TO) : Prop :=
  ∀ (pins : List (Addr × Obj)) (s : Shared) (σ : St) (H : Hp) (Q : Option Int → Hp → Prop), Inv X pins σ H s → t σ H Q →
    wpAny (model X.prog X.w) X.A (evalPart e X.env) (fun u s' => ∃ o H', Inv X pins σ H' s' ∧ IsPart u o ∧ Q o H') X.xe s
def tNoPart : TO := fun _ H Q => Q none H
def tPart (t : TE) : TO := fun σ H Q => t σ H fun x H1 => ∃ i, x = .int i ∧ Q (some i) H1

theorem intsAre_of {ns : List Int} : ∀ {us : List Value}, Vals (ns.map V.int) us → IntsAre us ns := by
  induction ns with
  | nil => intro us r; rw [List.map_nil] at r; cases r; exact .nil
  | cons n ns ih =>
    intro us r
    rw [List.map_cons] at r
    cases r with
    | cons r1 r2 =>
      obtain ⟨t, e⟩ := r1
      subst e
      exact .cons n t (ih r2)

section
variable {X : Cx} {e : Expr} {te : TE} {lo hi : Option Expr} {tl th : TO} {pos p2 : Pos}

theorem po_none : PO X none tNoPart := by
  intro pins s σ H Q I h
  rw [evalPart_none]
  exact wpAny_pure ⟨none, H, I, .none, h⟩
theorem po_some (h : PE X e te) : PO X (some e) (tPart te) := by
  intro pins s σ H Q I hw
  rw [evalPart_some]
  refine thn (h pins s σ H _ I hw) fun u s1 ⟨x, H1, I1, r1, q1⟩ => ?_
  obtain ⟨i, rfl, q⟩ := q1
  obtain ⟨t, rfl⟩ := r1
  exact ⟨some i, H1, I1, .int i t, q⟩

/-- what a slice of a value is, by values: the slice object stands at sl -/
def SlR (X : Cx) (r : V → Option Int → Option Int → Hp → VK → Prop) : Prop :=
  ∀ (pins : List (Addr × Obj)) (s : Shared) (σ : St) (H : Hp) (x : V) (v vl vu : Value) (lo hi : Option Int) (sl : Addr) (Q : VK), Inv X pins σ H s → RelV x v → s.heap.IsSliceOf sl vl vu .none → IsPart vl lo → IsPart vu hi → r x lo hi H Q →
    ∃ T id, typeLookup (.type T) "__getitem__" = pure (some (.builtin id)) ∧ s.TypeIs v T ∧ wpAny (model X.prog X.w) X.A (getItem v (.ref sl)) (EP X pins σ Q) X.xe s
theorem SlR.or {r r' : V → Option Int → Option Int → Hp → VK → Prop} (h : SlR X r) (h' : SlR X r') : SlR X (fun x lo hi H Q => r x lo hi H Q ∨ r' x lo hi H Q) := by
  intro pins s σ H x v vl vu lo hi sl Q I rx hs pl pu q
  rcases q with q | q
  · exact h pins s σ H x v vl vu lo hi sl Q I rx hs pl pu q
  · exact h' pins s σ H x v vl vu lo hi sl Q I rx hs pl pu q
def tSl (r : V → Option Int → Option Int → Hp → VK → Prop) (te : TE) (tl th : TO) : TE := fun σ H Q => te σ H fun x H1 => tl σ H1 fun l H2 => th σ H2 fun u H3 => r x l u H3 Q
/-- a[lo:hi], any a -/
theorem pe_slice {r : V → Option Int → Option Int → Hp → VK → Prop} (hr : SlR X r) (he : PE X e te) (hl : PO X lo tl) (hu : PO X hi th) : PE X (.Subscript e (.Slice lo hi none p2) pos) (tSl r te tl th) := by
  intro pins s σ H Q I h
  refine Subscript_ (thn (he pins s σ H _ I h) fun v s1 ⟨x, H1, I1, r1, q1⟩ => ?_)
  refine wpAny_Slice (thn (hl pins s1 σ H1 _ I1 q1) fun vl s2 ⟨l, H2, I2, pl, q2⟩ => thn (hu pins s2 σ H2 _ I2 q2) fun vu s3 ⟨u, H3, I3, pu, q3⟩ => ?_)
  rw [evalPart_none]
  refine wpAny_pure ?_
  have I4 : Inv X pins σ H3 { s3 with heap := s3.heap.push { cls := .type "slice", data := .fields #[vl, vu, .none] } } := I3.kept (t' := s3.toks) fun b ob q => Heap.get?_push_of_some _ q
  obtain ⟨T, id, hT, ht, hg⟩ := hr pins { s3 with heap := s3.heap.push { cls := .type "slice", data := .fields #[vl, vu, .none] } } σ H3 x v vl vu l u s3.heap.objs.size Q I4 r1 (Heap.IsSliceOf.new ..) pl pu q3
  show wpAny (model X.prog X.w) X.A (subscriptTail e (.Slice lo hi none p2) v (.ref s3.heap.objs.size)) (EP X pins σ Q) X.xe { s3 with heap := s3.heap.push { cls := .type "slice", data := .fields #[vl, vu, .none] } }
  exact tail_any (ops := [.ref s3.heap.objs.size, v]) ht hT hg (by with_unfolding_all rfl)

/-- the items of xs[lo:hi] -/
def cutV (xs : List V) (lo hi : Option Int) : List V := (xs.drop (HT.sIx xs.length 0 lo)).take (HT.sIx xs.length xs.length hi - HT.sIx xs.length 0 lo)
theorem cutV_length (xs : List V) (lo hi : Option Int) : (cutV xs lo hi).length ≤ xs.length := by
  unfold cutV
  rw [List.length_take, List.length_drop]
  omega
/-- t[lo:hi], not the whole of it (the whole would be t itself) -/
def rSlT (K : PySem.W.Frag) : V → Option Int → Option Int → Hp → VK → Prop := fun x lo hi H Q => ∃ a xs, x = .ref a ∧ SqT K H a xs ∧
  ¬ (HT.sIx xs.length 0 lo = 0 ∧ HT.sIx xs.length xs.length hi = xs.length) ∧ ∀ p, H p = none → Q (.ref p) (upd H p (.tup (cutV xs lo hi)))
theorem sl_tup : SlR X (rSlT X.K) := by
  intro pins s σ H x v vl vu lo hi sl Q I rx hs pl pu h
  obtain ⟨a, xs, rfl, hx, hw, q⟩ := h
  cases rx
  obtain ⟨its, r, ht, hz⟩ := I.tuple hx
  have hlen : its.toArray.size = xs.length := by rw [List.size_toArray]; exact r.length.symm
  refine ⟨"tuple", _, PyProof.Rows.slot_tuple_getitem.lookup, ht.typeIs, ?_⟩
  refine HT.getItem_tuple_cut ht hs pl pu (by rw [hlen]; exact hw) ?_ (by rw [hlen]; exact hz)
  rw [hlen]
  refine ⟨.ref s.heap.objs.size, _, I.laid (t' := s.toks) (o := .tup (cutV xs lo hi)) (fun b ob q => Heap.get?_push_of_some _ q) (Nat.le_refl _) ?_, rfl, q _ (I.hok.fresh (Nat.le_refl _))⟩
  exact ⟨Nat.le_trans (cutV_length xs lo hi) hz, _, (r.drop (HT.sIx xs.length 0 lo)).take (HT.sIx xs.length xs.length hi - HT.sIx xs.length 0 lo), IsTup.new _ _⟩

/-! ### t < u, t + u -/
def rLtT (K : PySem.W.Frag) : R2 := fun x y H Q => ∃ a b ns ms, x = .ref a ∧ y = .ref b ∧ SqT K H a (ns.map V.int) ∧ SqT K H b (ms.map V.int) ∧ Q (.bl (HT.lexLt ns ms)) H
theorem op_ltT (hu : X.A.units < cLine) : OpR X (compareOp .Lt) (rLtT X.K) := by
  intro pins s σ H x y v u Q I rx ry h
  obtain ⟨a, b, ns, ms, rfl, rfl, ha, hb, q⟩ := h
  cases rx
  cases ry
  obtain ⟨its, r1, p1, _⟩ := I.tuple ha
  obtain ⟨its2, r2, p2, _⟩ := I.tuple hb
  have i1 : IntsAre its.toArray.toList ns := intsAre_of r1
  have i2 : IntsAre its2.toArray.toList ms := intsAre_of r2
  exact HT.lt_tupInts p1 p2 i1 i2 hu ⟨.bl (HT.lexLt ns ms), H, I, rfl, q⟩
/-- t + u, t not empty: u empty gives t itself -/
def rCatT (K : PySem.W.Frag) : R2 := fun x y H Q => ∃ a b xs ys, x = .ref a ∧ y = .ref b ∧ SqT K H a xs ∧ SqT K H b ys ∧ xs ≠ [] ∧ xs.length + ys.length ≤ sizeLine ∧
  (ys = [] → Q (.ref a) H) ∧ (ys ≠ [] → ∀ p, H p = none → Q (.ref p) (upd H p (.tup (xs ++ ys))))
theorem Vals.nil_iff {xs : List V} {us : List Value} (r : Vals xs us) : us = [] ↔ xs = [] := by
  cases r with
  | nil => simp
  | cons _ _ => simp
theorem op_catT : OpR X (binaryOp .Add) (rCatT X.K) := by
  intro pins s σ H x y v u Q I rx ry h
  obtain ⟨a, b, xs, ys, rfl, rfl, ha, hb, hx, hz, q1, q2⟩ := h
  cases rx
  cases ry
  obtain ⟨its, r1, p1, _⟩ := I.tuple ha
  obtain ⟨its2, r2, p2, _⟩ := I.tuple hb
  refine HT.cat_tup p1 p2 (fun z => hx (r1.nil_iff.mp z)) (fun z => ⟨.ref a, H, I, rfl, q1 (r2.nil_iff.mp z)⟩) (fun z => ?_) (by rw [← r1.length, ← r2.length]; exact hz)
  refine ⟨.ref s.heap.objs.size, _, I.laid (t' := s.toks) (o := .tup (xs ++ ys)) (fun b ob q => Heap.get?_push_of_some _ q) (Nat.le_refl _) ?_, rfl, q2 (fun w => z (r2.nil_iff.mpr w)) _ (I.hok.fresh (Nat.le_refl _))⟩
  exact ⟨by rw [List.length_append]; exact hz, _, r1.append r2, IsTup.new _ _⟩
/-- tuple(t) -/
theorem call_tupleT : CallR X (.type "tuple") (fun xs H Q => ∃ a ys, xs = [.ref a] ∧ SqT X.K H a ys ∧ Q (.ref a) H) := by
  intro pins s σ H xs us Q I r h
  obtain ⟨a, ys, rfl, ha, q⟩ := h
  obtain ⟨u, rfl, ru⟩ := vals1 r
  cases ru
  obtain ⟨its, _, p1, _⟩ := I.tuple ha
  exact call_tuple_same (items := its.toArray) p1 ⟨.ref a, H, I, rfl, q⟩
end
end L2

namespace L2
open PySem PySem.Spec PyProof.Rows

/-! ### places -/
/-- the place that an index of any sign means -/
def ixN (n : Nat) (i : Int) : Option Nat := if 0 ≤ i then (if i < n then some i.toNat else none) else if -(n : Int) ≤ i then some (i + n).toNat else none
def atI {α : Type} (xs : List α) (i : Int) : Option α := (ixN xs.length i).bind fun j => xs[j]?
theorem ixN_seq {n : Nat} {i : Int} {j : Nat} (h : ixN n i = some j) : seqIndex? i n = some j ∧ j < n ∧ -(n : Int) ≤ i ∧ i < n := by
  unfold ixN at h
  by_cases h0 : 0 ≤ i
  · rw [if_pos h0] at h
    by_cases h1 : i < n
    · rw [if_pos h1] at h
      have e : i.toNat = j := Option.some.inj h
      exact ⟨by rw [seqIndex_of h0 h1, e], by omega, by omega, h1⟩
    · rw [if_neg h1] at h; cases h
  · rw [if_neg h0] at h
    by_cases h1 : -(n : Int) ≤ i
    · rw [if_pos h1] at h
      have e : (i + n).toNat = j := Option.some.inj h
      exact ⟨by rw [seqIndex_neg (by omega) h1, e], by omega, h1, by omega⟩
    · rw [if_neg h1] at h; cases h
theorem atI_get {α : Type} {xs : List α} {i : Int} {v : α} (h : atI xs i = some v) : ∃ j, seqIndex? i xs.length = some j ∧ xs[j]? = some v ∧ j < xs.length ∧ -(xs.length : Int) ≤ i ∧ i < xs.length := by
  unfold atI at h
  cases e : ixN xs.length i with
  | none => rw [e] at h; cases h
  | some j =>
    rw [e] at h
    obtain ⟨h1, h2, h3, h4⟩ := ixN_seq e
    exact ⟨j, h1, h, h2, h3, h4⟩
theorem atI_nat {α : Type} {xs : List α} {j : Nat} {v : α} (h : xs[j]? = some v) : atI xs (j : Int) = some v := by
  have hj : j < xs.length := (List.getElem?_eq_some_iff.mp h).1
  have e : ixN xs.length (j : Int) = some j := by
    unfold ixN
    rw [if_pos (by omega), if_pos (by omega)]; simp
  unfold atI; rw [e]; exact h
theorem atI_last {α : Type} (xs : List α) (v : α) : atI (xs ++ [v]) (-1) = some v := by
  have hl : (xs ++ [v]).length = xs.length + 1 := by simp
  have e : ixN (xs ++ [v]).length (-1) = some xs.length := by
    unfold ixN
    rw [hl, if_neg (by decide), if_pos (by omega)]
    congr 1
    omega
  unfold atI
  rw [e]
  show (xs ++ [v])[xs.length]? = some v
  simp

/-! ### what may be subscripted -/
/-- what stands as an index of a plain subscript -/
def PlainIx (b : Expr) : Prop := ∀ o i, subscripted b false o i = operate [o, i] (getItem o i)
/-- a subscript by values -/
def IxR (X : Cx) (r : R2) : Prop :=
  ∀ (value slice : Expr) (pins : List (Addr × Obj)) (s : Shared) (σ : St) (H : Hp) (x y : V) (v u : Value) (Q : VK), Inv X pins σ H s → RelV x v → RelV y u → r x y H Q →
    subscripted slice false v u = operate [v, u] (getItem v u) → wpAny (model X.prog X.w) X.A (subscriptTail value slice v u) (EP X pins σ Q) X.xe s
/-- a call of a builtin's method by values: the receiver, the arguments -/
def MtR (X : Cx) (id : String) (r : V → List V → Hp → VK → Prop) : Prop :=
  ∀ (pins : List (Addr × Obj)) (s : Shared) (σ : St) (H : Hp) (x : V) (xs : List V) (v : Value) (us : List Value) (Q : VK), Inv X pins σ H s → RelV x v → Vals xs us → r x xs H Q →
    wpAny (model X.prog X.w) X.A (call (.builtin id) (v :: us)) (EP X pins σ Q) X.xe s
section
variable {X : Cx} {a b : Expr} {ta tb : TE} {pos : Pos}
theorem IxR.or {r r' : R2} (h : IxR X r) (h' : IxR X r') : IxR X (fun x y H Q => r x y H Q ∨ r' x y H Q) := by
  intro value slice pins s σ H x y v u Q I rx ry q hs
  rcases q with q | q
  · exact h value slice pins s σ H x y v u Q I rx ry q hs
  · exact h' value slice pins s σ H x y v u Q I rx ry q hs
theorem MtR.or {id : String} {r r' : V → List V → Hp → VK → Prop} (h : MtR X id r) (h' : MtR X id r') : MtR X id (fun x xs H Q => r x xs H Q ∨ r' x xs H Q) := by
  intro pins s σ H x xs v us Q I rx rs q
  rcases q with q | q
  · exact h pins s σ H x xs v us Q I rx rs q
  · exact h' pins s σ H x xs v us Q I rx rs q
/-- a[b] -/
theorem pe_ix {r : R2} (hr : IxR X r) (ha : PE X a ta) (hb : PE X b tb) (hs : PlainIx b) : PE X (.Subscript a b pos) (tOp r ta tb) := by
  intro pins s σ H Q I h
  exact Subscript_ (binT ha hb I h fun v u s2 x y H2 I2 rx ry q => hr a b pins s2 σ H2 x y v u Q I2 rx ry q (hs _ _))

def rIxL (K : PySem.W.Frag) : R2 := fun x y H Q => ∃ p xs i v, x = .ref p ∧ y = .int i ∧ SqL K H p xs ∧ atI xs i = some v ∧ Q v H
def rIxT (K : PySem.W.Frag) : R2 := fun x y H Q => ∃ p xs i v, x = .ref p ∧ y = .int i ∧ SqT K H p xs ∧ atI xs i = some v ∧ Q v H
def rIxS : R2 := fun x y H Q => ∃ z i c, x = .str z ∧ y = .int i ∧ z.length ≤ sizeLine ∧ atI z.cps.toList i = some c ∧ Q (.str ⟨#[c]⟩) H
theorem ix_list : IxR X (rIxL X.K) := by
  intro value slice pins s σ H x y v u Q I rx ry h hs
  obtain ⟨p, xs, i, z, rfl, rfl, hq, he, q⟩ := h
  cases rx
  obtain ⟨t, rfl⟩ := ry
  obtain ⟨its, r, pl, hz⟩ := I.list hq
  obtain ⟨j, h1, h2, h3, h4, h5⟩ := atI_get he
  obtain ⟨w, ew, rw'⟩ := r.get h2
  have hl := r.length
  have hn := line63
  have fin : EP X pins σ Q w s := ⟨z, H, I, rw', q⟩
  by_cases h0 : 0 ≤ i
  · have hj : i.toNat = j := by
      rw [seqIndex_of h0 h5] at h1
      exact Option.some.inj h1
    exact item_listR pl.isList h0 (by omega) (by rw [hj]; simpa using ew) fin hs
  · have hj : (i + (its.toArray.size : Int)).toNat = j := by
      rw [seqIndex_neg (by omega) h4] at h1
      rw [List.size_toArray, ← hl]
      exact Option.some.inj h1
    exact subscriptTail_builtinR (x := w) pl.isList.typeIs slot_list_getitem.lookup
      (wpAny_getItem_list_neg (Q := fun r s' => r = w ∧ EP X pins σ Q r s') pl.isList (by omega) (by rw [List.size_toArray] <;> omega) (by omega) (by rw [hj]; simpa using ew) ⟨rfl, fin⟩) hs
theorem ix_tup : IxR X (rIxT X.K) := by
  intro value slice pins s σ H x y v u Q I rx ry h hs
  obtain ⟨p, xs, i, z, rfl, rfl, hq, he, q⟩ := h
  cases rx
  obtain ⟨t, rfl⟩ := ry
  obtain ⟨its, r, pl, hz⟩ := I.tuple hq
  obtain ⟨j, h1, h2, h3, h4, h5⟩ := atI_get he
  obtain ⟨w, ew, rw'⟩ := r.get h2
  have hl := r.length
  have hn := line63
  have fin : EP X pins σ Q w s := ⟨z, H, I, rw', q⟩
  exact subscriptTail_builtinR (x := w) pl.typeIs slot_tuple_getitem.lookup
    (getItem_tuple (j := j) (Q := fun r s' => r = w ∧ EP X pins σ Q r s') pl (by omega) (by omega) (by rw [List.size_toArray, ← hl]; exact h1) (by simpa using ew) ⟨rfl, fin⟩) hs
theorem ix_str : IxR X rIxS := by
  intro value slice pins s σ H x y v u Q I rx ry h hs
  obtain ⟨z, i, c, rfl, rfl, hz, he, q⟩ := h
  obtain ⟨t, rfl⟩ := rx
  obtain ⟨t', rfl⟩ := ry
  obtain ⟨j, h1, h2, h3, h4, h5⟩ := atI_get he
  have hl : z.cps.toList.length = z.length := by simp [Str.length]
  rw [hl] at h1 h4 h5
  have hn := line63
  exact tail_any (typeIs_str s z t) slot_str_getitem.lookup (getItem_str (c := c) (by
    have e1 : decide (i < -(2 ^ 63 : Int)) = false := decide_eq_false (by omega)
    have e2 : decide (i ≥ 2 ^ 63) = false := decide_eq_false (by omega)
    rw [e1, e2, Bool.or_false]) (by rw [h1]; simpa using h2) ⟨.str ⟨#[c]⟩, H, I.tok _, ⟨_, rfl⟩, q⟩) hs
/-- list, tuple or str -/
def rIx (K : PySem.W.Frag) : R2 := fun x y H Q => rIxL K x y H Q ∨ rIxT K x y H Q ∨ rIxS x y H Q
theorem ix_seq : IxR X (rIx X.K) := ix_list.or (ix_tup.or ix_str)

/-! ### xs[i] = v, any sign -/
/-- the list's object behind a store -/
theorem mapSeq_set (its : List Value) (n j : Nat) (u : Value) : Obj.mapSeq (·.setIfInBounds j u) { cls := .type "list", data := .seq its.toArray n } = { cls := .type "list", data := .seq (its.set j u).toArray n } := by
  simp [Obj.mapSeq]
theorem Inv.lst {pins : List (Addr × Obj)} {σ : St} {H : Hp} {s : Shared} {p : Addr} {xs : List V} (I : Inv X pins σ H s) (h : H p = some (.lst xs)) :
    ∃ (its : List Value) (n : Nat), Vals xs its ∧ s.heap.get? p = some { cls := .type "list", data := .seq its.toArray n } ∧ xs.length ≤ sizeLine := by
  obtain ⟨z, its, n, r, e⟩ := I.hok p _ h
  exact ⟨its, n, r, e, z⟩
/-- the list at p is written by an update of its object -/
theorem Inv.lstUpd {pins : List (Addr × Obj)} {σ : St} {H : Hp} {s : Shared} {p : Addr} {xs ys : List V} {its its' : List Value} {n n' : Nat} {f : Obj → Obj} (I : Inv X pins σ H s) (h : H p = some (.lst xs))
    (ho : s.heap.get? p = some { cls := .type "list", data := .seq its.toArray n }) (hf : f { cls := .type "list", data := .seq its.toArray n } = { cls := .type "list", data := .seq its'.toArray n' }) (r : Vals ys its') (hz : ys.length ≤ sizeLine) (t : Nat) :
    Inv X pins σ (upd H p (.lst ys)) { s with heap := s.heap.update p f, toks := t } := by
  have e : (s.heap.update p f).get? p = some { cls := .type "list", data := .seq its'.toArray n' } := by
    rw [Heap.get?_update_self f ho (by rw [hf] <;> rfl), hf]
  refine I.write (x := p) (e := p) (by rw [h]; trivial) (.inl rfl) (fun b u hb q => (Heap.get?_update_other _ _ (Ne.symm hb)).trans q) ⟨_, e⟩ ?_
  exact ⟨hz, its', n', r, e⟩
def rSetL : V → V → V → Hp → (Hp → Prop) → Prop := fun o i v H Q => ∃ p xs k j, o = .ref p ∧ i = .int k ∧ H p = some (.lst xs) ∧ ixN xs.length k = some j ∧ Q (upd H p (.lst (xs.set j v)))
theorem set_list : PSet X rSetL := by
  intro pins s σ H o i v ov iv u Q I ro ri rv h
  obtain ⟨p, xs, k, j, rfl, rfl, hp, hj, q⟩ := h
  cases ro
  obtain ⟨t, rfl⟩ := ri
  obtain ⟨its, n, r, ho, hz⟩ := I.lst hp
  obtain ⟨h1, h2, h3, h4⟩ := ixN_seq hj
  have hl := r.length
  have hn := line63
  have I' : Inv X pins σ (upd H p (.lst (xs.set j v))) { s with heap := s.heap.update p (Obj.mapSeq (·.setIfInBounds j u)) } :=
    I.lstUpd hp ho (mapSeq_set its n j u) (r.set rv j) (by rw [List.length_set]; exact hz) s.toks
  by_cases h0 : 0 ≤ k
  · have hk : k.toNat = j := by
      rw [seqIndex_of h0 h4] at h1
      exact Option.some.inj h1
    exact PySem.W.ki_setAt ho h0 (by omega) (by rw [List.size_toArray, ← hl]; exact h4) (by rw [hk]; exact ⟨_, I', q⟩)
  · have hk : (k + (its.toArray.size : Int)).toNat = j := by
      rw [seqIndex_neg (by omega) h3] at h1
      rw [List.size_toArray, ← hl]
      exact Option.some.inj h1
    exact PySem.W.ki_setBack ho (by omega) (by rw [List.size_toArray, ← hl]; exact h3) (by omega) (by rw [hk]; exact ⟨_, I', q⟩)

/-! ### slices -/
theorem slice_bounds (lo hi : Option Int) (n : Nat) : (sliceBounds lo hi none n).1 = ((HT.sIx n 0 lo : Nat) : Int) ∧ (sliceBounds lo hi none n).2.1 = ((HT.sIx n n hi : Nat) : Int) ∧ (sliceBounds lo hi none n).2.2 = 1 := by
  refine ⟨?_, ?_, rfl⟩
  · cases lo with
    | none => simp [sliceBounds, HT.sIx]
    | some i =>
      simp only [sliceBounds, HT.sIx, Option.getD_none, show (1 : Int) > 0 by decide, if_true]
      by_cases h : i < 0
      · simp only [h, if_true] <;> omega
      · simp only [h, if_false] <;> omega
  · cases hi with
    | none => simp [sliceBounds, HT.sIx]
    | some i =>
      simp only [sliceBounds, HT.sIx, Option.getD_none, show (1 : Int) > 0 by decide, if_true]
      by_cases h : i < 0
      · simp only [h, if_true] <;> omega
      · simp only [h, if_false] <;> omega
theorem slicePick_cut (its : List Value) (lo hi : Option Int) : slicePick its.toArray lo hi none = ((its.drop (HT.sIx its.length 0 lo)).take (HT.sIx its.length its.length hi - HT.sIx its.length 0 lo)).toArray := by
  obtain ⟨h1, h2, h3⟩ := slice_bounds lo hi its.toArray.size
  unfold slicePick
  rw [h1, h2, h3]
  simp only [sliceRange_one, pick_run, List.size_toArray] <;> rfl
/-- xs[lo:hi] of a list: a new list -/
def rSlL (K : PySem.W.Frag) : V → Option Int → Option Int → Hp → VK → Prop := fun x lo hi H Q => ∃ a xs, x = .ref a ∧ SqL K H a xs ∧ ∀ p, H p = none → Q (.ref p) (upd H p (.lst (cutV xs lo hi)))
theorem sl_list : SlR X (rSlL X.K) := by
  intro pins s σ H x v vl vu lo hi sl Q I rx hs pl pu h
  obtain ⟨a, xs, rfl, hx, q⟩ := h
  cases rx
  obtain ⟨its, r, ht, hz⟩ := I.list hx
  have hlen := r.length
  refine ⟨"list", _, slot_list_getitem.lookup, ht.isList.typeIs, ?_⟩
  refine wpAny_getItem_list_slice ht.isList hs pl pu .none (by simp) ?_ (by rw [List.size_toArray] <;> omega)
  rw [slicePick_cut, ← hlen]
  refine ⟨.ref s.heap.objs.size, _, I.laid (t' := s.toks) (o := .lst (cutV xs lo hi)) (fun b ob q => Heap.get?_push_of_some _ q) (Nat.le_refl _) ?_, rfl, q _ (I.hok.fresh (Nat.le_refl _))⟩
  exact ⟨Nat.le_trans (cutV_length xs lo hi) hz, _, 0, (r.drop (HT.sIx xs.length 0 lo)).take (HT.sIx xs.length xs.length hi - HT.sIx xs.length 0 lo), Heap.get?_push_size _ rfl⟩

/-! ### in, not in: flat items -/
def flatV : V → Bool
  | .non => true
  | .bl _ => true
  | .int _ => true
  | .str _ => true
  | _ => false
/-- == of flat values -/
def eqV : V → V → Bool
  | .non, .non => true
  | .bl a, .bl b => a == b
  | .bl a, .int b => (if a then 1 else 0) == b
  | .int a, .bl b => a == (if b then 1 else 0)
  | .int a, .int b => a == b
  | .str a, .str b => a == b
  | _, _ => false
theorem eqAt_V {A : Around} {s : Shared} {y x : V} {u v : Value} (ry : RelV y u) (rx : RelV x v) (fy : flatV y = true) (fx : flatV x = true) : SeqAt.EqAt A s u v (eqV y x) := by
  cases y with
  | non =>
    cases ry
    cases x with
    | non => cases rx; exact SeqAt.EqAt.same _
    | bl b => cases rx; exact SeqAt.EqAt.none_bool b
    | int b => obtain ⟨t, rfl⟩ := rx; exact SeqAt.EqAt.none_int b t
    | str b => obtain ⟨t, rfl⟩ := rx; exact SeqAt.EqAt.none_str b t
    | _ => exact absurd (show false = true from fx) Bool.false_ne_true
  | bl a =>
    cases ry
    cases x with
    | non => cases rx; exact SeqAt.EqAt.bool_none a
    | bl b => cases rx; exact SeqAt.EqAt.bool_bool a b
    | int b => obtain ⟨t, rfl⟩ := rx; exact SeqAt.EqAt.bool_int a b t
    | str b => obtain ⟨t, rfl⟩ := rx; exact SeqAt.EqAt.bool_str a b t
    | _ => exact absurd (show false = true from fx) Bool.false_ne_true
  | int a =>
    obtain ⟨t', rfl⟩ := ry
    cases x with
    | non => cases rx; exact SeqAt.EqAt.int_none a t'
    | bl b => cases rx; exact SeqAt.EqAt.int_bool a t' b
    | int b => obtain ⟨t, rfl⟩ := rx; exact SeqAt.EqAt.int_int a t' b t
    | str b => obtain ⟨t, rfl⟩ := rx; exact SeqAt.EqAt.int_str a t' b t
    | _ => exact absurd (show false = true from fx) Bool.false_ne_true
  | str a =>
    obtain ⟨t', rfl⟩ := ry
    cases x with
    | non => cases rx; exact SeqAt.EqAt.str_none a t'
    | bl b => cases rx; exact SeqAt.EqAt.str_bool a t' b
    | int b => obtain ⟨t, rfl⟩ := rx; exact SeqAt.EqAt.str_int a t' b t
    | str b => obtain ⟨t, rfl⟩ := rx; exact SeqAt.EqAt.str_str a t' b t
    | _ => exact absurd (show false = true from fx) Bool.false_ne_true
  | _ => exact absurd (show false = true from fy) Bool.false_ne_true
/-- the items' answers, read off the values (a value's own answer does not lean on its token) -/
def eqU (x : V) (u : Value) : Bool := match u with
  | .none => eqV .non x
  | .bool b => eqV (.bl b) x
  | .int i _ => eqV (.int i) x
  | .str z _ => eqV (.str z) x
  | _ => false
theorem eqU_of {x y : V} {u : Value} (r : RelV y u) (f : flatV y = true) : eqU x u = eqV y x := by
  cases y with
  | non => cases r; rfl
  | bl b => cases r; rfl
  | int i => obtain ⟨t, rfl⟩ := r; rfl
  | str z => obtain ⟨t, rfl⟩ := r; rfl
  | _ => exact absurd (show false = true from f) Bool.false_ne_true
theorem any_eqU {x : V} : ∀ {xs : List V} {us : List Value}, Vals xs us → xs.all flatV = true → us.any (eqU x) = xs.any fun y => eqV y x
  | _, _, .nil, _ => rfl
  | y :: xs, u :: us, .cons r t, f => by
    rw [List.all_cons, Bool.and_eq_true] at f
    rw [List.any_cons, List.any_cons, eqU_of r f.1, any_eqU t f.2]
theorem mem_eqAt {A : Around} {s : Shared} {x : V} {v : Value} (rx : RelV x v) (fx : flatV x = true) : ∀ {xs : List V} {us : List Value}, Vals xs us → xs.all flatV = true → ∀ u ∈ us, SeqAt.EqAt A s u v (eqU x u)
  | _, _, .nil, _ => fun u hu => by cases hu
  | y :: xs, u :: us, .cons r t, f => fun u' hu => by
    rw [List.all_cons, Bool.and_eq_true] at f
    rcases List.mem_cons.mp hu with rfl | hu
    · rw [eqU_of r f.1]; exact eqAt_V r rx f.1 fx
    · exact mem_eqAt rx fx t f.2 u' hu
def inV (x : V) (xs : List V) : Bool := xs.any fun y => eqV y x
/-- x in a list or tuple of flat items -/
def rIn (K : PySem.W.Frag) (neg : Bool) : R2 := fun x y H Q => ∃ p xs, y = .ref p ∧ (SqL K H p xs ∨ SqT K H p xs) ∧ flatV x = true ∧ xs.all flatV = true ∧ Q (.bl (if neg then !inV x xs else inV x xs)) H
theorem op_in_seq : OpR X (compareOp .In) (rIn X.K false) := by
  intro pins s σ H x y v u Q I rx ry h
  obtain ⟨p, xs, rfl, hq, fx, fs, q⟩ := h
  cases ry
  rcases hq with hq | hq
  · obtain ⟨its, r, pl, hz⟩ := I.list hq
    refine SeqAt.in_listAt (eqU x) pl.isList (fun w hw => mem_eqAt rx fx r fs w (by simpa using hw)) ⟨.bl _, H, I, rfl, ?_⟩
    rw [show its.toArray.any (eqU x) = its.any (eqU x) by simp, any_eqU r fs]
    exact q
  · obtain ⟨its, r, pl, hz⟩ := I.tuple hq
    refine SeqAt.in_tupleAt (eqU x) pl (fun w hw => mem_eqAt rx fx r fs w (by simpa using hw)) ⟨.bl _, H, I, rfl, ?_⟩
    rw [show its.toArray.any (eqU x) = its.any (eqU x) by simp, any_eqU r fs]
    exact q
theorem op_notIn_seq : OpR X (compareOp .NotIn) (rIn X.K true) := by
  intro pins s σ H x y v u Q I rx ry h
  obtain ⟨p, xs, rfl, hq, fx, fs, q⟩ := h
  cases ry
  rcases hq with hq | hq
  · obtain ⟨its, r, pl, hz⟩ := I.list hq
    refine SeqAt.notIn_listAt (eqU x) pl.isList (fun w hw => mem_eqAt rx fx r fs w (by simpa using hw)) ⟨.bl _, H, I, rfl, ?_⟩
    rw [show its.toArray.any (eqU x) = its.any (eqU x) by simp, any_eqU r fs]
    exact q
  · obtain ⟨its, r, pl, hz⟩ := I.tuple hq
    refine SeqAt.notIn_tupleAt (eqU x) pl (fun w hw => mem_eqAt rx fx r fs w (by simpa using hw)) ⟨.bl _, H, I, rfl, ?_⟩
    rw [show its.toArray.any (eqU x) = its.any (eqU x) by simp, any_eqU r fs]
    exact q
theorem op_notIn_str : OpR X (compareOp .NotIn) (fun x y H Q => ∃ i j, x = .str i ∧ y = .str j ∧ Q (.bl (!(!(Builtin.Str.occurrences j i 0 j.length 1).isEmpty))) H) := by
  intro pins s σ H x y v u Q I rx ry h
  obtain ⟨i, j, rfl, rfl, q⟩ := h
  obtain ⟨t, rfl⟩ := rx
  obtain ⟨t', rfl⟩ := ry
  exact notIn_str ⟨.bl _, H, I, rfl, q⟩

/-! ### len, list(x), tuple(x) of any list or tuple that is read -/
theorem call_len_seq : CallR X (.builtin "len") (fun xs H Q => ∃ p ys, xs = [.ref p] ∧ (SqL X.K H p ys ∨ SqT X.K H p ys) ∧ Q (.int ys.length) H) := by
  intro pins s σ H xs us Q I r h
  obtain ⟨p, ys, rfl, hq, q⟩ := h
  obtain ⟨u, rfl, rx⟩ := vals1 r
  cases rx
  have hn := line63
  rcases hq with hq | hq
  · obtain ⟨its, r', pl, hz⟩ := I.list hq
    have hlen := r'.length
    exact Calls.call_len_list pl.isList (by simp only [List.size_toArray] <;> omega) ⟨.int ys.length, H, I.tok _, ⟨s.toks + 1, by rw [List.size_toArray, hlen]⟩, q⟩
  · obtain ⟨its, r', pl, hz⟩ := I.tuple hq
    have hlen := r'.length
    exact len_tuple pl (by simp only [List.size_toArray] <;> omega) ⟨.int ys.length, H, I.tok _, ⟨s.toks + 1, by rw [List.size_toArray, hlen]⟩, q⟩
theorem call_len_str : CallR X (.builtin "len") (fun xs H Q => ∃ z, xs = [.str z] ∧ z.length ≤ sizeLine ∧ Q (.int z.length) H) := by
  intro pins s σ H xs us Q I r h
  obtain ⟨z, rfl, hz, q⟩ := h
  obtain ⟨u, rfl, t, rfl⟩ := vals1 r
  have hn := line63
  exact len_str (by omega) ⟨.int z.length, H, I.tok _, ⟨_, rfl⟩, q⟩
theorem CallR.or {f : Value} {r r' : List V → Hp → VK → Prop} (h : CallR X f r) (h' : CallR X f r') : CallR X f (fun xs H Q => r xs H Q ∨ r' xs H Q) := by
  intro pins s σ H xs us Q I rs q
  rcases q with q | q
  · exact h pins s σ H xs us Q I rs q
  · exact h' pins s σ H xs us Q I rs q
theorem call_list_of : CallR X (.type "list") (fun xs H Q => ∃ p ys, xs = [.ref p] ∧ (SqL X.K H p ys ∨ SqT X.K H p ys) ∧ ∀ l, H l = none → Q (.ref l) (upd H l (.lst ys))) := by
  intro pins s σ H xs us Q I r h
  obtain ⟨p, ys, rfl, hq, q⟩ := h
  obtain ⟨u, rfl, rx⟩ := vals1 r
  cases rx
  have fin : ∀ (its : List Value), Vals ys its → ys.length ≤ sizeLine → ∀ (h' : Heap) (c' : Nat), (∀ b o', s.heap.get? b = some o' → h'.get? b = some o') →
      h'.get? s.heap.objs.size = some { cls := .type "list", dict := none, data := .seq its.toArray c', slots := #[] } → EP X pins σ Q (.ref s.heap.objs.size) { s with heap := h' } := fun its r' hz h' c' kp e =>
    ⟨.ref s.heap.objs.size, _, I.laid (t' := s.toks) kp (Nat.le_refl _) (show ObjOk X.prog X.w _ h' _ (.lst ys) from ⟨hz, its, c', r', e⟩), rfl, q _ (I.hok.fresh (Nat.le_refl _))⟩
  rcases hq with hq | hq
  · obtain ⟨its, r', pl, hz⟩ := I.list hq
    have hlen := r'.length
    obtain ⟨o, ho, hc, n, hd⟩ := pl.isList
    exact call_list_seq p (.inl rfl) ho hc hd (fun h' c' kp e => fin its r' hz h' c' kp e) (by simp only [List.size_toArray] <;> omega)
  · obtain ⟨its, r', pl, hz⟩ := I.tuple hq
    have hlen := r'.length
    obtain ⟨o, ho, hc, n, hd⟩ := pl
    exact call_list_seq p (.inr rfl) ho hc hd (fun h' c' kp e => fin its r' hz h' c' kp e) (by simp only [List.size_toArray] <;> omega)
theorem call_tuple_of : CallR X (.type "tuple") (fun xs H Q => ∃ p ys, xs = [.ref p] ∧ ((SqL X.K H p ys ∧ ∀ l, H l = none → Q (.ref l) (upd H l (.tup ys))) ∨ (SqT X.K H p ys ∧ Q (.ref p) H))) := by
  intro pins s σ H xs us Q I r h
  obtain ⟨p, ys, rfl, h⟩ := h
  obtain ⟨u, rfl, rx⟩ := vals1 r
  cases rx
  rcases h with ⟨hq, q⟩ | ⟨hq, q⟩
  · obtain ⟨its, r', pl, hz⟩ := I.list hq
    have hlen := r'.length
    refine call_tuple_list pl.isList (fun h' kp => ?_) (by simp only [List.size_toArray] <;> omega)
    have I1 : Inv X pins σ H { s with heap := h' } := I.kept (t' := s.toks) kp
    have I2 : Inv X pins σ (upd H h'.objs.size (.tup ys)) { s with heap := h'.push { cls := .type "tuple", data := .seq its.toArray } } :=
      I1.laid (t' := s.toks) (fun b o e => Heap.get?_push_of_some _ e) (Nat.le_refl _) (show ObjOk X.prog X.w _ _ _ (.tup ys) from ⟨hz, its, r', IsTup.new _ _⟩)
    exact ⟨.ref h'.objs.size, _, I2, rfl, q _ (I1.hok.fresh (Nat.le_refl _))⟩
  · obtain ⟨its, r', pl, hz⟩ := I.tuple hq
    exact call_tuple_same pl ⟨.ref p, H, I, rfl, q⟩

/-! ### the call of a builtin's method: o.m(..) -/
/-- the value is of that builtin type -/
def tyV (K : PySem.W.Frag) (T : String) (x : V) (H : Hp) : Prop := match x with
  | .str _ => T = "str"
  | .int _ => T = "int"
  | .ref p => (T = "list" ∧ ∃ xs, SqL K H p xs) ∨ (T = "tuple" ∧ ∃ o, K.lookup p = some o ∧ o.cls = .type "tuple" ∧ o.dict = none) ∨
      (T = "dict" ∧ ((∃ kvs, H p = some (.dK kvs)) ∨ ∃ kvs, H p = some (.dT kvs))) ∨ (T = "set" ∧ ∃ S n, H p = some (.set S n))
  | _ => False
theorem tyV_is {pins : List (Addr × Obj)} {σ : St} {H : Hp} {s : Shared} {T : String} {x : V} {v : Value} (I : Inv X pins σ H s) (r : RelV x v) (ty : tyV X.K T x H) :
    s.TypeIs v T ∧ ∀ a, v = .ref a → ∃ ob, s.heap.get? a = some ob ∧ ob.dict = none := by
  cases x with
  | str z =>
    obtain ⟨t, rfl⟩ := r
    cases (show T = "str" from ty)
    exact ⟨typeIs_str s z t, fun _ e => nomatch e⟩
  | int i =>
    obtain ⟨t, rfl⟩ := r
    cases (show T = "int" from ty)
    exact ⟨typeIs_int s i t, fun _ e => nomatch e⟩
  | ref p =>
    cases r
    rcases ty with ⟨rfl, xs, hq⟩ | ⟨rfl, o, hk, hc, hd⟩ | ⟨rfl, hk⟩ | ⟨rfl, S, n, hk⟩
    · obtain ⟨its, _, pl, _⟩ := I.list hq
      refine ⟨pl.isList.typeIs, fun a e => ?_⟩
      cases e
      obtain ⟨o, n, e, c, hd, _⟩ := pl
      exact ⟨o, e, hd⟩
    · refine ⟨⟨o, I.kIn p o hk, hc⟩, fun a e => ?_⟩
      cases e
      exact ⟨o, I.kIn _ o hk, hd⟩
    · have z : ∃ o, s.heap.get? p = some o ∧ o.ExactDict := by
        rcases hk with ⟨kvs, hk⟩ | ⟨kvs, hk⟩
        · obtain ⟨_, _, _, _, o, _, _, e, ex, _⟩ := I.hok p _ hk
          exact ⟨o, e, ex⟩
        · obtain ⟨_, _, _, _, o, _, _, e, ex, _⟩ := I.hok p _ hk
          exact ⟨o, e, ex⟩
      obtain ⟨o, e, ex⟩ := z
      refine ⟨⟨o, e, ex.1⟩, fun a e2 => ?_⟩
      cases e2
      exact ⟨o, e, ex.2.1⟩
    · obtain ⟨o, _, _, _, e, ex, _⟩ := I.hok p _ hk
      refine ⟨⟨o, e, ex.1⟩, fun a e2 => ?_⟩
      cases e2
      exact ⟨o, e, ex.2.1⟩
  | _ => exact False.elim ty
def tBM0 (K : PySem.W.Frag) (T : String) (r : V → List V → Hp → VK → Prop) (to : TE) : TE := fun σ H Q => to σ H fun x H1 => tyV K T x H1 ∧ r x [] H1 Q
def tBM (K : PySem.W.Frag) (T : String) (r : V → List V → Hp → VK → Prop) (to : TE) (t : TA) : TE := fun σ H Q => to σ H fun x H1 => tyV K T x H1 ∧ t σ H1 fun xs H2 => r x xs H2 Q
variable {o e : Expr} {es : List Expr} {to : TE} {t : TA} {name : Str} {apos cpos : Pos} {T id : String} {r : V → List V → Hp → VK → Prop}
theorem pe_bm0 (pa : PlainAttrs T) (slot : Slot T name id) (hty : typeOf (.builtin id) = pure (.type "method_descriptor")) (hm : MtR X id r) (ho : PE X o to)
    (hbase : attributeBase o name X.env (eval o X.env) = eval o X.env := by rfl) (hline : (apos.endLine == cpos.line) = true := by rfl) : PE X (.Call (.Attribute o name apos) [] [] cpos) (tBM0 X.K T r to) := by
  intro pins s σ H Q I h
  refine wpAny_Call_method0_late hbase hline (thn (ho pins s σ H _ I h) fun v s1 ⟨x, H1, I1, r1, ty, q1⟩ => ?_)
  obtain ⟨h1, h2⟩ := tyV_is I1 r1 ty
  exact ⟨T, id, pa, slot, hty, h1, h2, Calls.callWith_builtin rfl (PySem.evalArgs_none (hm pins s1 σ H1 x [] v [] Q I1 r1 .nil q1))⟩
theorem pe_bm (pa : PlainAttrs T) (slot : Slot T name id) (hty : typeOf (.builtin id) = pure (.type "method_descriptor")) (hm : MtR X id r) (ho : PE X o to) (ha : PA X (e :: es) t)
    (hbase : attributeBase o name X.env (eval o X.env) = eval o X.env := by rfl)
    (hfew : ((backTo cpos (starEach (e :: es) X.env)).all (fun x => !x.1) && (backToKw cpos (keywordEach [] X.env)).all (fun x => x.1.isSome)
      && decide ((e :: es).length + ([] : List Keyword).length + (if ([] : List Keyword).isEmpty then 0 else 1) < 30)) = true := by rfl)
    (hline : (apos.endLine == cpos.line) = true := by rfl) (hs : starEach (e :: es) X.env = (false, eval e X.env) :: starEach es X.env := by rfl) (hplain : (backTo cpos (starEach es X.env)).any (·.1) = false := by rfl) :
    PE X (.Call (.Attribute o name apos) (e :: es) [] cpos) (tBM X.K T r to t) := by
  intro pins s σ H Q I h
  refine wpAny_Call_method_late hbase hfew hline rfl (thn (ho pins s σ H _ I h) fun v s1 ⟨x, H1, I1, r1, ty, q1⟩ => ?_)
  obtain ⟨h1, h2⟩ := tyV_is I1 r1 ty
  refine ⟨T, id, pa, slot, hty, h1, h2, ?_⟩
  have hA := ha cpos pins s1 σ H1 _ I1 q1
  rw [hs] at hA ⊢
  refine Calls.callWith_builtin (by show (false || (backTo cpos (starEach es X.env)).any (·.1)) = false; rw [hplain] <;> rfl) (Calls.evalArgs_plain ?_)
  exact thn hA fun us s2 ⟨vs, H2, I2, r2, q2⟩ => hm pins s2 σ H2 x vs v us Q I2 r1 r2 q2
/- xs.append(e), list.index on a module's tuple .. are MtR facts of 06m -/
end
end L2

namespace L2
open PySem PySem.Spec PyProof.Rows

def MtM (X : Cx) (id : String) (r : V → List V → Hp → VK → Prop) : Prop :=
  ∀ (pins : List (Addr × Obj)) (s : Shared) (σ : St) (H : Hp) (x : V) (xs : List V) (v : Value) (us : List Value) (Q : VK), Inv X pins σ H s → RelV x v → Vals xs us → r x xs H Q →
    wpAny (model X.prog X.w) X.A (call (.builtin id) (v :: us)) (EP X pins σ Q) X.xe s

/-! ### lists of values -/
theorem Vals.one : ∀ {x : V} {us : List Value}, Vals [x] us → ∃ u, us = [u] ∧ RelV x u
  | _, _, .cons r .nil => ⟨_, rfl, r⟩
theorem Vals.two : ∀ {x y : V} {us : List Value}, Vals [x, y] us → ∃ u v, us = [u, v] ∧ RelV x u ∧ RelV y v
  | _, _, _, .cons r (.cons q .nil) => ⟨_, _, rfl, r, q⟩
theorem Vals.zero : ∀ {us : List Value}, Vals [] us → us = []
  | _, .nil => rfl
theorem Vals.dropLast {xs : List V} {us : List Value} (h : Vals xs us) : Vals xs.dropLast us.dropLast := by
  induction h with
  | nil => exact .nil
  | cons r t ih =>
    cases t with
    | nil => exact .nil
    | cons q t' => exact .cons r ih
theorem Vals.eraseIdx : ∀ {xs : List V} {us : List Value} (i : Nat), Vals xs us → Vals (xs.eraseIdx i) (us.eraseIdx i)
  | _, _, _, .nil => .nil
  | _, _, 0, .cons _ t => t
  | _, _, i + 1, .cons r t => .cons r (Vals.eraseIdx i t)
theorem Vals.reverse {xs : List V} {us : List Value} (h : Vals xs us) : Vals xs.reverse us.reverse := by
  induction h with
  | nil => exact .nil
  | cons r t ih => rw [List.reverse_cons, List.reverse_cons]; exact Vals.append ih (.cons r .nil)
theorem Vals.rep {xs : List V} {us : List Value} (h : Vals xs us) : ∀ k : Nat, Vals (List.replicate k xs).flatten (List.replicate k us).flatten
  | 0 => .nil
  | k + 1 => by
    rw [List.replicate_succ, List.replicate_succ, List.flatten_cons, List.flatten_cons]
    exact Vals.append h (Vals.rep h k)
theorem erase_last {α : Type} (l : List α) : l.eraseIdx (l.length - 1) = l.dropLast := by
  induction l with
  | nil => rfl
  | cons a r ih =>
    cases r with
    | nil => rfl
    | cons b r =>
      have e : (a :: b :: r).length - 1 = ((b :: r).length - 1) + 1 := by
        have h1 : (a :: b :: r).length = r.length + 2 := rfl
        have h2 : (b :: r).length = r.length + 1 := rfl
        omega
      rw [e, List.eraseIdx_cons_succ, ih]
      all_goals rfl
theorem len_erase {α : Type} : ∀ (l : List α) (i : Nat), (l.eraseIdx i).length ≤ l.length
  | [], _ => Nat.le_refl _
  | _ :: _, 0 => Nat.le_succ _
  | _ :: r, i + 1 => Nat.succ_le_succ (len_erase r i)
theorem foldl_rep (its : List Value) : ∀ (k : Nat) (acc : List Value),
    List.foldl (fun x1 x2 => x1 ++ x2) acc.toArray (List.replicate k its.toArray) = (acc ++ (List.replicate k its).flatten).toArray
  | 0, acc => by simp
  | k + 1, acc => by
    have e : acc.toArray ++ its.toArray = (acc ++ its).toArray := by simp
    have e2 : (acc ++ its) ++ (List.replicate k its).flatten = acc ++ (List.replicate (k + 1) its).flatten := by
      rw [List.replicate_succ, List.flatten_cons, List.append_assoc]
    rw [← e2, ← foldl_rep its k (acc ++ its), ← e, List.replicate_succ, List.foldl_cons]

section
variable {X : Cx} {pins : List (Addr × Obj)} {σ : St} {H : Hp} {s : Shared} {l b : Addr} {xs ys zs : List V}

/-! ### the two steps: a tracked list is rewritten, a new list is laid -/
theorem Inv.lset {its its' : List Value} {n : Nat} {f : Array Value → Array Value} {t' : Nat} (I : Inv X pins σ H s) (hH : H l = some (.lst xs))
    (e : s.heap.get? l = some { cls := .type "list", data := .seq its.toArray n }) (hf : f its.toArray = its'.toArray) (hv : Vals ys its') (hz : ys.length ≤ sizeLine) :
    Inv X pins σ (upd H l (.lst ys)) { s with heap := s.heap.update l (Obj.mapSeq f), toks := t' } := by
  have q := PySem.IsL.update e f
  rw [hf] at q
  refine I.write (x := l) (e := l) (by rw [hH]; exact trivial) (.inl rfl) (fun b' u hb hu => (Heap.get?_update_other s.heap (Obj.mapSeq f) (Ne.symm hb)).trans hu) ⟨_, q⟩ ?_
  exact ⟨hz, its', _, hv, q⟩
theorem Inv.lnew {its : List Value} {t' : Nat} (I : Inv X pins σ H s) (hv : Vals ys its) (hz : ys.length ≤ sizeLine) :
    Inv X pins σ (upd H s.heap.objs.size (.lst ys)) { s with heap := s.heap.push { cls := .type "list", data := .seq its.toArray }, toks := t' } :=
  I.laid (fun _ _ q => Heap.get?_push_of_some _ q) (Nat.le_refl _) ⟨hz, its, 0, hv, Heap.get?_push_size _ rfl⟩
theorem Inv.fresh (I : Inv X pins σ H s) : H s.heap.objs.size = none := I.hok.fresh (Nat.le_refl _)
theorem Inv.lstM (I : Inv X pins σ H s) (hH : H l = some (.lst xs)) : xs.length ≤ sizeLine ∧ ∃ (its : List Value) (n : Nat), Vals xs its ∧ xs.length = its.length ∧ s.heap.get? l = some { cls := .type "list", data := .seq its.toArray n } := by
  obtain ⟨z, its, n, r, e⟩ := I.hok l _ hH
  exact ⟨z, its, n, r, r.length, e⟩

theorem notLongL {n : Nat} (h : n ≤ sizeLine) : Builtin.List.listTooLong n = false := by
  unfold Builtin.List.listTooLong
  exact decide_eq_false (by omega)
end

section
variable {X : Cx}

/-! ### methods -/
def rAppend : V → List V → Hp → VK → Prop := fun x vs H Q => ∃ l xs y, x = .ref l ∧ vs = [y] ∧ H l = some (.lst xs) ∧ xs.length < sizeLine ∧ Q .non (upd H l (.lst (xs ++ [y])))
theorem mt_append : MtM X "list.append" rAppend := by
  intro pins s σ H x vs v us Q I rx rv h
  obtain ⟨l, xs, y, rfl, rfl, hH, hz, q⟩ := h
  cases rx
  obtain ⟨u, rfl, ru⟩ := rv.one
  obtain ⟨z, its, n, r, hl, e⟩ := I.lstM hH
  refine call_meets F.slot_list_append ⟨_, e, rfl⟩ F.entry_list_append (F.args_list_append_2 _ _) (PySem.list_append l its.toArray n u (by rw [List.size_toArray]; omega)) ⟨e, ?_⟩
  refine ⟨.non, _, I.lset (its' := its ++ [u]) hH e (by simp) (r.append (.cons ru .nil)) ?_, rfl, q⟩
  rw [List.length_append, List.length_singleton]
  omega

def rExtend : V → List V → Hp → VK → Prop := fun x vs H Q => ∃ l b xs zs, x = .ref l ∧ vs = [.ref b] ∧ H l = some (.lst xs) ∧ H b = some (.lst zs) ∧ xs.length + zs.length ≤ sizeLine ∧ Q .non (upd H l (.lst (xs ++ zs)))
theorem mt_extend : MtM X "list.extend" rExtend := by
  intro pins s σ H x vs v us Q I rx rv h
  obtain ⟨l, b, xs, zs, rfl, rfl, hH, hB, hz, q⟩ := h
  cases rx
  obtain ⟨u, rfl, ru⟩ := rv.one
  cases ru
  obtain ⟨z, its, n, r, hl, e⟩ := I.lstM hH
  obtain ⟨z2, its2, n2, r2, hl2, e2⟩ := I.lstM hB
  have hsz : its.toArray.size + its2.toArray.size ≤ sizeLine := by rw [List.size_toArray, List.size_toArray]; omega
  have hlong : ¬ (!its.toArray.isEmpty && Builtin.List.listTooLong (its.toArray.size + its2.toArray.size)) = true := by
    rw [notLongL hsz, Bool.and_false]
    exact Bool.false_ne_true
  refine call_meets F.slot_list_extend ⟨_, e, rfl⟩ F.entry_list_extend (F.args_list_extend_2 _ _)
    (AutoSeq1.list_extend_list_list_0 l its.toArray n b its2.toArray n2 hlong (by rw [List.size_toArray]; omega) (by omega)) ⟨e, e2, ?_⟩
  refine ⟨.non, _, I.lset (its' := its ++ its2) hH e (by simp) (r.append r2) ?_, rfl, q⟩
  rw [List.length_append]
  omega

def rPop : V → List V → Hp → VK → Prop := fun x vs H Q => ∃ l xs y, x = .ref l ∧ vs = [] ∧ H l = some (.lst xs) ∧ xs[xs.length - 1]? = some y ∧ Q y (upd H l (.lst xs.dropLast))
theorem mt_pop : MtM X "list.pop" rPop := by
  intro pins s σ H x vs v us Q I rx rv h
  obtain ⟨l, xs, y, rfl, rfl, hH, hy, q⟩ := h
  cases rx
  have hus := rv.zero
  subst hus
  obtain ⟨z, its, n, r, hl, e⟩ := I.lstM hH
  obtain ⟨u, hu, ru⟩ := r.get hy
  have hy' : its.toArray[its.toArray.size - 1]? = some u := by
    show its.toArray[its.length - 1]? = some u
    rw [← Array.getElem?_toList, ← hl]
    exact hu
  refine call_meets F.slot_list_pop ⟨_, e, rfl⟩ F.entry_list_pop (F.args_list_pop_1 _) (MeetsSeq.list_pop_last l its.toArray n u hy' (by rw [List.size_toArray]; omega)) ⟨e, ?_⟩
  refine ⟨y, _, I.lset (its' := its.dropLast) hH e ?_ r.dropLast ?_, ru, q⟩
  · show its.toArray.eraseIdxIfInBounds (its.toArray.size - 1) = its.dropLast.toArray
    rw [List.size_toArray, List.eraseIdxIfInBounds_toArray, erase_last]
  · rw [List.length_dropLast]
    omega

def rPopAt : V → List V → Hp → VK → Prop := fun x vs H Q => ∃ l xs i k y, x = .ref l ∧ vs = [.int i] ∧ H l = some (.lst xs) ∧ -(2 ^ 63) ≤ i ∧ i < 2 ^ 63 ∧ seqIndex? i xs.length = some k ∧ xs[k]? = some y ∧ Q y (upd H l (.lst (xs.eraseIdx k)))
theorem mt_popAt : MtM X "list.pop" rPopAt := by
  intro pins s σ H x vs v us Q I rx rv h
  obtain ⟨l, xs, i, k, y, rfl, rfl, hH, h1, h2, hk, hy, q⟩ := h
  cases rx
  obtain ⟨u, rfl, ru⟩ := rv.one
  obtain ⟨t, rfl⟩ := ru
  obtain ⟨z, its, n, r, hl, e⟩ := I.lstM hH
  obtain ⟨w, hw, rw'⟩ := r.get hy
  refine call_meets F.slot_list_pop ⟨_, e, rfl⟩ F.entry_list_pop (F.args_list_pop_2 _ _)
    (MeetsSeq.list_pop_at l its.toArray n i t k w (fitsIndex_both h1 h2) (by rw [List.size_toArray, ← hl]; exact hk) (by rw [← Array.getElem?_toList]; exact hw) (by rw [List.size_toArray]; omega)) ⟨e, ?_⟩
  refine ⟨y, _, I.lset (its' := its.eraseIdx k) hH e ?_ (r.eraseIdx k) ?_, rw', q⟩
  · show its.toArray.eraseIdxIfInBounds k = (its.eraseIdx k).toArray
    rw [List.eraseIdxIfInBounds_toArray]
  · have := len_erase xs k
    omega

def rReverse : V → List V → Hp → VK → Prop := fun x vs H Q => ∃ l xs, x = .ref l ∧ vs = [] ∧ H l = some (.lst xs) ∧ Q .non (upd H l (.lst xs.reverse))
theorem mt_reverse : MtM X "list.reverse" rReverse := by
  intro pins s σ H x vs v us Q I rx rv h
  obtain ⟨l, xs, rfl, rfl, hH, q⟩ := h
  cases rx
  have hus := rv.zero
  subst hus
  obtain ⟨z, its, n, r, hl, e⟩ := I.lstM hH
  refine call_meets F.slot_list_reverse ⟨_, e, rfl⟩ F.entry_list_reverse (F.args_list_reverse_1 _) (AutoSeq1.list_reverse_list_0 l its.toArray n (by rw [List.size_toArray]; omega)) ⟨e, ?_⟩
  refine ⟨.non, _, I.lset (its' := its.reverse) hH e (by simp) r.reverse ?_, rfl, q⟩
  rw [List.length_reverse]
  omega

def rClear : V → List V → Hp → VK → Prop := fun x vs H Q => ∃ l xs, x = .ref l ∧ vs = [] ∧ H l = some (.lst xs) ∧ Q .non (upd H l (.lst []))
theorem mt_clear : MtM X "list.clear" rClear := by
  intro pins s σ H x vs v us Q I rx rv h
  obtain ⟨l, xs, rfl, rfl, hH, q⟩ := h
  cases rx
  have hus := rv.zero
  subst hus
  obtain ⟨z, its, n, r, hl, e⟩ := I.lstM hH
  refine call_meets F.slot_list_clear ⟨_, e, rfl⟩ F.entry_list_clear (F.args_list_clear_1 _) (AutoSeq1.list_clear_list_0 l its.toArray n (by rw [List.size_toArray]; omega)) ⟨e, ?_⟩
  exact ⟨.non, _, I.lset (its' := []) (ys := []) hH e rfl .nil (Nat.zero_le _), rfl, q⟩

/-! ### list + list, list += list, list * int -/
def rCat : R2 := fun x y H Q => ∃ l b xs zs, x = .ref l ∧ y = .ref b ∧ H l = some (.lst xs) ∧ H b = some (.lst zs) ∧ xs.length + zs.length ≤ sizeLine ∧ ∀ p, H p = none → Q (.ref p) (upd H p (.lst (xs ++ zs)))
theorem op_cat : OpR X (binaryOp .Add) rCat := by
  intro pins s σ H x y v u Q I rx ry h
  obtain ⟨l, b, xs, zs, rfl, rfl, hH, hB, hz, q⟩ := h
  cases rx
  cases ry
  obtain ⟨z, its, n, r, hl, e⟩ := I.lstM hH
  obtain ⟨z2, its2, n2, r2, hl2, e2⟩ := I.lstM hB
  refine PySem.P.add_list e e2 ?_ (by rw [List.size_toArray, List.size_toArray]; omega)
  have ea : its.toArray ++ its2.toArray = (its ++ its2).toArray := by simp
  rw [ea]
  exact ⟨.ref _, _, I.lnew (t' := s.toks) (r.append r2) (by rw [List.length_append]; omega), rfl, q _ I.fresh⟩
/-- a list times an int (a negative one is nothing) -/
def rRep : R2 := fun x y H Q => ∃ l k xs, x = .ref l ∧ y = .int k ∧ H l = some (.lst xs) ∧ -(2 ^ 63) ≤ k ∧ k < 2 ^ 63 ∧ xs.length * k.toNat ≤ sizeLine ∧
  ∀ p, H p = none → Q (.ref p) (upd H p (.lst (List.replicate k.toNat xs).flatten))
theorem len_rep {α : Type} (xs : List α) (k : Nat) : (List.replicate k xs).flatten.length = k * xs.length := by
  induction k with
  | zero => simp
  | succ k ih => rw [List.replicate_succ, List.flatten_cons, List.length_append, ih, Nat.succ_mul, Nat.add_comm]
theorem op_rep : OpR X (binaryOp .Mult) rRep := by
  intro pins s σ H x y v u Q I rx ry h
  obtain ⟨l, k, xs, rfl, rfl, hH, h1, h2, hz, q⟩ := h
  cases rx
  obtain ⟨t, rfl⟩ := ry
  obtain ⟨z, its, n, r, hl, e⟩ := I.lstM hH
  have hlen : its.toArray.size * k.toNat ≤ sizeLine := by rw [List.size_toArray, ← hl]; exact hz
  have hcap : ¬ its.toArray.size * k.toNat > (2 ^ 63 - 1) / 8 := by
    have : (sizeLine : Nat) ≤ (2 ^ 63 - 1) / 8 := by decide
    omega
  have hfit : ¬ (!Builtin.List.listFitsIndex k) = true := by
    rw [fitsIndex_both h1 h2]
    exact Bool.false_ne_true
  have hlong : ¬ Builtin.List.listTooLong (its.toArray.size * k.toNat) = true := by
    rw [notLongL hlen]
    exact Bool.false_ne_true
  have hnew : List.foldl (fun x1 x2 => x1 ++ x2) #[] (List.replicate (if its.toArray.isEmpty = true then 0 else k.toNat) its.toArray) = (List.replicate k.toNat its).flatten.toArray := by
    have f0 : ∀ m : Nat, List.foldl (fun x1 x2 => x1 ++ x2) #[] (List.replicate m its.toArray) = (List.replicate m its).flatten.toArray := fun m => by
      have := foldl_rep its m []
      rw [List.nil_append] at this
      exact this
    rw [f0]
    cases its with
    | nil => simp
    | cons a r' => rw [if_neg (by simp)]
  refine wpAny_binaryOp_repeat_ref (T := "list") (U := "int") (by decide) ⟨_, e, rfl⟩ (fun s' => typeIs_int s' k t) noFill_list_mul F.fills_int_mul F.slot_int_rmul repeat_list F.slot_int_index.lookup
    (call_meets F.slot_int_rmul (typeIs_int s k t) F.entry_int_rmul (F.args_int_rmul_2 _ _) (int___rmul___int_list k t l its.toArray n)
      ⟨e, rfl, ⟨_, e, rfl⟩, call_meets F.slot_list_mul ⟨_, e, rfl⟩ F.entry_list_mul (F.args_list_mul_2 _ _) (AutoListH.list___mul___list_int_3 l its.toArray n k t hfit hcap hlong) ⟨e, ?_⟩⟩)
  rw [hnew]
  exact ⟨.ref _, _, I.lnew (t' := s.toks) (r.rep k.toNat) (by rw [len_rep, Nat.mul_comm]; exact hz), rfl, q _ I.fresh⟩

/-! ### del xs[i] -/
theorem del_list {pins : List (Addr × Obj)} {s : Shared} {σ : St} {H : Hp} {l : Addr} {xs : List V} {i : Int} {t : Tok} {k : Nat} {Q : Unit → Shared → Prop} (I : Inv X pins σ H s) (hH : H l = some (.lst xs))
    (h1 : -(2 ^ 63) ≤ i) (h2 : i < 2 ^ 63) (hk : seqIndex? i xs.length = some k) (h : ∀ s', Inv X pins σ (upd H l (.lst (xs.eraseIdx k))) s' → Q () s') :
    wpAny (model X.prog X.w) X.A (delItem (.ref l) (.int i t)) Q X.xe s := by
  obtain ⟨z, its, n, r, hl, e⟩ := I.lstM hH
  refine PySem.P.delItem_list (k := k) e (fitsIndex_both h1 h2) (by rw [List.size_toArray, ← hl]; exact hk) (h _ ?_) (by rw [List.size_toArray]; omega)
  refine I.lset (its' := its.eraseIdx k) (t' := s.toks) hH e ?_ (r.eraseIdx k) ?_
  · show its.toArray.eraseIdxIfInBounds k = (its.eraseIdx k).toArray
    rw [List.eraseIdxIfInBounds_toArray]
  · have := len_erase xs k
    omega
end

/-! ### xs[a:b] = ys -/
section
variable {prog : Program} {w : World} {A : Around} {E : Value → Shared → Prop} {s : Shared}
theorem splice_eq (its its2 : List Value) (a c : Nat) : its.toArray.extract 0 a ++ its2.toArray ++ its.toArray.extract c its.toArray.size = (its.take a ++ its2 ++ its.drop c).toArray := by
  apply Array.toList_inj.mp
  first
    | (simp
       exact List.take_of_length_le (by simp))
    | simp [List.take_of_length_le]
    | simp
theorem bounds_run {a c n : Nat} (hac : a ≤ c) (hc : c ≤ n) : sliceBounds (some (a : Int)) (some (c : Int)) none n = ((a : Int), (c : Int), 1) := by
  simp only [sliceBounds, Option.getD_none]
  have h1 : ¬ ((a : Int) < 0) := by omega
  have h2 : ¬ ((c : Int) < 0) := by omega
  simp only [h1, h2, if_false, show (1 : Int) > 0 by decide, if_true]
  congr 1
  · omega
  · congr 1; omega
set_option maxRecDepth 100000 in
/-- list.__setitem__ with a slice of step one and another list -/
theorem setItem_slice {l b sl : Addr} {items new : Array Value} {n n2 : Nat} {vl vu : Value} {a c : Nat} {Q : Unit → Shared → Prop}
    (e : s.heap.get? l = some { cls := .type "list", data := .seq items n }) (e2 : s.heap.get? b = some { cls := .type "list", data := .seq new n2 }) (hne : l ≠ b)
    (hs : s.heap.IsSliceOf sl vl vu .none) (pl : IsPart vl (some (a : Int))) (pu : IsPart vu (some (c : Int))) (hac : a ≤ c) (hc : c ≤ items.size)
    (hsz : items.size + new.size ≤ sizeLine) (h : Q () { s with heap := s.heap.update l (Obj.mapSeq fun xs => xs.extract 0 a ++ new ++ xs.extract c xs.size) }) :
    wpAny (model prog w) A (setItem (.ref l) (.ref sl) (.ref b)) Q E s := by
  have hl : s.heap.IsList l items := PySem.IsL.isList e
  have hb : s.heap.IsList b new := PySem.IsL.isList e2
  obtain ⟨os, hos, hcs, hds⟩ := id hs
  have hTs : s.TypeIs (.ref sl) "slice" := ⟨os, hos, hcs⟩
  have hstep : ¬ ((rawPart none == rawInt 0) = true) := Bool.false_ne_true
  have hsame : Builtin.List.listSameRef (.ref l) (.ref b) = false := by
    unfold Builtin.List.listSameRef
    exact beq_eq_false_iff_ne.mpr hne
  have hmax : (max (a : Int) (c : Int)).toNat = c := by omega
  have hz' : ((fun xs : Array Value => xs.extract 0 a ++ new ++ xs.extract c xs.size) items).size ≤ sizeLine + 1 := by
    simp only [Array.size_append, Array.size_extract]
    omega
  unfold setItem
  try with_reducible refine wpAny_holding ?_
  first | refine wpAny_bind (wpAny_pure ?_) | skip
  refine wpAny_bind (wpAny_sequenceKey hl.typeIs (by decide) ?_)
  refine wpAny_bind (wpAny_callSpecial?_slot (name := Str.ofString "__setitem__") hl.typeIs slot_list_setitem
    (wpAny_call_entry slot_list_setitem hl.typeIs entry_list_setitem ?_ (args_list_setitem _ _ _)))
  show wpAny _ _ (Builtin.List.listSubscript? (.ref sl) >>= _) _ _ s
  refine wpAny_bind ?_
  unfold Builtin.List.listSubscript?
  refine wpAny_bind (wpAny_specialOf hTs slice_no_index ?_)
  simp only [Option.isNone_none, if_true]
  refine wpAny_pure ?_
  show wpAny _ _ (typeOf (.ref sl) >>= _) _ _ s
  refine wpAny_bind (wpAny_typeOf hTs ?_)
  first
    | rw [if_neg (by decide)]
    | refine PySem.W.KFB.if_not (by decide) ?_
  rw [listSliceParts_eq]
  refine wpAny_bind (wpAny_bind (wpAny_field hos hds (x := .none) rfl (wpAny_bind (wpAny_listPart .none ?_))))
  rw [if_neg hstep]
  refine wpAny_bind (wpAny_field hos hds (x := vl) rfl (wpAny_bind (wpAny_listPart pl ?_)))
  refine wpAny_bind (wpAny_field hos hds (x := vu) rfl (wpAny_bind (wpAny_listPart pu (wpAny_pure ?_))))
  first
    | simp only [hsame, Bool.false_eq_true, if_false]
    | refine PySem.W.KFB.if_not hsame ?_
    | (dsimp only
       rw [if_neg (by rw [hsame]; exact Bool.false_ne_true)])
  refine wpAny_bind (m := Builtin.List.listAllItems (.ref b) "must assign iterable to extended slice") ?_
  unfold Builtin.List.listAllItems
  refine wpAny_bind (wpAny_typeOf hb.typeIs ?_)
  first
    | refine PySem.W.KFB.if_so (by decide) ?_
    | rw [if_pos (by decide)]
    | simp only [beq_self_eq_true, Bool.true_or, if_true]
  unfold Builtin.List.listItems
  refine wpAny_bind (wpAny_seqItems e2 rfl (wpAny_pure ?_))
  refine wpAny_bind (wpAny_bind (wpAny_seqItems e rfl (wpAny_pure ?_)))
  refine wpAny_bind (wpAny_of_eq ((sliceIndices_raw (some (a : Int)) (some (c : Int)) none items.size (by simp)).trans (congrArg (pure : Int × Int × Int → Sem (Int × Int × Int)) (bounds_run hac hc))) ?_)
  show wpAny _ _ (if ((1 : Int) == 1) = true then _ else _) _ _ s
  rw [if_pos (by decide)]
  refine wpAny_bind (wpAny_rule ?_)
  first
    | simp only [notLongL hsz, Bool.false_eq_true, if_false]
    | refine PySem.W.KFB.if_not (notLongL hsz) ?_
  first | refine wpAny_bind (wpAny_pure ?_) | skip
  show wpAny _ _ (updateSeq l (fun xs => xs.extract 0 ((a : Int)).toNat ++ new ++ xs.extract (max (a : Int) (c : Int)).toNat xs.size) >>= _) _ _ s
  rw [hmax, Int.toNat_natCast]
  refine wpAny_bind (wpAny_updateSeq (hz := Nat.le_trans (Nat.le_add_right _ _) hsz) (_hz' := hz') e rfl ?_)
  refine wpAny_bind (wpAny_letGo ?_)
  first
    | exact wpAny_bind (wpAny_pure (wpAny_pure ⟨.none, rfl, wpAny_pure h⟩))
    | exact wpAny_pure ⟨.none, rfl, wpAny_pure h⟩
end

section
variable {X : Cx}
/-- xs[a:c] = ys of another list, at the value level: sl is the slice object that was just made -/
theorem set_slice {pins : List (Addr × Obj)} {s : Shared} {σ : St} {H : Hp} {l b sl : Addr} {xs ys : List V} {a c : Int} {vl vu : Value} {Q : Unit → Shared → Prop} (I : Inv X pins σ H s)
    (hH : H l = some (.lst xs)) (hB : H b = some (.lst ys)) (hne : l ≠ b) (hs : s.heap.IsSliceOf sl vl vu .none) (ra : RelV (.int a) vl) (rc : RelV (.int c) vu) (h0 : 0 ≤ a) (hac : a ≤ c) (hc : c ≤ xs.length)
    (hz : xs.length + ys.length ≤ sizeLine) (h : ∀ s', Inv X pins σ (upd H l (.lst (xs.take a.toNat ++ ys ++ xs.drop c.toNat))) s' → Q () s') :
    wpAny (model X.prog X.w) X.A (setItem (.ref l) (.ref sl) (.ref b)) Q X.xe s := by
  obtain ⟨ta, rfl⟩ := ra
  obtain ⟨tc, rfl⟩ := rc
  obtain ⟨z, its, n, r, hl, e⟩ := I.lstM hH
  obtain ⟨z2, its2, n2, r2, hl2, e2⟩ := I.lstM hB
  obtain ⟨a', rfl⟩ := Int.eq_ofNat_of_zero_le h0
  obtain ⟨c', rfl⟩ := Int.eq_ofNat_of_zero_le (Int.le_trans h0 hac)
  simp only [Int.toNat_natCast] at h
  refine setItem_slice (a := a') (c := c') e e2 hne hs (.int _ _) (.int _ _) (by omega) (by rw [List.size_toArray]; omega) (by rw [List.size_toArray, List.size_toArray]; omega) (h _ ?_)
  refine I.lset (its' := its.take a' ++ its2 ++ its.drop c') (t' := s.toks) hH e ?_ (Vals.append (Vals.append (r.take _) r2) (r.drop _)) ?_
  · exact splice_eq its its2 a' c'
  · rw [List.length_append, List.length_append, List.length_take, List.length_drop]
    omega
end
end L2

namespace L2
open PySem PySem.Spec PyProof.Rows

/-! ### lists of pairs as tables -/
section
variable {κ : Type} [DecidableEq κ]
def valV (kvs : List (κ × V)) (k : κ) : Option V := (kvs.find? fun kv => decide (kv.1 = k)).map (·.2)
/-- in its place, or at the end -/
def putK (kvs : List (κ × V)) (k : κ) (v : V) : List (κ × V) :=
  if (kvs.any fun kv => decide (kv.1 = k)) = true then kvs.map (fun kv => if kv.1 = k then (kv.1, v) else kv) else kvs ++ [(k, v)]
def dropK (kvs : List (κ × V)) (k : κ) : List (κ × V) := kvs.filter fun kv => decide (kv.1 ≠ k)

theorem valV_nil {k : κ} : valV ([] : List (κ × V)) k = none := rfl
theorem valV_pos {p : κ × V} {r : List (κ × V)} {k : κ} (e : p.1 = k) : valV (p :: r) k = some p.2 := by simp [valV, List.find?_cons, e]
theorem valV_neg {p : κ × V} {r : List (κ × V)} {k : κ} (e : ¬ p.1 = k) : valV (p :: r) k = valV r k := by simp [valV, List.find?_cons, e]
theorem valV_any (k : κ) : ∀ kvs : List (κ × V), (kvs.any fun kv => decide (kv.1 = k)) = (valV kvs k).isSome
  | [] => rfl
  | p :: r => by
    rw [List.any_cons]
    by_cases e : p.1 = k
    · simp only [valV_pos e, decide_eq_true e, Bool.true_or, Option.isSome_some]
    · rw [valV_neg e, decide_eq_false e, Bool.false_or]; exact valV_any k r
theorem valV_map (k j : κ) (y : V) : ∀ kvs : List (κ × V), valV (kvs.map fun kv => if kv.1 = k then (kv.1, y) else kv) j = (valV kvs j).map fun x => if j = k then y else x
  | [] => rfl
  | p :: r => by
    have ih := valV_map k j y r
    rw [List.map_cons]
    by_cases h : p.1 = k
    · rw [if_pos h]
      by_cases e : p.1 = j
      · rw [valV_pos (p := (p.1, y)) e, valV_pos e, Option.map_some, if_pos (e.symm.trans h)]
      · rw [valV_neg (p := (p.1, y)) e, valV_neg e, ih]
    · rw [if_neg h]
      by_cases e : p.1 = j
      · rw [valV_pos (p := p) e, valV_pos e, Option.map_some, if_neg (fun z => h (e.trans z))]
      · rw [valV_neg (p := p) e, valV_neg e, ih]
theorem valV_snoc (k j : κ) (y : V) : ∀ kvs : List (κ × V), valV kvs k = none → valV (kvs ++ [(k, y)]) j = if j = k then some y else valV kvs j
  | [], _ => by
    by_cases e : k = j
    · rw [if_pos e.symm]; exact valV_pos (p := (k, y)) e
    · rw [if_neg (fun z => e z.symm)]; exact valV_neg (p := (k, y)) e
  | p :: r, hn => by
    rw [List.cons_append]
    have hk : ¬ p.1 = k := fun z => by rw [valV_pos z] at hn; cases hn
    rw [valV_neg hk] at hn
    have ih := valV_snoc k j y r hn
    by_cases e : p.1 = j
    · rw [valV_pos e, valV_pos e, if_neg (fun z => hk (e.trans z))]
    · rw [valV_neg e, valV_neg e, ih]
theorem valV_put (kvs : List (κ × V)) (k j : κ) (y : V) : valV (putK kvs k y) j = if j = k then some y else valV kvs j := by
  unfold putK
  by_cases a : (kvs.any fun kv => decide (kv.1 = k)) = true
  · rw [if_pos a, valV_map]
    rw [valV_any] at a
    by_cases e : j = k
    · obtain ⟨x, hx⟩ := Option.isSome_iff_exists.mp a
      rw [if_pos e, e, hx, Option.map_some, if_pos rfl]
    · rw [if_neg e]
      cases valV kvs j with
      | none => rfl
      | some x => rw [Option.map_some, if_neg e]
  · rw [if_neg a]
    refine valV_snoc k j y kvs ?_
    rw [valV_any] at a
    cases q : valV kvs k with
    | none => rfl
    | some x => rw [q] at a; exact (a rfl).elim
theorem length_putK (kvs : List (κ × V)) (k : κ) (v : V) : (putK kvs k v).length ≤ kvs.length + 1 := by
  unfold putK
  split
  · rw [List.length_map]; omega
  · rw [List.length_append, List.length_cons, List.length_nil]; omega
theorem putK_new {kvs : List (κ × V)} {k : κ} (v : V) (h : valV kvs k = none) : putK kvs k v = kvs ++ [(k, v)] := by
  unfold putK
  rw [valV_any, h]
  exact if_neg (by decide)

theorem RelO.isSome_eq {o : Option V} {u : Option Value} (r : RelO o u) : o.isSome = u.isSome := by
  cases o with
  | none => cases u with
    | none => rfl
    | some _ => exact (show False from r).elim
  | some _ => cases u with
    | none => exact (show False from r).elim
    | some _ => rfl
theorem RelO.getD {o : Option V} {u : Option Value} {d : V} {d' : Value} (r : RelO o u) (rd : RelV d d') : RelV (o.getD d) (u.getD d') := by
  cases o with
  | none => cases u with
    | none => exact rd
    | some _ => exact (show False from r).elim
  | some _ => cases u with
    | none => exact (show False from r).elim
    | some _ => exact r

/-- raw tables of the same keys -/
theorem KV.val {kvs : List (κ × V)} {vs : List (κ × Value)} (r : KV kvs vs) (k : κ) : RelO (valV kvs k) (valueAt vs k) := by
  unfold KV at r
  induction r with
  | nil => exact True.intro
  | @cons p q ps qs h t ih =>
    obtain ⟨h1, h2⟩ := h
    by_cases e : p.1 = k
    · have e' : q.1 = k := h1.symm.trans e
      have b : valueAt (q :: qs) k = some q.2 := by simp [valueAt, List.find?_cons, e']
      rw [valV_pos e, b]; exact h2
    · have e' : ¬ q.1 = k := fun z => e (h1.trans z)
      have b : valueAt (q :: qs) k = valueAt qs k := by simp [valueAt, List.find?_cons, e']
      rw [valV_neg e, b]; exact ih
theorem KV.any {kvs : List (κ × V)} {vs : List (κ × Value)} (r : KV kvs vs) (k : κ) : (kvs.any fun kv => decide (kv.1 = k)) = vs.any fun kv => decide (kv.1 = k) := by
  unfold KV at r
  induction r with
  | nil => rfl
  | cons h t ih => rw [List.any_cons, List.any_cons, ih, h.1]
theorem KV.repl {kvs : List (κ × V)} {vs : List (κ × Value)} (r : KV kvs vs) (k : κ) {y : V} {u : Value} (ry : RelV y u) :
    KV (kvs.map fun kv => if kv.1 = k then (kv.1, y) else kv) (vs.map fun kv => if kv.1 = k then (kv.1, u) else kv) := by
  unfold KV at r ⊢
  induction r with
  | nil => exact .nil
  | @cons p q ps qs h t ih =>
    rw [List.map_cons, List.map_cons]
    refine .cons ?_ ih
    obtain ⟨h1, h2⟩ := h
    by_cases e : p.1 = k
    · rw [if_pos e, if_pos (h1.symm.trans e)]; exact ⟨h1, ry⟩
    · rw [if_neg e, if_neg (fun z => e (h1.trans z))]; exact ⟨h1, h2⟩
theorem KV.put {kvs : List (κ × V)} {vs : List (κ × Value)} (r : KV kvs vs) (k : κ) {y : V} {u : Value} (ry : RelV y u) : KV (putK kvs k y) (stored vs k u) := by
  unfold putK stored
  rw [r.any k]
  by_cases e : (vs.any fun kv => decide (kv.1 = k)) = true
  · rw [if_pos e, if_pos e]; exact r.repl k ry
  · rw [if_neg e, if_neg e]; exact Paired.snoc r ⟨rfl, ry⟩
theorem KV.drop {kvs : List (κ × V)} {vs : List (κ × Value)} (r : KV kvs vs) (k : κ) : KV (dropK kvs k) (without vs k) := by
  unfold KV at r ⊢
  unfold dropK without
  induction r with
  | nil => exact .nil
  | @cons p q ps qs h t ih =>
    obtain ⟨h1, h2⟩ := h
    rw [List.filter_cons, List.filter_cons]
    by_cases e : p.1 = k
    · have a : ¬ decide (p.1 ≠ k) = true := by simp [e]
      have b : ¬ decide (q.1 ≠ k) = true := by simp [h1.symm.trans e]
      rw [if_neg a, if_neg b]; exact ih
    · have e' : ¬ q.1 = k := fun z => e (h1.trans z)
      have a : decide (p.1 ≠ k) = true := by simp [e]
      have b : decide (q.1 ≠ k) = true := by simp [e']
      rw [if_pos a, if_pos b]; exact .cons ⟨h1, h2⟩ ih
theorem KV.keys {kvs : List (κ × V)} {vs : List (κ × Value)} (r : KV kvs vs) : kvs.map (·.1) = vs.map (·.1) := by
  unfold KV at r
  induction r with
  | nil => rfl
  | cons h t ih => rw [List.map_cons, List.map_cons, ih, h.1]
theorem KV.length {kvs : List (κ × V)} {vs : List (κ × Value)} (r : KV kvs vs) : kvs.length = vs.length := Paired.length r
theorem dropK_le (kvs : List (κ × V)) (k : κ) : (dropK kvs k).length ≤ kvs.length := List.length_filter_le _ _
end


/-! ### a tracked dict, its keys ints and texts or tuples of these -/
theorem kV_is {P : Program} {w : World} {k : Key} {u : Value} (r : RelV (kV k) u) : (mixKind P w).is k u = true := by
  cases k with
  | inl i => obtain ⟨t, e⟩ := (show ∃ t, u = Value.int i t from r); subst e; exact mixKind_int P w i t
  | inr x => obtain ⟨t, e⟩ := (show ∃ t, u = Value.str x t from r); subst e; exact mixKind_str P w x t
theorem kV_inj {a b : Key} (e : kV a = kV b) : a = b := by
  cases a with
  | inl i => cases b with
    | inl j => have e' : V.int i = V.int j := e; injection e' with e'; rw [e']
    | inr y => exact nomatch (show V.int i = V.str y from e)
  | inr x => cases b with
    | inl j => exact nomatch (show V.str x = V.int j from e)
    | inr y => have e' : V.str x = V.str y := e; injection e' with e'; rw [e']
theorem kVs_inj : ∀ {a b : List Key}, a.map kV = b.map kV → a = b
  | [], [], _ => rfl
  | [], _ :: _, e => by simp at e
  | _ :: _, [], e => by simp at e
  | x :: xs, y :: ys, e => by
    rw [List.map_cons, List.map_cons] at e
    injection e with e1 e2
    rw [kV_inj e1, kVs_inj e2]
theorem items_are {P : Program} {w : World} : ∀ {ks : List Key} {us : List Value}, Vals (ks.map kV) us → ItemsAre (mixKind P w) ks us
  | [], _, r => by rw [List.map_nil] at r; cases r; exact .nil
  | k :: ks, _, r => by
    rw [List.map_cons] at r
    cases r with
    | cons h t => exact .cons (kV_is h) (items_are t)

/-- raw entries of a dict with tuple keys -/
abbrev KT (H : Hp) : List (List Key × V) → List (List Key × Addr × Value) → Prop := Paired fun p q => p.1 = q.1 ∧ H q.2.1 = some (.tup (p.1.map kV)) ∧ RelV p.2 q.2.2
theorem KT.val {H : Hp} {kvs : List (List Key × V)} {xs : List (List Key × Addr × Value)} (r : KT H kvs xs) (k : List Key) : RelO (valV kvs k) ((atKey xs k).map (·.2)) := by
  induction r with
  | nil => exact True.intro
  | @cons p q ps qs h t ih =>
    obtain ⟨h1, _, h2⟩ := h
    by_cases e : p.1 = k
    · have e' : q.1 = k := h1.symm.trans e
      have b : atKey (q :: qs) k = some q.2 := by simp [atKey, List.find?_cons, e']
      rw [valV_pos e, b]; exact h2
    · have e' : ¬ q.1 = k := fun z => e (h1.trans z)
      have b : atKey (q :: qs) k = atKey qs k := by simp [atKey, List.find?_cons, e']
      rw [valV_neg e, b]; exact ih
theorem KT.repl {H : Hp} {kvs : List (List Key × V)} {xs : List (List Key × Addr × Value)} (r : KT H kvs xs) (k : List Key) {y : V} {u : Value} (ry : RelV y u) :
    KT H (kvs.map fun kv => if kv.1 = k then (kv.1, y) else kv) (xs.map (putAt k u)) := by
  induction r with
  | nil => exact .nil
  | @cons p q ps qs h t ih =>
    rw [List.map_cons, List.map_cons]
    refine .cons ?_ ih
    obtain ⟨h1, h2, h3⟩ := h
    unfold putAt
    by_cases e : p.1 = k
    · rw [if_pos e, if_pos (h1.symm.trans e)]; exact ⟨h1, h2, ry⟩
    · rw [if_neg e, if_neg (fun z => e (h1.trans z))]; exact ⟨h1, h2, h3⟩
theorem KT.put {H : Hp} {kvs : List (List Key × V)} {xs : List (List Key × Addr × Value)} (r : KT H kvs xs) (k : List Key) {b : Addr} {y : V} {u : Value} (hb : H b = some (.tup (k.map kV))) (ry : RelV y u) :
    KT H (putK kvs k y) (storedH xs k b u) := by
  have e : (kvs.any fun kv => decide (kv.1 = k)) = (atKey xs k).isSome := by
    rw [valV_any, (r.val k).isSome_eq, Option.isSome_map]
  unfold putK storedH
  rw [e]
  by_cases q : (atKey xs k).isSome = true
  · rw [if_pos q, if_pos q]; exact r.repl k ry
  · rw [if_neg q, if_neg q]; exact Paired.snoc r ⟨rfl, hb, ry⟩
theorem KT.keeps {H H' : Hp} {kvs : List (List Key × V)} {xs : List (List Key × Addr × Value)} (r : KT H kvs xs) (ht : ∀ b ys, H b = some (.tup ys) → H' b = some (.tup ys)) : KT H' kvs xs :=
  Paired.mapP r fun _ _ z => ⟨z.1, ht _ _ z.2.1, z.2.2⟩

section
variable {P : Program} {w : World} {H : Hp} {h : Heap} {a : Addr}
theorem rd_of {u : HO} (ok : HOk P w H h) (e : Rd H a u) : ObjOk P w H h a u := e.ok ok
theorem dk_rd {kvs : List (Key × V)} (ok : HOk P w H h) (e : Rd H a (.dK kvs)) : kvs.length ≤ sizeLine ∧ (a == sysModules) = false ∧ ∃ vs, KV kvs vs ∧ h.DictOf (mixKind P w) a vs :=
  show ObjOk P w H h a (.dK kvs) from rd_of ok e
theorem dk_of {kvs : List (Key × V)} (ok : HOk P w H h) (e : H a = some (.dK kvs)) : kvs.length ≤ sizeLine ∧ (a == sysModules) = false ∧ ∃ vs, KV kvs vs ∧ h.DictOf (mixKind P w) a vs := dk_rd ok (.inl e)
/-- a tracked tuple of ints and texts is a key -/
theorem key_of {ks : List Key} (ok : HOk P w H h) (e : H a = some (.tup (ks.map kV))) : (tupleKind (mixKind P w)).is h ks a := by
  obtain ⟨_, its, r, o, h1, h2, n, h3⟩ := (show ObjOk P w H h a (.tup (ks.map kV)) from ok a _ e)
  exact ⟨o, its.toArray, n, h1, h2, h3, by simpa using items_are r⟩
theorem dt_rd {kvs : List (List Key × V)} (ok : HOk P w H h) (e : Rd H a (.dT kvs)) : kvs.length ≤ sizeLine ∧ (a == sysModules) = false ∧
    ∃ xs, KT H kvs xs ∧ h.DictOfH (tupleKind (mixKind P w)) a xs := by
  obtain ⟨z, y, xs, r, o, es, ep, h1, h2, h3, h4, h5⟩ := (show ObjOk P w H h a (.dT kvs) from rd_of ok e)
  refine ⟨z, y, xs, r, o, es, ep, h1, h2, h3, h4, fun x hx => ?_, h5⟩
  have all : ∀ {l : List (List Key × V)} {m : List (List Key × Addr × Value)}, KT H l m → ∀ x ∈ m, (tupleKind (mixKind P w)).is h x.1 x.2.1 := by
    intro l m q
    induction q with
    | nil => intro x hx; exact nomatch hx
    | @cons p q ps qs hq t ih =>
      intro x hx
      rcases List.mem_cons.mp hx with e | hx
      · subst e
        exact key_of ok (by rw [← hq.1]; exact hq.2.1)
      · exact ih x hx
  exact all r x hx
theorem dt_of {kvs : List (List Key × V)} (ok : HOk P w H h) (e : H a = some (.dT kvs)) : kvs.length ≤ sizeLine ∧ (a == sysModules) = false ∧
    ∃ xs, KT H kvs xs ∧ h.DictOfH (tupleKind (mixKind P w)) a xs := dt_rd ok (.inl e)
end

/-- what the dict at a holds at the key y -/
def DGet (H : Hp) (a : Addr) (y : V) (r : Option V) : Prop :=
  (∃ kvs k, Rd H a (.dK kvs) ∧ y = kV k ∧ r = valV kvs k) ∨ ∃ kvs k b, Rd H a (.dT kvs) ∧ y = .ref b ∧ H b = some (.tup (k.map kV)) ∧ r = valV kvs k
/-- the heap behind a[y] = v -/
def DPut (H : Hp) (a : Addr) (y v : V) (H' : Hp) : Prop :=
  (∃ kvs k, H a = some (.dK kvs) ∧ y = kV k ∧ kvs.length < sizeLine ∧ H' = upd H a (.dK (putK kvs k v))) ∨
  ∃ kvs k b, H a = some (.dT kvs) ∧ y = .ref b ∧ H b = some (.tup (k.map kV)) ∧ kvs.length < sizeLine ∧ H' = upd H a (.dT (putK kvs k v))
theorem DGet.k {H : Hp} {a : Addr} {kvs : List (Key × V)} {k : Key} (e : H a = some (.dK kvs)) : DGet H a (kV k) (valV kvs k) := .inl ⟨kvs, k, .inl e, rfl, rfl⟩
theorem DGet.t {H : Hp} {a b : Addr} {kvs : List (List Key × V)} {k : List Key} (e : H a = some (.dT kvs)) (eb : H b = some (.tup (k.map kV))) : DGet H a (.ref b) (valV kvs k) := .inr ⟨kvs, k, b, .inl e, rfl, eb, rfl⟩
theorem DPut.k {H : Hp} {a : Addr} {kvs : List (Key × V)} {k : Key} {v : V} (e : H a = some (.dK kvs)) (hl : kvs.length < sizeLine) : DPut H a (kV k) v (upd H a (.dK (putK kvs k v))) := .inl ⟨kvs, k, e, rfl, hl, rfl⟩
theorem DPut.t {H : Hp} {a b : Addr} {kvs : List (List Key × V)} {k : List Key} {v : V} (e : H a = some (.dT kvs)) (eb : H b = some (.tup (k.map kV))) (hl : kvs.length < sizeLine) :
    DPut H a (.ref b) v (upd H a (.dT (putK kvs k v))) := .inr ⟨kvs, k, b, e, rfl, eb, hl, rfl⟩


section
variable {X : Cx} {pins : List (Addr × Obj)} {σ : St} {H : Hp} {s : Shared} {a : Addr} {y v : V} {u r : Value} {o : Option V} {A : Around} {E : Value → Shared → Prop}

theorem Inv.big (I : Inv X pins σ H s) : sysModules < s.heap.objs.size := by
  have h : mainGlobals < s.heap.objs.size := (I.mod.glob.keeps I.bk).lt
  exact Nat.lt_trans (by decide) h

/-- d[y], there -/
theorem d_getItem {Q : Value → Shared → Prop} (hu : A.units + 1 < cLine) (I : Inv X pins σ H s) (g : DGet H a y (some v)) (ry : RelV y u) (h : ∀ w' s', Inv X pins σ H s' → RelV v w' → Q w' s') :
    wpAny (model X.prog X.w) A (getItem (.ref a) u) Q E s := by
  rcases g with ⟨kvs, k, e, ey, l⟩ | ⟨kvs, k, b, e, ey, eb, l⟩
  · subst ey
    obtain ⟨z, hd, vs, rel, dd⟩ := dk_rd I.hok e
    obtain ⟨w', hw, rw'⟩ := RelO.some_of (v := v) (o := valueAt vs k) (by rw [l]; exact rel.val k)
    exact wpAny_getItem_of (kV_is ry) dd.mapOf hw (h w' _ (I.tok _) rw')
  · subst ey
    cases (show u = Value.ref b from ry)
    obtain ⟨z, hd, xs, rel, dd⟩ := dt_rd I.hok e
    obtain ⟨w', hw, rw'⟩ := RelO.some_of (v := v) (o := (atKey xs k).map (·.2)) (by rw [l]; exact rel.val k)
    obtain ⟨p, hp, hp2⟩ := Option.map_eq_some_iff.mp hw
    refine wpAny_getItem_heap (tupleKind_room_in1 hu) (key_of I.hok eb) dd hp ?_
    rw [hp2]
    exact h w' _ (I.tok _) rw'
/-- y in d -/
theorem d_in {Q : Value → Shared → Prop} (hu : A.units + 1 < cLine) (I : Inv X pins σ H s) (g : DGet H a y o) (ry : RelV y u) (h : ∀ s', Inv X pins σ H s' → Q (.bool o.isSome) s') :
    wpAny (model X.prog X.w) A (compareOp .In u (.ref a)) Q E s := by
  rcases g with ⟨kvs, k, e, ey, l⟩ | ⟨kvs, k, b, e, ey, eb, l⟩
  · subst ey
    obtain ⟨z, hd, vs, rel, dd⟩ := dk_rd I.hok e
    refine wpAny_in_of (kV_is ry) hd dd.mapOf ?_
    rw [← (rel.val k).isSome_eq, ← l]
    exact h _ (I.tok _)
  · subst ey
    cases (show u = Value.ref b from ry)
    obtain ⟨z, hd, xs, rel, dd⟩ := dt_rd I.hok e
    refine wpAny_in_heap (tupleKind_room_in1 hu) (key_of I.hok eb) hd dd ?_
    have q := (rel.val k).isSome_eq
    rw [Option.isSome_map] at q
    rw [← q, ← l]
    exact h _ (I.tok _)
theorem d_notIn {Q : Value → Shared → Prop} (hu : A.units + 1 < cLine) (I : Inv X pins σ H s) (g : DGet H a y o) (ry : RelV y u) (h : ∀ s', Inv X pins σ H s' → Q (.bool (!o.isSome)) s') :
    wpAny (model X.prog X.w) A (compareOp .NotIn u (.ref a)) Q E s := by
  rcases g with ⟨kvs, k, e, ey, l⟩ | ⟨kvs, k, b, e, ey, eb, l⟩
  · subst ey
    obtain ⟨z, hd, vs, rel, dd⟩ := dk_rd I.hok e
    refine wpAny_notIn_of (kV_is ry) hd dd.mapOf ?_
    rw [← (rel.val k).isSome_eq, ← l]
    exact h _ (I.tok _)
  · subst ey
    cases (show u = Value.ref b from ry)
    obtain ⟨z, hd, xs, rel, dd⟩ := dt_rd I.hok e
    refine wpAny_notIn_heap (tupleKind_room_in1 hu) (key_of I.hok eb) hd dd ?_
    have q := (rel.val k).isSome_eq
    rw [Option.isSome_map] at q
    rw [← q, ← l]
    exact h _ (I.tok _)
/-- a dict's object is replaced -/
theorem d_write {h' : Heap} {t' : Nat} {ob : HO} (I : Inv X pins σ H s) (mu : Mut (H a)) (hs : Heap.SameBut a s.heap h') (he : ∃ q, h'.get? a = some q) (new : ObjOk X.prog X.w (upd H a ob) h' a ob) :
    Inv X pins σ (upd H a ob) { s with heap := h', toks := t' } :=
  I.write (x := a) (e := a) mu (.inl rfl) (fun b q hb z => (hs.2 b hb).trans z) he new
theorem dk_new {P : Program} {w : World} {H' : Hp} {h' : Heap} {kvs : List (Key × V)} {vs : List (Key × Value)} (z : kvs.length ≤ sizeLine) (hd : (a == sysModules) = false) (rel : KV kvs vs) (dd : h'.DictOf (mixKind P w) a vs) :
    ObjOk P w H' h' a (.dK kvs) := ⟨z, hd, vs, rel, dd⟩
/-- d[y] = v -/
theorem d_setItem {H' : Hp} {Q : Unit → Shared → Prop} (hu : A.units + 1 < cLine) (I : Inv X pins σ H s) (g : DPut H a y v H') (ry : RelV y u) (rv : RelV v r) (h : ∀ s', Inv X pins σ H' s' → Q () s') :
    wpAny (model X.prog X.w) A (setItem (.ref a) u r) Q E s := by
  rcases g with ⟨kvs, k, e, ey, l, eH⟩ | ⟨kvs, k, b, e, ey, eb, l, eH⟩
  · subst ey eH
    obtain ⟨z, hd, vs, rel, dd⟩ := dk_of I.hok e
    have hz : vs.length ≤ sizeLine := by rw [← rel.length]; exact z
    have hl : (putK kvs k v).length ≤ sizeLine := by have := length_putK kvs k v; omega
    refine wpAny_setItem_pairs (hsz := hz) (kV_is ry) dd fun h' dd' hs => h _ ?_
    have he : ∃ q, h'.get? a = some q := let ⟨q, _, _, hq, _⟩ := dd'; ⟨q, hq⟩
    exact d_write I (by rw [e]; exact True.intro) hs he (dk_new hl hd (rel.put k rv) dd')
  · subst ey eH
    cases (show u = Value.ref b from ry)
    obtain ⟨z, hd, xs, rel, dd⟩ := dt_of I.hok e
    have hz : xs.length ≤ sizeLine := by rw [← Paired.length rel]; exact z
    have hl : (putK kvs k v).length ≤ sizeLine := by have := length_putK kvs k v; omega
    refine wpAny_setItem_heap (hsz := hz) (tupleKind_room_in1 hu) (key_of I.hok eb) dd fun h' dd' hs => h _ ?_
    obtain ⟨q, es, ep, hq, h2, h3, h4, _, h5⟩ := dd'
    refine d_write I (by rw [e]; exact True.intro) hs ⟨q, hq⟩ ⟨hl, hd, _, (rel.put k eb rv).keeps fun c ys ec => ?_, q, es, ep, hq, h2, h3, h4, h5⟩
    rw [upd_ne (ne_of ec e (fun z => nomatch z))]
    exact ec
end

section
variable {X : Cx} {pins : List (Addr × Obj)} {σ : St} {H : Hp} {s : Shared} {a : Addr} {kvs : List (Key × V)} {k : Key} {u : Value} {A : Around} {E : Value → Shared → Prop}
/-- del d[k] -/
theorem d_delItem {Q : Unit → Shared → Prop} (I : Inv X pins σ H s) (e : H a = some (.dK kvs)) (ry : RelV (kV k) u) (l : (valV kvs k).isSome = true) (h : ∀ s', Inv X pins σ (upd H a (.dK (dropK kvs k))) s' → Q () s') :
    wpAny (model X.prog X.w) A (delItem (.ref a) u) Q E s := by
  obtain ⟨z, hd, vs, rel, dd⟩ := dk_of I.hok e
  refine wpAny_delItem_slot dd.typeIs (by decide) PySem.F.slot_dict_delitem
    (call_meetsIn PySem.F.slot_dict_delitem dd.typeIs PySem.F.entry_dict_delitem (PySem.F.args_dict_delitem_2 _ _) (meets_dict_delitem_pairs (mixKind X.prog X.w) a (kV_is ry)) ⟨vs, dd, by rw [← rel.length]; exact z, by rw [← (rel.val k).isSome_eq]; exact l, fun h' dd' hs => h _ ?_⟩)
  have he : ∃ q, h'.get? a = some q := let ⟨q, _, _, hq, _⟩ := dd'; ⟨q, hq⟩
  exact d_write I (by rw [e]; exact True.intro) hs he (dk_new (Nat.le_trans (dropK_le kvs k) z) hd (rel.drop k) dd')
/-- d.pop(k[, x]), there -/
theorem d_pop {v : V} {more : List Value} {Q : Value → Shared → Prop} (I : Inv X pins σ H s) (e : H a = some (.dK kvs)) (ry : RelV (kV k) u) (l : valV kvs k = some v) (hm : more = [] ∨ ∃ x, more = [x])
    (h : ∀ w' s', Inv X pins σ (upd H a (.dK (dropK kvs k))) s' → RelV v w' → Q w' s') : wpAny (model X.prog X.w) A (call (.builtin "dict.pop") (.ref a :: u :: more)) Q E s := by
  obtain ⟨z, hd, vs, rel, dd⟩ := dk_of I.hok e
  obtain ⟨w', hw, rw'⟩ := RelO.some_of (v := v) (o := valueAt vs k) (by rw [← l]; exact rel.val k)
  have hp : (keyPart u).isSome = true := by
    cases k with
    | inl i => obtain ⟨t, q⟩ := (show ∃ t, u = Value.int i t from ry); subst q; rfl
    | inr x => obtain ⟨t, q⟩ := (show ∃ t, u = Value.str x t from ry); subst q; rfl
  have ha : argsOk "dict.pop" ⟨.ref a :: u :: more, []⟩ := by
    rcases hm with q | ⟨x, q⟩
    · subst q; exact PySem.F.args_dict_pop_2 _ _
    · subst q; exact PySem.F.args_dict_pop_3 _ _ _
  refine call_meetsIn PySem.F.slot_dict_pop dd.typeIs PySem.F.entry_dict_pop ha (meets_dict_pop_there (mixKind X.prog X.w) a (kV_is ry) more hm hp)
    ⟨vs, w', dd, by rw [← rel.length]; exact z, hw, fun h' dd' hs => h w' _ ?_ rw'⟩
  have he : ∃ q, h'.get? a = some q := let ⟨q, _, _, hq, _⟩ := dd'; ⟨q, hq⟩
  exact d_write I (by rw [e]; exact True.intro) hs he (dk_new (Nat.le_trans (dropK_le kvs k) z) hd (rel.drop k) dd')
/-- d.pop(k, x), not there -/
theorem d_popD {r : Value} {Q : Value → Shared → Prop} (I : Inv X pins σ H s) (e : H a = some (.dK kvs)) (ry : RelV (kV k) u) (l : valV kvs k = none) (h : ∀ s', Inv X pins σ H s' → Q r s') :
    wpAny (model X.prog X.w) A (call (.builtin "dict.pop") [.ref a, u, r]) Q E s := by
  obtain ⟨z, hd, vs, rel, dd⟩ := dk_of I.hok e
  have hn : valueAt vs k = none := RelO.none_of (by rw [← l]; exact rel.val k)
  have hp : (keyPart u).isSome = true := by
    cases k with
    | inl i => obtain ⟨t, q⟩ := (show ∃ t, u = Value.int i t from ry); subst q; rfl
    | inr x => obtain ⟨t, q⟩ := (show ∃ t, u = Value.str x t from ry); subst q; rfl
  exact call_meetsIn PySem.F.slot_dict_pop dd.typeIs PySem.F.entry_dict_pop (PySem.F.args_dict_pop_3 _ _ _) (meets_dict_pop_default (mixKind X.prog X.w) a (kV_is ry) hd hp r) ⟨vs, dd, hn, h _ (I.tok _)⟩
/-- d.clear() -/
theorem d_clear {Q : Value → Shared → Prop} (I : Inv X pins σ H s) (e : H a = some (.dK kvs)) (h : ∀ s', Inv X pins σ (upd H a (.dK [])) s' → Q .none s') : wpAny (model X.prog X.w) A (call (.builtin "dict.clear") [.ref a]) Q E s := by
  obtain ⟨z, hd, vs, rel, dd⟩ := dk_of I.hok e
  refine call_meetsIn PySem.F.slot_dict_clear dd.typeIs PySem.F.entry_dict_clear (PySem.F.args_dict_clear_1 _) (meets_dict_clear (mixKind X.prog X.w) a) ⟨vs, dd, by rw [← rel.length]; exact z, fun h' dd' hs => h _ ?_⟩
  have he : ∃ q, h'.get? a = some q := let ⟨q, _, _, hq, _⟩ := dd'; ⟨q, hq⟩
  exact d_write (t' := s.toks) I (by rw [e]; exact True.intro) hs he (dk_new (Nat.zero_le _) hd .nil dd')
/-- len(d) -/
theorem d_len {Q : Value → Shared → Prop} (I : Inv X pins σ H s) (e : Rd H a (.dK kvs)) (h : ∀ t s', Inv X pins σ H s' → Q (.int kvs.length t) s') : wpAny (model X.prog X.w) A (call (.builtin "len") [.ref a]) Q E s := by
  obtain ⟨z, hd, vs, rel, dd⟩ := dk_rd I.hok e
  refine call_len_dict hd dd (by rw [← rel.length]; rw [sizeLine_eq] at z; omega) ?_
  rw [← rel.length]
  exact h _ _ (I.tok _)
/-- if d -/
theorem d_truth {Q : Bool → Shared → Prop} (I : Inv X pins σ H s) (e : Rd H a (.dK kvs)) (h : ∀ s', Inv X pins σ H s' → Q (!kvs.isEmpty) s') : wpAny (model X.prog X.w) A (truthy (.ref a)) Q E s := by
  obtain ⟨z, hd, vs, rel, dd⟩ := dk_rd I.hok e
  refine wpAny_truthy_dict hd dd (by rw [← rel.length]; rw [sizeLine_eq] at z; omega) ?_
  have q : kvs.isEmpty = vs.isEmpty := by cases rel <;> rfl
  rw [← q]
  exact h _ (I.tok _)
end


/-! ### readings and rules -/
/-- the element of a subscription, not a slice -/
def NoSl (i : Expr) : Prop := ∀ ov iv, subscripted i false ov iv = operate [ov, iv] (getItem ov iv)
theorem subD_of {prog : Program} {w : World} {A : Around} {E : Value → Shared → Prop} {s : Shared} {env : Env} {value slice : Expr} {pos : Pos} {T id : String} {Q : Value → Shared → Prop}
    (hl : typeLookup (.type T) "__getitem__" = pure (some (.builtin id))) (hs : NoSl slice)
    (h : wpAny (model prog w) A (eval value env) (fun o s₁ => wpAny (model prog w) A (eval slice env) (fun i s₂ => s₂.TypeIs o T ∧ wpAny (model prog w) A (getItem o i) Q E s₂) E s₁) E s) :
    wpAny (model prog w) A (eval (.Subscript value slice pos) env) Q E s := by
  refine Subscript_ (wpAny_mono h (fun o s₁ h₁ => wpAny_mono h₁ (fun i s₂ h₂ => ?_) fun _ _ x => x) fun _ _ x => x)
  obtain ⟨hT, h₂⟩ := h₂
  unfold subscriptTail
  refine wpAny_bind ?_
  rw [getitemInPython_of_ne hT.not_modules]
  refine wpAny_bind (wpAny_specialOf hT hl ?_)
  have fin : wpAny (model prog w) A (subscripted slice false o i) (fun r s₃ => wpAny (model prog w) A (letTemporaryGo value o r >>= fun _ => pure r) Q E s₃) E s₂ := by
    rw [hs o i]
    exact wpAny_operating (wpAny_mono h₂ (fun r s₃ h₃ => wpAny_bind (wpAny_letTemporaryGo (wpAny_pure h₃))) fun _ _ x => x)
  first
    | exact wpAny_pure (wpAny_bind fin)
    | exact wpAny_bind (wpAny_pure (wpAny_bind fin))
    | exact wpAny_bind fin

theorem dict_typeIs {X : Cx} {pins : List (Addr × Obj)} {σ : St} {H : Hp} {s : Shared} {a : Addr} {y : V} {o : Option V} (I : Inv X pins σ H s) (g : DGet H a y o) : s.TypeIs (.ref a) "dict" := by
  rcases g with ⟨kvs, k, e, _, _⟩ | ⟨kvs, k, b, e, _, _, _⟩
  · obtain ⟨_, _, vs, _, dd⟩ := dk_rd I.hok e
    exact dd.typeIs
  · obtain ⟨_, _, xs, _, dd⟩ := dt_rd I.hok e
    exact dd.typeIs
theorem dict_noDict {X : Cx} {pins : List (Addr × Obj)} {σ : St} {H : Hp} {s : Shared} {a : Addr} {y : V} {o : Option V} (I : Inv X pins σ H s) (g : DGet H a y o) :
    ∀ b, Value.ref a = .ref b → ∃ ob, s.heap.get? b = some ob ∧ ob.dict = none := fun b q => by
  cases q
  rcases g with ⟨kvs, k, e, _, _⟩ | ⟨kvs, k, b, e, _, _, _⟩
  · obtain ⟨_, _, vs, _, ob, _, _, h1, h2, _⟩ := dk_rd I.hok e
    exact ⟨ob, h1, h2.2.1⟩
  · obtain ⟨_, _, xs, _, ob, _, _, h1, h2, _⟩ := dt_rd I.hok e
    exact ⟨ob, h1, h2.2.1⟩

/-- d[y] -/
def tDGet (td ty : TE) : TE := fun σ H Q => td σ H fun x H1 => ty σ H1 fun y H2 => ∃ a v, x = .ref a ∧ DGet H2 a y (some v) ∧ Q v H2
/-- y in d, y not in d -/
def tDIn (ty td : TE) : TE := fun σ H Q => ty σ H fun y H1 => td σ H1 fun x H2 => ∃ a o, x = .ref a ∧ DGet H2 a y o ∧ Q (.bl o.isSome) H2
def tDNotIn (ty td : TE) : TE := fun σ H Q => ty σ H fun y H1 => td σ H1 fun x H2 => ∃ a o, x = .ref a ∧ DGet H2 a y o ∧ Q (.bl (!o.isSome)) H2
/-- d[y] = v -/
def sDPut (td ty tv : TE) : TS := fun D σ H => tv σ H fun v H1 => td σ H1 fun x H2 => ty σ H2 fun y H3 => ∃ a H4, x = .ref a ∧ DPut H3 a y v H4 ∧ D.nx σ H4
/-- d[y] op= v -/
def sDAug (td ty tv : TE) (rd : V → V → Hp → VK → Prop) : TS := fun D σ H => td σ H fun x H1 => ty σ H1 fun y H2 => ∃ a v, x = .ref a ∧ DGet H2 a y (some v) ∧
  tv σ H2 fun y2 H3 => rd v y2 H3 fun z H4 => ∃ H5, DPut H4 a y z H5 ∧ D.nx σ H5
/-- del d[y] -/
def sDDel (td ty : TE) : TS := fun D σ H => td σ H fun x H1 => ty σ H1 fun y H2 => ∃ a kvs k, x = .ref a ∧ H2 a = some (.dK kvs) ∧ y = kV k ∧ (valV kvs k).isSome = true ∧ D.nx σ (upd H2 a (.dK (dropK kvs k)))

section
variable {X : Cx} {o i e value : Expr} {pos pos' tpos : Pos} {td ty tv : TE}
theorem pe_dget (hu : X.A.units + 1 < cLine) (ho : PE X o td) (hi : PE X i ty) (hs : NoSl i) : PE X (.Subscript o i pos) (tDGet td ty) := by
  intro pins s σ H Q I h
  refine subD_of PySem.F.slot_dict_getitem.lookup hs (thn (ho pins s σ H _ I h) fun u s1 ⟨x, H1, I1, rx, q1⟩ => thn (hi pins s1 σ H1 _ I1 q1) fun iv s2 ⟨y, H2, I2, ry, a, v, ex, g, q2⟩ => ?_)
  subst ex
  obtain rfl : u = Value.ref a := rx
  exact ⟨dict_typeIs I2 g, d_getItem hu I2 g ry fun w' s3 I3 rw' => ⟨v, H2, I3, rw', q2⟩⟩
theorem pc_din (hu : X.A.units + 1 < cLine) (hi : PE X i ty) (ho : PE X o td) : PC X .In i o (tDIn ty td) := by
  intro pins s σ H Q I h
  refine thn (hi pins s σ H _ I h) fun iv s1 ⟨y, H1, I1, ry, q1⟩ => thn (ho pins s1 σ H1 _ I1 q1) fun u s2 ⟨x, H2, I2, rx, a, ov, ex, g, q2⟩ => ?_
  subst ex
  obtain rfl : u = Value.ref a := rx
  exact d_in hu I2 g ry fun s3 I3 => ⟨.bl ov.isSome, H2, I3, rfl, q2⟩
theorem pc_dnotin (hu : X.A.units + 1 < cLine) (hi : PE X i ty) (ho : PE X o td) : PC X .NotIn i o (tDNotIn ty td) := by
  intro pins s σ H Q I h
  refine thn (hi pins s σ H _ I h) fun iv s1 ⟨y, H1, I1, ry, q1⟩ => thn (ho pins s1 σ H1 _ I1 q1) fun u s2 ⟨x, H2, I2, rx, a, ov, ex, g, q2⟩ => ?_
  subst ex
  obtain rfl : u = Value.ref a := rx
  exact d_notIn hu I2 g ry fun s3 I3 => ⟨.bl (!ov.isSome), H2, I3, rfl, q2⟩
theorem ps_dput (hu : X.A.units + 1 < cLine) (ho : PE X o td) (hi : PE X i ty) (hv : PE X value tv) (hs : swapsWith value (some (.Subscript o i pos')) pos.line X.env = pure false) :
    PS X (.Assign [.Subscript o i pos'] value pos) (sDPut td ty tv) := by
  intro pins s σ H D I h
  refine wpAny_Assign_Subscript (thn (hv pins s σ H _ I h) fun r s1 ⟨v, H1, I1, rv, q1⟩ => thn (ho pins s1 σ H1 _ I1 q1) fun u s2 ⟨x, H2, I2, rx, q2⟩ => thn (hi pins s2 σ H2 _ I2 q2) fun iv s3 ⟨y, H3, I3, ry, a, H4, ex, g, q3⟩ => ?_) hs
  subst ex
  obtain rfl : u = Value.ref a := rx
  exact d_setItem hu I3 g ry rv fun s4 I4 => ⟨σ, H4, I4, q3⟩
theorem ps_daug {op : Operator} {rd : V → V → Hp → VK → Prop} (hu : X.A.units + 1 < cLine) (ho : PE X o td) (hi : PE X i ty) (hv : PE X value tv) (hop : InOp X op rd)
    (ha : ∀ ov iv new, augStore i ov iv new = (do holding [new, ov, iv] (setItem ov iv new); release [new, ov, iv] []; pure .next)) : PS X (.AugAssign (.Subscript o i tpos) op value pos) (sDAug td ty tv rd) := by
  intro pins s σ H D I h
  refine wpAny_AugAssign_SubscriptAny (thn (ho pins s σ H _ I h) fun u s1 ⟨x, H1, I1, rx, q1⟩ => thn (hi pins s1 σ H1 _ I1 q1) fun iv s2 ⟨y, H2, I2, ry, a, v, ex, g, q2⟩ => ?_) ha
  subst ex
  obtain rfl : u = Value.ref a := rx
  refine d_getItem hu I2 g ry fun w' s3 I3 rw' => thn (hv pins s3 σ H2 _ I3 q2) fun w2 s4 ⟨y2, H3, I4, ry2, q3⟩ => thn (hop pins s4 σ H3 v y2 w' w2 _ I4 rw' ry2 q3) fun w3 s5 ⟨z, H4, I5, rz, H5, g5, q4⟩ => ?_
  exact d_setItem hu I5 g5 ry rz fun s6 I6 => ⟨σ, H5, I6, q4⟩
theorem ps_ddel (ho : PE X o td) (hi : PE X i ty) : PS X (.Delete [.Subscript o i tpos] pos) (sDDel td ty) := by
  intro pins s σ H D I h
  refine wpAny_Delete (wpAny_deleteEach_cons (wpAny_delete_Subscript (thn (ho pins s σ H _ I h) fun u s1 ⟨x, H1, I1, rx, q1⟩ => thn (hi pins s1 σ H1 _ I1 q1) fun iv s2 ⟨y, H2, I2, ry, a, kvs, k, ex, e, ey, l, q2⟩ => ?_)))
  subst ex ey
  obtain rfl : u = Value.ref a := rx
  exact d_delItem I2 e ry l fun s3 I3 => wpAny_deleteEach_nil ⟨σ, _, I3, q2⟩
end


/-! ### displays -/
theorem dk_empty {P : Program} {w : World} {H : Hp} (h : Heap) (hb : sysModules < h.objs.size) : ObjOk P w H (h.push { cls := .type "dict", data := .dict #[] }) h.objs.size (.dK []) :=
  ⟨Nat.zero_le _, beq_eq_false_iff_ne.mpr (Ne.symm (Nat.ne_of_lt hb)), [], .nil, Heap.DictOf.new h⟩
theorem dt_empty {P : Program} {w : World} {H : Hp} (h : Heap) (hb : sysModules < h.objs.size) : ObjOk P w H (h.push { cls := .type "dict", data := .dict #[] }) h.objs.size (.dT []) :=
  ⟨Nat.zero_le _, beq_eq_false_iff_ne.mpr (Ne.symm (Nat.ne_of_lt hb)), [], .nil, _, #[], 0, Heap.get?_push_size _ rfl, ⟨rfl, rfl, rfl⟩, rfl, rfl, List.nodup_nil⟩
/-- {}, to be a dict of the kind that is wanted -/
def tDNewK : TE := fun _ H Q => ∀ p, H p = none → Q (.ref p) (upd H p (.dK []))
def tDNewT : TE := fun _ H Q => ∀ p, H p = none → Q (.ref p) (upd H p (.dT []))
section
variable {X : Cx} {pos : Pos}
theorem pe_dnewK : PE X (.Dict [] [] pos) tDNewK := fun pins s σ H Q I h =>
  wpAny_Dict_empty ⟨.ref s.heap.objs.size, _, I.laid (a := s.heap.objs.size) (o := .dK []) (t' := s.toks) (fun _ _ q => Heap.get?_push_of_some _ q) (Nat.le_refl _) (dk_empty s.heap I.big), rfl, h _ (I.hok.fresh (Nat.le_refl _))⟩
theorem pe_dnewT : PE X (.Dict [] [] pos) tDNewT := fun pins s σ H Q I h =>
  wpAny_Dict_empty ⟨.ref s.heap.objs.size, _, I.laid (a := s.heap.objs.size) (o := .dT []) (t' := s.toks) (fun _ _ q => Heap.get?_push_of_some _ q) (Nat.le_refl _) (dt_empty s.heap I.big), rfl, h _ (I.hok.fresh (Nat.le_refl _))⟩
end

/-- the pairs of a display, from the left -/
def tPairs : List (TE × TE) → St → Hp → (List (V × V) → Hp → Prop) → Prop
  | [], _, H, Q => Q [] H
  | (tk, tv) :: r, σ, H, Q => tk σ H fun x H1 => tv σ H1 fun y H2 => tPairs r σ H2 fun ps H3 => Q ((x, y) :: ps) H3
abbrev VV : List (V × V) → List (Value × Value) → Prop := Paired fun p q => RelV p.1 q.1 ∧ RelV p.2 q.2
def PPs (X : Cx) (pos : Pos) (keys : List (Option Expr)) (values : List Expr) (trs : List (TE × TE)) : Prop :=
  ∀ (pins : List (Addr × Obj)) (s : Shared) (σ : St) (H : Hp) (Q : List (V × V) → Hp → Prop), Inv X pins σ H s → tPairs trs σ H Q →
    wpAny (model X.prog X.w) X.A (evalPairs (pairTrees keys values X.env pos)) (fun vs s' => ∃ ps H', Inv X pins σ H' s' ∧ VV ps vs ∧ Q ps H') X.xe s
theorem pps_nil {X : Cx} {pos : Pos} : PPs X pos [] [] [] := fun pins s σ H Q I h => pairTrees_nil_walk ⟨[], H, I, .nil, h⟩
theorem pps_cons {X : Cx} {pos : Pos} {k v : Expr} {ks : List (Option Expr)} {vs : List Expr} {tk tv : TE} {trs : List (TE × TE)} (hk : PE X k tk) (hv : PE X v tv) (hr : PPs X pos ks vs trs) :
    PPs X pos (some k :: ks) (v :: vs) ((tk, tv) :: trs) := fun pins s σ H Q I h =>
  pairTrees_cons_walk (thn (hk pins s σ H _ I h) fun u s1 ⟨x, H1, I1, rx, q1⟩ => thn (hv pins s1 σ H1 _ I1 q1) fun w2 s2 ⟨y, H2, I2, ry, q2⟩ =>
    thn (hr pins s2 σ H2 _ I2 q2) fun ws s3 ⟨ps, H3, I3, rel, q3⟩ => ⟨(x, y) :: ps, H3, I3, .cons ⟨rx, ry⟩ rel, q3⟩)

def mergeK (kvs more : List (Key × V)) : List (Key × V) := more.foldl (fun acc kv => putK acc kv.1 kv.2) kvs
theorem KV.merge : ∀ {more : List (Key × V)} {rs : List (Key × Value)} {kvs : List (Key × V)} {vs : List (Key × Value)}, KV more rs → KV kvs vs → KV (mergeK kvs more) (merged vs rs) := by
  intro more rs kvs vs r
  unfold KV at r
  induction r generalizing kvs vs with
  | nil => intro q; exact q
  | @cons p q ps qs h t ih =>
    intro r0
    have e : KV (putK kvs p.1 p.2) (stored vs q.1 q.2) := by
      have := r0.put p.1 h.2
      rw [← h.1]; exact this
    exact ih e
theorem length_mergeK : ∀ (more kvs : List (Key × V)), (mergeK kvs more).length ≤ kvs.length + more.length
  | [], kvs => by show kvs.length ≤ kvs.length + 0; omega
  | p :: r, kvs => by
    have h1 := length_mergeK r (putK kvs p.1 p.2)
    have h2 := length_putK kvs p.1 p.2
    show (mergeK (putK kvs p.1 p.2) r).length ≤ _
    rw [List.length_cons]; omega
theorem carries_of {P : Program} {w : World} : ∀ {kvs : List (Key × V)} {ws : List (Value × Value)}, VV (kvs.map fun kv => (kV kv.1, kv.2)) ws → ∃ rs, Carries (mixKind P w) ws rs ∧ KV kvs rs
  | [], _, r => by rw [List.map_nil] at r; cases r; exact ⟨[], True.intro, .nil⟩
  | p :: kvs, _, r => by
    rw [List.map_cons] at r
    cases r with
    | @cons a b as bs h t =>
      obtain ⟨rs, c, q⟩ := carries_of (P := P) (w := w) t
      obtain ⟨b1, b2⟩ := b
      exact ⟨(p.1, b2) :: rs, ⟨kV_is h.1, rfl, c⟩, .cons ⟨rfl, h.2⟩ q⟩
/-- {k: v, ..} with keys ints and texts; the new dict stands empty while the pairs are made -/
def tDisp (trs : List (TE × TE)) : TE := fun σ H Q => ∀ p, H p = none → tPairs trs σ (upd H p (.dK [])) fun ps H2 => H2 p = some (.dK []) ∧ ∃ kvs : List (Key × V), ps = kvs.map (fun kv => (kV kv.1, kv.2)) ∧ kvs.length ≤ 15 ∧ Q (.ref p) (upd H2 p (.dK (mergeK [] kvs)))
theorem pe_disp {X : Cx} {pos : Pos} {keys : List (Option Expr)} {values : List Expr} {trs : List (TE × TE)} (h : PPs X pos keys values trs) (hall : keys.all (·.isSome) = true) (hl : keys.length = values.length) (h0 : keys ≠ [])
    (h15 : keys.length ≤ 15) : PE X (.Dict keys values pos) (tDisp trs) := by
  intro pins s σ H Q I q
  have hn := I.hok.fresh (Nat.le_refl s.heap.objs.size)
  have I1 := I.laid (a := s.heap.objs.size) (o := .dK []) (h' := s.heap.push { cls := .type "dict", data := .dict #[] }) (t' := s.toks) (fun _ _ q => Heap.get?_push_of_some _ q) (Nat.le_refl _) (dk_empty s.heap I.big)
  refine wpAny_Dict_walk (knd := mixKind X.prog X.w) hall hl h0 h15 (thn (h pins _ σ _ _ I1 (q _ hn)) fun ws s2 ⟨ps, H2, I2, rel, e, kvs, ep, lk, q2⟩ => ?_)
  subst ep
  obtain ⟨rs, c, rk⟩ := carries_of (P := X.prog) (w := X.w) rel
  obtain ⟨z, hd, vs0, r0, dd⟩ := dk_of I2.hok e
  cases r0
  refine ⟨rs, c, dd, fun h' dd' hs => ⟨.ref s.heap.objs.size, _, ?_, rfl, q2⟩⟩
  have hz : (mergeK [] kvs).length ≤ sizeLine := by
    have h1 := length_mergeK kvs []
    rw [List.length_nil] at h1
    rw [sizeLine_eq]; omega
  have he : ∃ q, h'.get? s.heap.objs.size = some q := let ⟨q, _, _, hq, _⟩ := dd'; ⟨q, hq⟩
  exact d_write I2 (by rw [e]; exact True.intro) hs he (dk_new hz hd (rk.merge .nil) dd')


/-! ### methods -/
/-- a method call o.m(e) of a built-in, with one argument: what must be seen of the text -/
structure M1 (X : Cx) (o : Expr) (m : Str) (apos : Pos) (e : Expr) (cpos : Pos) : Prop where
  base : attributeBase o m X.env (eval o X.env) = eval o X.env
  few : ((backTo cpos (starEach [e] X.env)).all (fun x => !x.1) && (backToKw cpos (keywordEach [] X.env)).all (fun x => x.1.isSome)
    && decide (([e] : List Expr).length + ([] : List Keyword).length + (if ([] : List Keyword).isEmpty then 0 else 1) < 30)) = true
  line : (apos.endLine == cpos.line) = true
  trees : backTo cpos (starEach [e] X.env) = [(false, eval e X.env)]
structure M2 (X : Cx) (o : Expr) (m : Str) (apos : Pos) (e f : Expr) (cpos : Pos) : Prop where
  base : attributeBase o m X.env (eval o X.env) = eval o X.env
  few : ((backTo cpos (starEach [e, f] X.env)).all (fun x => !x.1) && (backToKw cpos (keywordEach [] X.env)).all (fun x => x.1.isSome)
    && decide (([e, f] : List Expr).length + ([] : List Keyword).length + (if ([] : List Keyword).isEmpty then 0 else 1) < 30)) = true
  line : (apos.endLine == cpos.line) = true
  trees : backTo cpos (starEach [e, f] X.env) = [(false, eval e X.env), (false, eval f X.env)]

/-- a is a dict, whatever its keys -/
def IsD (H : Hp) (a : Addr) : Prop := (∃ kvs, Rd H a (.dK kvs)) ∨ ∃ kvs, Rd H a (.dT kvs)
theorem isD_at {X : Cx} {pins : List (Addr × Obj)} {σ : St} {H : Hp} {s : Shared} {a : Addr} (I : Inv X pins σ H s) (d : IsD H a) :
    s.TypeIs (.ref a) "dict" ∧ (∀ b, Value.ref a = .ref b → ∃ ob, s.heap.get? b = some ob ∧ ob.dict = none) ∧ (a == sysModules) = false := by
  rcases d with ⟨kvs, e⟩ | ⟨kvs, e⟩
  · obtain ⟨_, hd, vs, _, dd⟩ := dk_rd I.hok e
    refine ⟨dd.typeIs, fun b q => ?_, hd⟩
    cases q
    obtain ⟨ob, _, _, h1, h2, _⟩ := dd
    exact ⟨ob, h1, h2.2.1⟩
  · obtain ⟨_, hd, xs, _, dd⟩ := dt_rd I.hok e
    refine ⟨dd.typeIs, fun b q => ?_, hd⟩
    cases q
    obtain ⟨ob, _, _, h1, h2, _⟩ := dd
    exact ⟨ob, h1, h2.2.1⟩

section
variable {X : Cx} {pins : List (Addr × Obj)} {σ : St} {H : Hp} {s : Shared} {a : Addr} {y d : V} {u r : Value} {o : Option V} {A : Around} {E : Value → Shared → Prop}
/-- d.get(y) -/
theorem d_get1 {Q : Value → Shared → Prop} (hu : A.units + 1 < cLine) (I : Inv X pins σ H s) (g : DGet H a y o) (ry : RelV y u) (h : ∀ w' s', Inv X pins σ H s' → RelV (o.getD .non) w' → Q w' s') :
    wpAny (model X.prog X.w) A (call (.builtin "dict.get") [.ref a, u]) Q E s := by
  rcases g with ⟨kvs, k, e, ey, l⟩ | ⟨kvs, k, b, e, ey, eb, l⟩
  · subst ey
    obtain ⟨z, hd, vs, rel, dd⟩ := dk_rd I.hok e
    refine call_meetsIn PySem.F.slot_dict_get dd.typeIs PySem.F.entry_dict_get (PySem.F.args_dict_get_2 _ _) (meets_dict_get (mixKind X.prog X.w) a (kV_is ry) hd) ⟨_, dd.mapOf, h _ _ (I.tok _) ?_⟩
    rw [l]
    exact (rel.val k).getD rfl
  · subst ey
    cases (show u = Value.ref b from ry)
    obtain ⟨z, hd, xs, rel, dd⟩ := dt_rd I.hok e
    refine call_meetsIn PySem.F.slot_dict_get dd.typeIs PySem.F.entry_dict_get (PySem.F.args_dict_get_2 _ _) (meetsH_dict_get (tupleKind (mixKind X.prog X.w)) a b hd) ⟨tupleKind_room_in1 hu, k, xs, key_of I.hok eb, dd, h _ _ (I.tok _) ?_⟩
    rw [l]
    exact (rel.val k).getD rfl
/-- d.get(y, x) -/
theorem d_get2 {Q : Value → Shared → Prop} (hu : A.units + 1 < cLine) (I : Inv X pins σ H s) (g : DGet H a y o) (ry : RelV y u) (rd : RelV d r) (h : ∀ w' s', Inv X pins σ H s' → RelV (o.getD d) w' → Q w' s') :
    wpAny (model X.prog X.w) A (call (.builtin "dict.get") [.ref a, u, r]) Q E s := by
  rcases g with ⟨kvs, k, e, ey, l⟩ | ⟨kvs, k, b, e, ey, eb, l⟩
  · subst ey
    obtain ⟨z, hd, vs, rel, dd⟩ := dk_rd I.hok e
    refine call_meetsIn PySem.F.slot_dict_get dd.typeIs PySem.F.entry_dict_get (PySem.F.args_dict_get_3 _ _ _) (meets_dict_get_default (mixKind X.prog X.w) a (kV_is ry) hd r) ⟨_, dd.mapOf, h _ _ (I.tok _) ?_⟩
    rw [l]
    exact (rel.val k).getD rd
  · subst ey
    cases (show u = Value.ref b from ry)
    obtain ⟨z, hd, xs, rel, dd⟩ := dt_rd I.hok e
    refine call_meetsIn PySem.F.slot_dict_get dd.typeIs PySem.F.entry_dict_get (PySem.F.args_dict_get_3 _ _ _) (meetsH_dict_get_default (tupleKind (mixKind X.prog X.w)) a b hd r) ⟨tupleKind_room_in1 hu, k, xs, key_of I.hok eb, dd, h _ _ (I.tok _) ?_⟩
    rw [l]
    exact (rel.val k).getD rd
end

def tDGet1 (td ty : TE) : TE := fun σ H Q => td σ H fun x H1 => ∃ a, x = .ref a ∧ IsD H1 a ∧ ty σ H1 fun y H2 => ∃ o, DGet H2 a y o ∧ Q (o.getD .non) H2
def tDGet2 (td ty tx : TE) : TE := fun σ H Q => td σ H fun x H1 => ∃ a, x = .ref a ∧ IsD H1 a ∧ ty σ H1 fun y H2 => tx σ H2 fun z H3 => ∃ o, DGet H3 a y o ∧ Q (o.getD z) H3
/-- d.pop(k): there; d.pop(k, x): there or not -/
def tDPop1 (td ty : TE) : TE := fun σ H Q => td σ H fun x H1 => ∃ a, x = .ref a ∧ IsD H1 a ∧ ty σ H1 fun y H2 => ∃ kvs k v, H2 a = some (.dK kvs) ∧ y = kV k ∧ valV kvs k = some v ∧ Q v (upd H2 a (.dK (dropK kvs k)))
def tDPop2 (td ty tx : TE) : TE := fun σ H Q => td σ H fun x H1 => ∃ a, x = .ref a ∧ IsD H1 a ∧ ty σ H1 fun y H2 => tx σ H2 fun z H3 => ∃ kvs k, H3 a = some (.dK kvs) ∧ y = kV k ∧
  (∀ v, valV kvs k = some v → Q v (upd H3 a (.dK (dropK kvs k)))) ∧ (valV kvs k = none → Q z H3)
section
variable {X : Cx} {o e f : Expr} {apos cpos : Pos} {td ty tx : TE}
theorem pe_dget1 (hu : X.A.units + 1 < cLine) (ho : PE X o td) (he : PE X e ty) (m : M1 X o "get" apos e cpos) : PE X (.Call (.Attribute o "get" apos) [e] [] cpos) (tDGet1 td ty) := by
  intro pins s σ H Q I h
  refine wpAny_Call_method m.base m.few m.line PySem.F.plainAttrs_dict PySem.F.slot_dict_get PySem.F.type_dict_get (thn (ho pins s σ H _ I h) fun u s1 ⟨x, H1, I1, rx, a, ex, d, q1⟩ => ?_)
  subst ex
  obtain rfl : u = Value.ref a := rx
  obtain ⟨t1, t2, _⟩ := isD_at I1 d
  refine ⟨t1, t2, ?_⟩
  rw [m.trees]
  refine Calls.callWith_builtin rfl (Calls.evalArgs_plain (Calls.spliced_cons (thn (he pins s1 σ H1 _ I1 q1) fun iv s2 ⟨y, H2, I2, ry, ov, g, q2⟩ => Calls.spliced_nil ?_)))
  exact d_get1 hu I2 g ry fun w' s3 I3 rw' => ⟨_, H2, I3, rw', q2⟩
theorem pe_dget2 (hu : X.A.units + 1 < cLine) (ho : PE X o td) (he : PE X e ty) (hf : PE X f tx) (m : M2 X o "get" apos e f cpos) : PE X (.Call (.Attribute o "get" apos) [e, f] [] cpos) (tDGet2 td ty tx) := by
  intro pins s σ H Q I h
  refine wpAny_Call_method m.base m.few m.line PySem.F.plainAttrs_dict PySem.F.slot_dict_get PySem.F.type_dict_get (thn (ho pins s σ H _ I h) fun u s1 ⟨x, H1, I1, rx, a, ex, d, q1⟩ => ?_)
  subst ex
  obtain rfl : u = Value.ref a := rx
  obtain ⟨t1, t2, _⟩ := isD_at I1 d
  refine ⟨t1, t2, ?_⟩
  rw [m.trees]
  refine Calls.callWith_builtin rfl (Calls.evalArgs_plain (Calls.spliced_cons (thn (he pins s1 σ H1 _ I1 q1) fun iv s2 ⟨y, H2, I2, ry, q2⟩ =>
    Calls.spliced_cons (thn (hf pins s2 σ H2 _ I2 q2) fun fv s3 ⟨z, H3, I3, rz, ov, g, q3⟩ => Calls.spliced_nil ?_))))
  exact d_get2 hu I3 g ry rz fun w' s4 I4 rw' => ⟨_, H3, I4, rw', q3⟩
theorem pe_dpop1 (ho : PE X o td) (he : PE X e ty) (m : M1 X o "pop" apos e cpos) : PE X (.Call (.Attribute o "pop" apos) [e] [] cpos) (tDPop1 td ty) := by
  intro pins s σ H Q I h
  refine wpAny_Call_method m.base m.few m.line PySem.F.plainAttrs_dict PySem.F.slot_dict_pop PySem.F.type_dict_pop (thn (ho pins s σ H _ I h) fun u s1 ⟨x, H1, I1, rx, a, ex, d, q1⟩ => ?_)
  subst ex
  obtain rfl : u = Value.ref a := rx
  obtain ⟨t1, t2, _⟩ := isD_at I1 d
  refine ⟨t1, t2, ?_⟩
  rw [m.trees]
  refine Calls.callWith_builtin rfl (Calls.evalArgs_plain (Calls.spliced_cons (thn (he pins s1 σ H1 _ I1 q1) fun iv s2 ⟨y, H2, I2, ry, kvs, k, v, ea, ey, l, q2⟩ => Calls.spliced_nil ?_)))
  subst ey
  exact d_pop I2 ea ry l (.inl rfl) fun w' s3 I3 rw' => ⟨v, _, I3, rw', q2⟩
theorem pe_dpop2 (ho : PE X o td) (he : PE X e ty) (hf : PE X f tx) (m : M2 X o "pop" apos e f cpos) : PE X (.Call (.Attribute o "pop" apos) [e, f] [] cpos) (tDPop2 td ty tx) := by
  intro pins s σ H Q I h
  refine wpAny_Call_method m.base m.few m.line PySem.F.plainAttrs_dict PySem.F.slot_dict_pop PySem.F.type_dict_pop (thn (ho pins s σ H _ I h) fun u s1 ⟨x, H1, I1, rx, a, ex, d, q1⟩ => ?_)
  subst ex
  obtain rfl : u = Value.ref a := rx
  obtain ⟨t1, t2, _⟩ := isD_at I1 d
  refine ⟨t1, t2, ?_⟩
  rw [m.trees]
  refine Calls.callWith_builtin rfl (Calls.evalArgs_plain (Calls.spliced_cons (thn (he pins s1 σ H1 _ I1 q1) fun iv s2 ⟨y, H2, I2, ry, q2⟩ =>
    Calls.spliced_cons (thn (hf pins s2 σ H2 _ I2 q2) fun fv s3 ⟨z, H3, I3, rz, kvs, k, ea, ey, q3, q4⟩ => Calls.spliced_nil ?_))))
  subst ey
  cases l : valV kvs k with
  | some v => exact d_pop I3 ea ry l (.inr ⟨fv, rfl⟩) fun w' s4 I4 rw' => ⟨v, _, I4, rw', q3 v l⟩
  | none => exact d_popD I3 ea ry l fun s4 I4 => ⟨z, H3, I4, rz, q4 l⟩
end

/-! ### dict(d): a copy -/
section
variable {X : Cx} {pins : List (Addr × Obj)} {σ : St} {H : Hp} {s : Shared} {a : Addr} {kvs : List (Key × V)} {A : Around} {E : Value → Shared → Prop}
theorem d_copyOf {Q : Value → Shared → Prop} (I : Inv X pins σ H s) (e : Rd H a (.dK kvs)) (h : ∀ p s', H p = none → Inv X pins σ (upd H p (.dK kvs)) s' → Q (.ref p) s') : wpAny (model X.prog X.w) A (call (.type "dict") [.ref a]) Q E s := by
  obtain ⟨z, hd, vs, rel, dd⟩ := dk_rd I.hok e
  refine kt_call_dict hd dd (by rw [← rel.length]; exact z) fun h' dd' hs => ?_
  refine h _ _ (I.hok.fresh (Nat.le_refl _)) (I.laid (a := s.heap.objs.size) (o := .dK kvs) (t' := s.toks) (fun b q hq => ?_) (Nat.le_refl _) (dk_new z (beq_eq_false_iff_ne.mpr (Ne.symm (Nat.ne_of_lt I.big))) rel dd'))
  exact (hs.2 b (Nat.ne_of_lt (Heap.lt_size hq))).trans (Heap.get?_push_of_some _ hq)
end


section
variable {X : Cx} {pins : List (Addr × Obj)} {σ : St} {H : Hp} {s : Shared} {a : Addr} {y : V} {u : Value} {A : Around} {E : Value → Shared → Prop}
/-- d[y], not there: a KeyError -/
theorem d_missing {Q : Value → Shared → Prop} (hu : A.units + 1 < cLine) (hh : A.handled = none) (I : Inv X pins σ H s) (g : DGet H a y none) (ry : RelV y u)
    (h : ∀ h' e t', Heap.NewExc s.heap h' e "KeyError" → E (.ref e) { s with heap := h', toks := t' }) : wpAny (model X.prog X.w) A (getItem (.ref a) u) Q E s := by
  rcases g with ⟨kvs, k, e, ey, l⟩ | ⟨kvs, k, b, e, ey, eb, l⟩
  · subst ey
    obtain ⟨z, hd, vs, rel, dd⟩ := dk_rd I.hok e
    have hn : valueAt vs k = none := RelO.none_of (by rw [l]; exact rel.val k)
    exact wpAny_getItem_missing_of (kV_is ry) hd hh dd.mapOf hn fun h' ex ne => h h' ex _ ne
  · subst ey
    cases (show u = Value.ref b from ry)
    obtain ⟨z, hd, xs, rel, dd⟩ := dt_rd I.hok e
    have hn : (atKey xs k).map (·.2) = none := RelO.none_of (by rw [l]; exact rel.val k)
    exact wpAny_getItem_missing_heap (tupleKind_room_in1 hu) (key_of I.hok eb) hd hh dd (Option.map_eq_none_iff.mp hn) fun h' ex ne => h h' ex _ ne
end
end L2


namespace Att
open PySem PySem.W PySem.Calls PyProof.Rows

/-! ### the script -/
theorem ints_of_wellAll {P : Params} {h : Heap} : ∀ (ns : List Int) (vs : List Value), WellAll P h vs (ns.map WData.int) → IntsAre vs ns := by
  intro ns
  induction ns with
  | nil =>
    intro vs w
    rw [List.map_nil] at w
    cases w
    exact .nil
  | cons n ns ih =>
    intro vs w
    rw [List.map_cons] at w
    cases w with
    | cons a b =>
      cases a
      exact .cons _ _ (ih _ b)

theorem script_of {l : OpenLaw} {n : Nat} (hn : l.most = some n) {P : Params} {h : Heap} {args : List WData} {vals : List Value}
    (hpre : l.row.toRowW.claim.pre args = true) (hwl : WellAll P h vals args) :
    ∃ a vs ns, vals = [Value.ref a] ∧ args = [WData.list (ns.map WData.int)] ∧ h.get? a = some { cls := .type "list", data := .seq vs.toArray } ∧ IntsAre vs ns ∧ ns.length ≤ n := by
  have hsh : WShape.hasAll [] args [.list .int] = true := (pre_splitW hpre).1
  have hc : l.pre.holds [] { args := args } = true := (pre_splitW hpre).2
  obtain ⟨d, r, rfl, h1, h2⟩ := hasAllW_cons hsh
  obtain rfl := hasAllW_nil h2
  obtain ⟨xs, rfl, h3⟩ := hasW_list h1
  obtain ⟨ns, rfl⟩ := items_int h3
  have hlen : ns.length ≤ n := by
    unfold OpenLaw.pre at hc
    have h4 : (WTm.not (.lt (.lit (.int (n : Int))) (.len (.arg 0)))).holds [] { args := [.list (ns.map .int)] } = true := by
      have h4 := (holds_andW hc).1
      rw [hn] at h4
      exact h4
    have h5 := condW_of h4 (w_not (w_lt w_lit (w_len_list (w_arg rfl))))
    rw [List.length_map] at h5
    refine Nat.le_of_not_lt fun q => ?_
    have q' : (n : Int) < ((ns.length : Nat) : Int) := by omega
    first
      | (rw [decide_eq_true q'] at h5; exact absurd h5 (by decide))
      | (simp at h5; omega)
  cases hwl with
  | cons w1 w2 =>
    cases w2
    cases w1 with
    | list ho hall => exact ⟨_, _, ns, rfl, rfl, ho, ints_of_wellAll ns _ hall, hlen⟩

theorem post_true (l : OpenLaw) (args : List WData) : l.row.toRowW.claim.post args (.bool true) args = true :=
  postW_of (r := l.row.toRowW) (X := (true == true))
    (show WShape.has [] (.bool true) .bool = true by first | rfl | decide | simp [WShape.has, WShape.arms, WShape.armsAll])
    (show (WTm.eq .res (.lit (.bool true))).value [] { args := args, res := some (.bool true), after := args } = some (.bool (true == true)) from w_eq_bool (w_res rfl) w_lit) rfl

/-! ### the attachment: holds_open's last premise (the goal 'hc' behind k_head) from a wpAny of the law's body -/
theorem attach {l : OpenLaw} {n : Nat} {q : Program} {loose : List Str} {XP : (Str → Option Value) → Heap → Prop} {YP : World → Heap → Prop} {d : DefRec} {x : Str}
    (hn : l.most = some n) (hdf : d.params.defaults = [])
    (hbind : ∀ pm cd doc v : Value, bindArgs (docDef d.name d.params d.body d.scope pm cd doc) ⟨[v], []⟩ = pure [(x, v)])
    (hx : d.scope.names.lookup x = some .local ∨ d.scope.names.lookup x = some .cell)
    (hk : d.scope.kind = .function) (hco : d.scope.isCoroutine = false) (hgen : d.scope.isGenerator = false)
    (body : ∀ (w : World) (s₀ s₁ s : Shared) (mg mb : Str → Option Value) (fa : Addr) (o : Obj) (pm cd doc : Value) (a : Addr) (vs : List Value) (ns : List Int),
      Ground q loose [] XP w s₀ mg mb s₁.heap → YP w s₁.heap →
      s₁.heap.get? fa = some o → o.data = .func (docDef d.name d.params d.body d.scope pm cd doc) → s₁.heap.CodeRec cd d.name → mg d.name = some (.ref fa) →
      s₁.heap.get? a = some { cls := .type "list", data := .seq vs.toArray } → IntsAre vs ns → ns.length ≤ n →
      s.gens = #[] → s.os = s₁.os →
      Fr s₁.heap s₁.heap.objs.size s.heap (bindL (envOfC d.name d.scope s₁.heap.objs.size fa cd).kindOf [(x, .ref a)] fun _ => none) →
      Cl s₁.heap.objs.size (cellsFrom (s₁.heap.objs.size + 1) d.scope.names []) s.heap (bindC (envOfC d.name d.scope s₁.heap.objs.size fa cd).kindOf [(x, .ref a)] fun _ => none) →
      wpAny (model l.prog w) (callerA.deeper (envOfC d.name d.scope s₁.heap.objs.size fa cd)) (execs d.body (envOfC d.name d.scope s₁.heap.objs.size fa cd))
        (fun f s' => f = .ret (.bool true) ∧ OldK s₁.heap s'.heap ∧ s'.os = s₁.os ∧ AllBare s'.gens) (fun _ _ => False) s) :
    WalkO q loose XP YP l.row.toRowW d [] (fun f vs => PySem.call f vs) := by
  intro w s₀ s₁ mg mb G Y fa o pm cd doc dV kV ho hd hcd hD hmg hg args vals as hpre hlay hrd hwl hlo
  obtain rfl : dV = .none := Dflts.none hD hdf
  obtain rfl : kV = .none := Dflts.noKw hD
  obtain ⟨a, vs, ns, rfl, rfl, hobj, hints, hlen⟩ := script_of hn hpre hwl
  refine enter_call ?_
  refine call_cells_ret (o := o) (by rw [depth_caller]; decide) ho (fd_plain hd) G.T.nolimit hcd (hbind pm cd doc (.ref a)) (fun y hy => ?_) (fun h₁ tk F X => ?_) hco hgen hk
  · obtain rfl : y = (x, Value.ref a) := List.mem_singleton.mp hy
    rcases hx with e | e
    · exact .inl e
    · exact .inr ⟨e, cellsFrom_some _ _ _ (.inl e)⟩
  · refine wpAny_mono (body w s₀ s₁ { s₁ with heap := h₁, toks := tk } mg mb fa o pm cd doc a vs ns G Y ho (fd_plain hd) hcd hmg hobj hints hlen hg rfl F X) (fun f s' hq => ?_) (fun _ _ hq => hq)
    obtain ⟨rfl, h2, h3, h4⟩ := hq
    exact ⟨.inl ⟨.bool true, .bool true, [], rfl, fun _ => rfl, .bool true, post_true l _, fun _ => ⟨List.Pairwise.nil, fun _ hm => (nomatch hm)⟩⟩, h2, h3, h4⟩

/-- the same from a codeAny of the CALL (for a layer whose function contracts speak of calls) -/
theorem attach_call {l : OpenLaw} {n : Nat} {q : Program} {loose : List Str} {XP : (Str → Option Value) → Heap → Prop} {YP : World → Heap → Prop} {d : DefRec}
    (hn : l.most = some n) (hdf : d.params.defaults = [])
    (call : ∀ (w : World) (s₀ s₁ : Shared) (mg mb : Str → Option Value) (fa : Addr) (o : Obj) (pm cd doc : Value) (a : Addr) (vs : List Value) (ns : List Int),
      Ground q loose [] XP w s₀ mg mb s₁.heap → YP w s₁.heap →
      s₁.heap.get? fa = some o → o.data = .func (docDef d.name d.params d.body d.scope pm cd doc) → s₁.heap.CodeRec cd d.name → mg d.name = some (.ref fa) →
      s₁.heap.get? a = some { cls := .type "list", data := .seq vs.toArray } → IntsAre vs ns → ns.length ≤ n → s₁.gens = #[] →
      codeAny (model l.prog w) callerA (.call (.ref fa) ⟨[.ref a], []⟩) (fun r s' => r = .ok (.ret (.bool true)) ∧ OldK s₁.heap s'.heap ∧ s'.os = s₁.os ∧ AllBare s'.gens) s₁) :
    WalkO q loose XP YP l.row.toRowW d [] (fun f vs => PySem.call f vs) := by
  intro w s₀ s₁ mg mb G Y fa o pm cd doc dV kV ho hd hcd hD hmg hg args vals as hpre hlay hrd hwl hlo
  obtain rfl : dV = .none := Dflts.none hD hdf
  obtain rfl : kV = .none := Dflts.noKw hD
  obtain ⟨a, vs, ns, rfl, rfl, hobj, hints, hlen⟩ := script_of hn hpre hwl
  refine enter_call (codeAny_mono (call w s₀ s₁ mg mb fa o pm cd doc a vs ns G Y ho (fd_plain hd) hcd hmg hobj hints hlen hg) fun r s' hq => ?_)
  obtain ⟨rfl, h2, h3, h4⟩ := hq
  exact ⟨.inl ⟨.bool true, .bool true, [], rfl, fun _ => rfl, .bool true, post_true l _, fun _ => ⟨List.Pairwise.nil, fun _ hm => (nomatch hm)⟩⟩, h2, h3, h4⟩

/-- the same where the top left finished generators (o_head chose holds_openN): nothing may have changed at all and no generator may be left -/
theorem attachN {l : OpenLaw} {n : Nat} {q : Program} {loose : List Str} {XP : (Str → Option Value) → Heap → Prop} {YP : World → Heap → Prop} {d : DefRec} {x : Str}
    (hn : l.most = some n) (hdf : d.params.defaults = [])
    (hbind : ∀ pm cd doc v : Value, bindArgs (docDef d.name d.params d.body d.scope pm cd doc) ⟨[v], []⟩ = pure [(x, v)])
    (hx : d.scope.names.lookup x = some .local ∨ d.scope.names.lookup x = some .cell)
    (hk : d.scope.kind = .function) (hco : d.scope.isCoroutine = false) (hgen : d.scope.isGenerator = false)
    (body : ∀ (w : World) (s₀ s₁ s : Shared) (mg mb : Str → Option Value) (fa : Addr) (o : Obj) (pm cd doc : Value) (a : Addr) (vs : List Value) (ns : List Int),
      Ground q loose [] XP w s₀ mg mb s₁.heap → YP w s₁.heap →
      s₁.heap.get? fa = some o → o.data = .func (docDef d.name d.params d.body d.scope pm cd doc) → s₁.heap.CodeRec cd d.name → mg d.name = some (.ref fa) →
      s₁.heap.get? a = some { cls := .type "list", data := .seq vs.toArray } → IntsAre vs ns → ns.length ≤ n →
      s.gens = #[] → s.os = s₁.os →
      Fr s₁.heap s₁.heap.objs.size s.heap (bindL (envOfC d.name d.scope s₁.heap.objs.size fa cd).kindOf [(x, .ref a)] fun _ => none) →
      Cl s₁.heap.objs.size (cellsFrom (s₁.heap.objs.size + 1) d.scope.names []) s.heap (bindC (envOfC d.name d.scope s₁.heap.objs.size fa cd).kindOf [(x, .ref a)] fun _ => none) →
      wpAny (model l.prog w) (callerA.deeper (envOfC d.name d.scope s₁.heap.objs.size fa cd)) (execs d.body (envOfC d.name d.scope s₁.heap.objs.size fa cd))
        (fun f s' => f = .ret (.bool true) ∧ (∀ b o, s₁.heap.get? b = some o → s'.heap.get? b = some o) ∧ s'.os = s₁.os ∧ s'.gens = #[]) (fun _ _ => False) s) :
    WalkN q loose XP YP l.row.toRowW d [] (fun f vs => PySem.call f vs) := by
  intro w s₀ s₁ mg mb G Y fa o pm cd doc dV kV ho hd hcd hD hmg hg args vals as hpre hlay hrd hwl hlo
  obtain rfl : dV = .none := Dflts.none hD hdf
  obtain rfl : kV = .none := Dflts.noKw hD
  obtain ⟨a, vs, ns, rfl, rfl, hobj, hints, hlen⟩ := script_of hn hpre hwl
  refine enter_callW ?_
  refine call_cells_ret (o := o) (by rw [depth_caller]; decide) ho (fd_plain hd) G.T.nolimit hcd (hbind pm cd doc (.ref a)) (fun y hy => ?_) (fun h₁ tk F X => ?_) hco hgen hk
  · obtain rfl : y = (x, Value.ref a) := List.mem_singleton.mp hy
    rcases hx with e | e
    · exact .inl e
    · exact .inr ⟨e, cellsFrom_some _ _ _ (.inl e)⟩
  · refine wpAny_mono (body w s₀ s₁ { s₁ with heap := h₁, toks := tk } mg mb fa o pm cd doc a vs ns G Y ho (fd_plain hd) hcd hmg hobj hints hlen hg rfl F X) (fun f s' hq => ?_) (fun _ _ hq => hq)
    obtain ⟨rfl, h2, h3, h4⟩ := hq
    exact ⟨.inl ⟨.bool true, .bool true, [], rfl, fun _ => rfl, .bool true, post_true l _, fun _ => ⟨List.Pairwise.nil, fun _ hm => (nomatch hm)⟩⟩, h2, h3, h4⟩

/-! ### rules over ANY heap (no ledger) from facts about the written part K: the library's own take a ledger (News) for what they write -/
section
variable {prog : Program} {w : World} {A : Around} {E : Value → Shared → Prop} {s : Shared} {K : Frag}

/-- a def of the module, or a method (qual 'C.m'), entered: the frame is the next address; cells behind it -/
theorem call_fn {R : Result → Shared → Prop} {name qual : Str} {params : Arguments} {body : List Stmt} {scope : Scope} {dV kV doc pm cdv ct oc : Value} {an od : Option Addr} {osl : Array (Option Value)} {f : Addr} {args : Args} {binds : List (Str × Value)}
    (X : K.In s.heap) (hlim : s.heap.NoLimit) (ho : K.lookup f = some ⟨oc, od, .func (fnOf name qual params body scope dV kV doc pm an cdv ct), osl⟩) (hcd : codeIn K cdv qual = true) (hroom : A.depth < recursionLimit)
    (hbind : BindsTo s (fnOf name qual params body scope dV kV doc pm an cdv ct) args binds)
    (hkind : (binds.all fun y => scope.names.lookup y.1 == some .local || scope.names.lookup y.1 == some .cell) = true)
    (h : ∀ s₁, InCallC s s.heap.objs.size (bindL (envOfC qual scope s.heap.objs.size f cdv).kindOf binds fun _ => none) (cellsFrom (s.heap.objs.size + 1) scope.names [])
        (bindC (envOfC qual scope s.heap.objs.size f cdv).kindOf binds fun _ => none) s₁ →
      wpAny (model prog w) (A.deeper (envOfC qual scope s.heap.objs.size f cdv)) (execs body (envOfC qual scope s.heap.objs.size f cdv))
        (fun fl s' => R (.ok (.ret (match fl with | .ret v => v | _ => .none))) s')
        (fun e s' => wpAny (model prog w) (A.deeper (envOfC qual scope s.heap.objs.size f cdv)) (leaving (envOfC qual scope s.heap.objs.size f cdv) e) (fun _ s'' => R (.error e) s'') (fun e' s'' => R (.error e') s'') s') s₁)
    (hco : scope.isCoroutine = false) (hgen : scope.isGenerator = false) (hk : scope.kind = .function) : codeAny (model prog w) A (.call (.ref f) args) R s := by
  refine codeAny_call_function hroom (X _ _ ho) rfl hco hgen rfl (codeRec_of X hcd) (hbind _ _ _ _ ?_)
  refine wpAny_newFunctionEnv_cells hk (kindsX hkind _) fun env he s₁ x => ?_
  subst he
  exact ⟨hlim.keeps x.toInCall.keep, codeAny_func (h s₁ x)⟩

/-- C(..): dict at size, instance at size + 1, then __init__ -/
theorem make_obj {R : Result → Shared → Prop} {C fI : Addr} {rest : List Value} {kw : List (Str × Value)}
    (X : K.In s.heap) (hm : makesIn K C = true) (hi : findIn K (.ref C) "__init__" = some (some (.ref fI))) (hf : isFn K (.ref fI) = true)
    (h : codeAny (model prog w) (A.under (.builtin "type.__call__" ⟨.ref C :: rest, kw⟩)) (.call (.ref fI) ⟨.ref (s.heap.objs.size + 1) :: rest, kw⟩) (InitBack (s.heap.objs.size + 1) R)
      { s with heap := (s.heap.push emptyDict).push (instObj C s.heap.objs.size) }) : codeAny (model prog w) A (.call (.ref C) ⟨rest, kw⟩) R s := by
  obtain ⟨hh, g, d, t, os⟩ := s
  exact make_core (makes_of X hm) (looks_findIn X hi) (fun self => bind_fn X self (beq_iff_eq.mp hf)) (.inl rfl) h

/-- x.name where the instance's dict holds the name and the class does not -/
theorem get_field {x C : Addr} {ox : Obj} {es : List DictEntry} {n : Nat} {name : Str} {expr : Bool} {v : Value} {Q : Value → Shared → Prop}
    (X : K.In s.heap) (I : PySem.W.InstAt s.heap x ox C (some (dictOf es n))) (hg : plainGet K C name = true) (hh : hasDictIn K C = true) (ha : findIn K (.ref C) name = some none)
    (hl : getL name es = some (some v)) (hv : handedIn v = true) (h : Q v { s with toks := s.toks + 1 }) : wpAny (model prog w) A (getAttr (.ref x) name expr) Q E s :=
  get_value X I (plainGet_of hg).1 (findObj_own hh ha rfl hl) hv h

/-- x.m(..): the method found in the class -/
theorem get_method {x C f : Addr} {ox : Obj} {es : List DictEntry} {n : Nat} {name : Str} {pl : Sem Bool} {Q : Value × List Value → Shared → Prop}
    (X : K.In s.heap) (I : PySem.W.InstAt s.heap x ox C (some (dictOf es n))) (hg : plainGet K C name = true) (hf : findIn K (.ref C) name = some (some (.ref f))) (ht : isFn K (.ref f) = true)
    (hl : getL name es = some none) (h : Q (.ref f, [.ref x]) s) : wpAny (model prog w) A (getMethod (.ref x) name pl) Q E s :=
  method_fn X I (plainGet_of hg).1 (plainGet_of hg).2 hf (beq_iff_eq.mp ht) (by show (lookIn name (dictOf es n)).map _ = _; rw [lookIn_dict, hl]; rfl) h

/-! the whole heap as the ledger: makes every rule that writes through a ledger a rule over any heap -/
def noObjs (h : Heap) : Heap := { h with objs := #[] }
theorem noObjs_get (h : Heap) (b : Addr) : (noObjs h).get? b = none := by
  cases e : (noObjs h).get? b with
  | none => rfl
  | some o => exact absurd (Heap.lt_size e) (Nat.not_lt_zero _)
def ledger (h : Heap) (L d : Addr) : List (Addr × Obj) := (List.range h.objs.size).filterMap fun a => if a = L ∨ a = d then none else (h.get? a).map fun o => (a, o)
theorem mem_ledger {h : Heap} {L d a : Addr} {o : Obj} : (a, o) ∈ ledger h L d ↔ a ≠ L ∧ a ≠ d ∧ h.get? a = some o := by
  unfold ledger
  rw [List.mem_filterMap]
  constructor
  · rintro ⟨b, _, e⟩
    split at e
    · cases e
    · rename_i hb
      obtain ⟨o', ho, e'⟩ := Option.map_eq_some_iff.mp e
      cases e'
      exact ⟨fun q => hb (.inl q), fun q => hb (.inr q), ho⟩
  · rintro ⟨n1, n2, ho⟩
    refine ⟨a, List.mem_range.mpr (Heap.lt_size ho), ?_⟩
    rw [if_neg (show ¬ (a = L ∨ a = d) from fun q => q.elim n1 n2), ho] <;> rfl
theorem news_ledger {h : Heap} {L d : Addr} {od : Obj} (hne : d ≠ L) (ho : h.get? d = some od) : News (noObjs h) L h ([] ++ (d, od) :: ledger h L d) := by
  rintro ⟨a, o⟩ hp
  rcases List.mem_cons.mp hp with e | hp
  · cases e
    exact ⟨ho, hne, noObjs_get _ _⟩
  · obtain ⟨n1, n2, e⟩ := mem_ledger.mp hp
    exact ⟨e, n1, noObjs_get _ _⟩
theorem fr_all {h : Heap} {L : Addr} {m : Str → Option Value} (n : h.Ns L m) : Fr (noObjs h) L h m :=
  ⟨n, fun b o e => (by rw [noObjs_get] at e; cases e), Nat.zero_le _⟩
/-- Upd of the head entry (for append_K, setItem_K ..) -/
theorem upd_ledger {h : Heap} {L d : Addr} {o o' : Obj} : Upd d o o' ((d, o) :: ledger h L d) ((d, o') :: ledger h L d) :=
  .head fun ⟨_, _⟩ hp => (mem_ledger.mp hp).2.1

/-- x.name = v over any heap: L is any namespace of the heap (the frame's, say): its map stays, its object is not told; all else but the dict stays -/
theorem set_field {x C dx L : Addr} {ox : Obj} {m : Str → Option Value} {es es' : List DictEntry} {n n' : Nat} {name : Str} {v : Value} {Q : Unit → Shared → Prop}
    (X : K.In s.heap) (I : PySem.W.InstAt s.heap x ox C (some (dictOf es n))) (hd : ox.dict = some dx) (hL : s.heap.Ns L m) (hne : dx ≠ L)
    (hs : findIn K (.ref C) "__setattr__" = some (some (.builtin "object.__setattr__"))) (hp : plainOver K C = true) (ht : takerIn K C name = some none) (hh : hasDictIn K C = true) (hl : (getL name es).isSome = true)
    (e : (putL name (PyData.keyHash w.params name) (.str name (s.toks + 1)) v es, putN name es n) = (es', n')) (hz : es'.length ≤ 1000)
    (h : ∀ h' : Heap, h'.Ns L m → h'.get? dx = some (dictOf es' n') → (∀ b o, b ≠ dx → b ≠ L → s.heap.get? b = some o → h'.get? b = some o) → Q () { s with heap := h', toks := s.toks + 2 }) :
    wpAny (model prog w) A (setAttr (.ref x) name v) Q E s := by
  obtain ⟨e1, e2⟩ := Prod.mk.inj e
  have hdx : s.heap.get? dx = some (dictOf es n) := by
    have := I.dict
    rw [hd] at this
    exact this
  refine set_plain X I hs (osa_dict (s := { s with toks := s.toks + 1 }) (h₀ := noObjs s.heap) (L := L) (m := m) (od := dictOf es n) (od' := dictOf es' n') (es := es') (n := n') (pre := []) (post := ledger s.heap L dx)
    (fr_all hL) (news_ledger hne hdx) X I hd hp ht hh hl (fun _ q => nomatch q) (fun ⟨_, _⟩ q => (mem_ledger.mp q).2.1) (by rw [putName_dict, e1, e2]) rfl hz fun h' F' N' => ?_)
  exact h h' F'.ns (N'.get (List.Mem.head _)) fun b o n1 n2 ho => N'.get (List.Mem.tail _ (mem_ledger.mpr ⟨n2, n1, ho⟩))
end
end Att

namespace L2
open PySem PySem.Spec PyProof.Rows

theorem vals_ints : ∀ {vs : List Value} {ns : List Int}, IntsAre vs ns → Vals (ns.map V.int) vs
  | _, _, .nil => .nil
  | _, _, .cons n t h => .cons ⟨t, rfl⟩ (vals_ints h)

/-- nothing is tracked but the script, known to the object (or it is an object of the module) -/
def Only (H : Hp) : Prop := ∀ b, H b = none ∨ ∃ o xs, H b = some (.frz o (.lst xs))

/-- THE HEAD: the law's promise, at the heap behind the top. F, the promise of the law's def, may use that base is part of the heap (so K.In base, base.Ns mainGlobals mg stand in Mod) -/
theorem law_call {P : Program} {w : World} {K : PySem.W.Frag} {mg mb : Str → Option Value} {CX : CXT} {k : Nat} {fa a : Addr} {fd : FuncData} {x : Str} {sp : Sp} {s₁ : Shared} {vs : List Value} {ns : List Int}
    (KX : K.In s₁.heap) (hns : s₁.heap.Ns mainGlobals mg) (hb : s₁.heap.Ns builtinsNs mb) (hbb : ∀ x : Str, x ≠ "__name__" → mb x = bootBuiltins x) (hlim : s₁.heap.NoLimit) (hg : s₁.gens = #[])
    (ha : s₁.heap.get? a = some { cls := .type "list", data := .seq vs.toArray }) (hi : IntsAre vs ns) (hl : ns.length ≤ sizeLine) (hr : Room k callerA)
    (F : ∀ base : Heap, K.In base → base.Ns mainGlobals mg → FnOk P w K mg base CX k fa fd [x] sp) (hbind : ∀ (s : Shared) (u : Value), BindsTo s fd ⟨[u], []⟩ [(x, u)])
    (hsp : ∀ H : Hp, Only H → SqL K H a (ns.map V.int) → sp [.ref a] H (fun v _ => v = .bl true) fun _ _ _ => False)
    (hCX : ∀ H e s', CX [] H s₁ (fun _ _ _ => False) e s' → False) :
    codeAny (model P w) callerA (.call (.ref fa) ⟨[.ref a], []⟩) (fun r s' => r = .ok (.ret (.bool true)) ∧ OldK s₁.heap s'.heap ∧ s'.os = s₁.os ∧ AllBare s'.gens) s₁ := by
  have rv := vals_ints hi
  have lenV := hi.length
  -- from an abstract heap in which nothing but the script may be tracked
  have core : ∀ H : Hp, Only H → SqL K H a (ns.map V.int) → HOk P w H s₁.heap → (∀ b, H b ≠ none → b = a) → (H a ≠ none → K.lookup a = none) →
      codeAny (model P w) callerA (.call (.ref fa) ⟨[.ref a], []⟩) (fun r s' => r = .ok (.ret (.bool true)) ∧ OldK s₁.heap s'.heap ∧ s'.os = s₁.os ∧ AllBare s'.gens) s₁ := by
    intro H hO hS hok hA hK
    have base_of : ∀ {b : Addr} {o : Obj}, s₁.heap.get? b = some o → H b = none → (hidT s₁.heap H).get? b = some o := fun e n => hidT_get e n
    have noA : ∀ {b : Addr} {o : Obj} {es : Array DictEntry} {ep : Nat}, s₁.heap.get? b = some o → o.data = .dict es ep → H b = none := fun {b o es ep} e d => by
      cases q : H b with
      | none => rfl
      | some u =>
        have e' : b = a := hA b (by rw [q]; simp)
        subst e'
        rw [ha] at e; cases e
        have d' : Data.seq vs.toArray _ = Data.dict es ep := d
        cases d'
    have nsK : ∀ {b : Addr} {m : Str → Option Value}, s₁.heap.Ns b m → (hidT s₁.heap H).Ns b m := fun {b m} ⟨o, es, ep, e, d, r⟩ => ⟨o, es, ep, base_of e (noA e d), d, r⟩
    have hKb : K.In (hidT s₁.heap H) := fun b o e => base_of (KX b o e) (by
      cases q : H b with
      | none => rfl
      | some u =>
        have e' : b = a := hA b (by rw [q]; simp)
        subst e'
        rw [hK (by rw [q]; simp)] at e; cases e)
    have hM : Mod K mg (hidT s₁.heap H) := ⟨hKb, nsK hns, ⟨mb, nsK hb, hbb⟩, let ⟨mc, h1, h2⟩ := hlim; ⟨mc, nsK h1, h2⟩⟩
    have e0 : Env0 P w K mg (hidT s₁.heap H) callerA [] s₁ H := ⟨rfl, hM, fun b o e => of_hidT e, Nat.le_of_eq (hidT_size _ _), trivial, fun b hb => absurd (show b ∈ ([] : List Addr) from hb) (by simp), hok, .of_eq hg⟩
    refine codeAny_mono ((F _ hKb (nsK hns)).run callerA [] s₁ H ⟨[.ref a], []⟩ [.ref a] [.ref a] _ _ hr e0 (hbind s₁ (.ref a)) (.cons rfl .nil) (hsp H hO hS)) fun r s' h => ?_
    cases r with
    | error e => exact (hCX H e s' h).elim
    | ok fl =>
      cases fl with
      | next => exact False.elim h
      | brk => exact False.elim h
      | cont => exact False.elim h
      | ret u =>
        obtain ⟨v, H', os, bare, un, hok', r', q⟩ := h
        have q' : v = .bl true := q
        subst q'
        obtain rfl : u = Value.bool true := r'
        refine ⟨rfl, OldK.of_keep fun b o e => ?_, os, bare⟩
        cases q : H b with
        | none => exact un.keep b o e q (by intro z; exact absurd (show b ∈ ([] : List Addr) from z) (by simp)) (by simp)
        | some u =>
          rcases hO b with z | ⟨ob, xs, z⟩
          · rw [q] at z; cases z
          · have z2 := un.frzs b ob _ z
            obtain ⟨e1, _⟩ := hok b _ z
            obtain ⟨e2, _⟩ := hok' b _ z2
            rw [e] at e1; cases e1
            exact e2
  cases hk : K.lookup a with
  | some o =>
    -- the script is one of the module's own objects
    have e := KX a o hk
    rw [ha] at e
    cases e
    refine core (fun _ => none) (fun _ => .inl rfl) (.inr ⟨_, vs.toArray, _, hk, rfl, rfl, rfl, by rw [List.size_toArray, lenV]; exact hl, by simpa using rv⟩) (fun b u z => by have z' : (none : Option HO) = some u := z; cases z') (fun b z => absurd rfl z) fun z => absurd rfl z
  | none =>
    refine core (fun b => if b = a then some (.frz { cls := .type "list", data := .seq vs.toArray } (.lst (ns.map V.int))) else none) (fun b => ?_) (.inl (.inr ⟨{ cls := .type "list", data := .seq vs.toArray }, if_pos rfl⟩)) (fun b u z => ?_) (fun b z => ?_) fun _ => hk
    · by_cases hb : b = a
      · exact .inr ⟨_, _, if_pos hb⟩
      · exact .inl (if_neg hb)
    · by_cases hb : b = a
      · have z' := (if_pos hb).symm.trans z
        cases z'
        subst hb
        exact ⟨ha, by rw [List.length_map]; exact hl, vs, _, rv, ha⟩
      · have z' := (if_neg hb).symm.trans z
        cases z'
    · by_cases hb : b = a
      · exact hb
      · exact absurd (if_neg hb) z
end L2

namespace L2
open PySem PySem.Spec PyProof.Rows

abbrev KOf {K : PySem.W.Frag} {h : Heap} (_ : K.In h) : PySem.W.Frag := K

/-- the goal that k_head leaves (case hc), from the law's promise. F gives the function object fd (K's own) once, then the promise over every base -/
theorem walk_of {l : PySem.W.OpenLaw} {n k : Nat} {q : Program} {loose : List Str} {XP : (Str → Option Value) → Heap → Prop} {YP : World → Heap → Prop} {d : DefRec} {K : Params → PySem.W.Frag} {CX : World → CXT} {sp : World → Sp} {x : Str}
    (hn : l.most = some n) (hn2 : n ≤ sizeLine) (hdf : d.params.defaults = []) (hr : Room k callerA)
    (hY : ∀ (w : World) (h : Heap), YP w h → (K w.params).In h)
    (F : ∀ (w : World) (mg : Str → Option Value) (fa : Addr) (h : Heap), (K w.params).In h → h.Ns mainGlobals mg → mg d.name = some (.ref fa) →
      ∃ fd : FuncData, (∀ (s : Shared) (u : Value), BindsTo s fd ⟨[u], []⟩ [(x, u)]) ∧
        ∀ base : Heap, (K w.params).In base → base.Ns mainGlobals mg → FnOk l.prog w (K w.params) mg base (CX w) k fa fd [x] (sp w))
    (hsp : ∀ (w : World) (H : Hp) (a : Addr) (ns : List Int), ns.length ≤ n → Only H → SqL (K w.params) H a (ns.map V.int) → sp w [.ref a] H (fun v _ => v = .bl true) fun _ _ _ => False)
    (hCX : ∀ (w : World) (H : Hp) (s : Shared) (e : Value) (s' : Shared), CX w [] H s (fun _ _ _ => False) e s' → False) :
    PySem.W.WalkO q loose XP YP l.row.toRowW d [] (fun f vs => PySem.call f vs) := by
  refine Att.attach_call hn hdf fun w s₀ s₁ mg mb fa o pm cd doc a vs ns G Y ho hd hcd hmg hobj hints hlen hg => ?_
  have KX := hY w _ Y
  obtain ⟨fd, hb, hF⟩ := F w mg fa _ KX G.T.g hmg
  exact law_call KX G.T.g G.T.b G.T.builtins G.T.nolimit hg hobj hints (Nat.le_trans hlen hn2) hr hF hb (fun H hO hS => hsp w H a ns hlen hO hS) fun H e s' => hCX w H s₁ e s'
/-- the same where the promise hangs on the written part alone: (sp := My.sp_law), no hole under a binder -/
theorem walk_ofK {l : PySem.W.OpenLaw} {n k : Nat} {q : Program} {loose : List Str} {XP : (Str → Option Value) → Heap → Prop} {YP : World → Heap → Prop} {d : DefRec} {K : Params → PySem.W.Frag} {CX : CXT} {sp : PySem.W.Frag → Sp} {x : Str}
    (hn : l.most = some n) (hn2 : n ≤ sizeLine) (hdf : d.params.defaults = []) (hr : Room k callerA)
    (hY : ∀ (w : World) (h : Heap), YP w h → (K w.params).In h)
    (F : ∀ (w : World) (mg : Str → Option Value) (fa : Addr) (h : Heap), (K w.params).In h → h.Ns mainGlobals mg → mg d.name = some (.ref fa) →
      ∃ fd : FuncData, (∀ (s : Shared) (u : Value), BindsTo s fd ⟨[u], []⟩ [(x, u)]) ∧
        ∀ base : Heap, (K w.params).In base → base.Ns mainGlobals mg → FnOk l.prog w (K w.params) mg base CX k fa fd [x] (sp (K w.params)))
    (hsp : ∀ (K : PySem.W.Frag) (H : Hp) (a : Addr) (ns : List Int), ns.length ≤ n → Only H → SqL K H a (ns.map V.int) → sp K [.ref a] H (fun v _ => v = .bl true) fun _ _ _ => False)
    (hCX : ∀ (H : Hp) (s : Shared) (e : Value) (s' : Shared), CX [] H s (fun _ _ _ => False) e s' → False) :
    PySem.W.WalkO q loose XP YP l.row.toRowW d [] (fun f vs => PySem.call f vs) :=
  walk_of (K := K) (CX := fun _ => CX) (sp := fun w => sp (K w.params)) hn hn2 hdf hr hY F (fun w H a ns h1 h2 h3 => hsp (K w.params) H a ns h1 h2 h3) fun _ H s e s' => hCX H s e s'
end L2

/- THE LAST THEOREM (shape; LID, My.* are yours):
   My.Adr: a structure of the addresses that your layer names (classes, functions); My.Txt K t: a structure (Prop) of the equations over K;
   My.txt_mk : {K} {implicit addresses ..} (e1 : nsIn K mainGlobals "law" = some (some (.ref f))) (e2 : K.lookup f = some ⟨oc, od, .func (fnOf "law" "law" params body scope dV kV doc pm an cdv ct), sl⟩) (e3 : codeIn K cdv "law" = true) .. : ∃ t, My.Txt K t

set_option maxRecDepth 100000 in
set_option maxHeartbeats 0 in
theorem PySem.Challenge.cw_LID_holds : PySem.Challenge.rw_LID.Holds := by
  w_on; o_law; k_head; (case hw => w_witness2)
  k_fill
  refine L2.walk_of (l := PySem.Challenge.rw_LID) (n := 63) (k := 40) (x := "script") (CX := fun w => ..) (sp := fun _ => My.sp_law) rfl (by decide) rfl ⟨rfl, by decide, by decide⟩ (fun w h Y => PySem.W.kIn_of Y) ?F ?S ?C
  case F =>
    intro w mg fa h KX G hmg
    have T : ∃ t, My.Txt (L2.KOf KX) t := by
      dsimp only [L2.KOf]                          -- K must stand as «<heap const> w.params» for k_is
      refine' My.txt_mk ?e1 ?e2 ?e3 ..
      (case e1 => PySem.W.k_is)                    -- in the order: a name -> its address -> its object -> its parts
      (case e2 => PySem.W.k_is)
      ..
    obtain ⟨t, T⟩ := T
    have e0 := hmg.symm.trans (PySem.W.mg_of KX G T.law)
    cases e0                                       -- fa is the law's own address
    exact ⟨_, fun s u => .of_eq rfl, fun base kb nb => My.law_fn T kb nb⟩     -- if «.of_eq rfl» comes too early: refine' ⟨_, ?b, fun base kb nb => My.law_fn T kb nb⟩; exact fun s u => .of_eq rfl
  case S => exact fun w H a ns hl hO hS => ..
  case C => exact ..
(the tactic k_is has no namespace: write k_is) -/

/-! SHORT WORDS over the layer: a def of the text, its body, what a loop and a test want. -/
namespace L2
open PySem PySem.Spec PyProof.Rows

/-! ### the text by places -/
/-- the j-th statement of a class's body -/
def inClass (s : Stmt) (j : Nat) : Stmt := match s with
  | .ClassDef _ _ _ body _ _ _ _ _ _ _ => body.getD j (.Pass ⟨0, 0, 0, 0⟩)
  | _ => .Pass ⟨0, 0, 0, 0⟩
def defArgs (s : Stmt) : Arguments := match s with
  | .FunctionDef _ a _ _ _ _ _ _ _ _ => a
  | _ => { posonlyargs := [], args := [], vararg := none, kwonlyargs := [], kw_defaults := [], kwarg := none, defaults := [] }
def defBody (s : Stmt) : List Stmt := match s with
  | .FunctionDef _ _ b _ _ _ _ _ _ _ => b
  | _ => []
def defScope (s : Stmt) : Scope := match s with
  | .FunctionDef _ _ _ _ _ _ sc _ _ _ => sc
  | _ => { kind := .function, names := [], isGenerator := false, isCoroutine := false }

/-! ### no exception leaves a def -/
abbrev CX0 : CXT := fun _ _ _ _ _ _ => False
abbrev E0 : XK := fun _ _ _ => False
theorem pass0 {X : Cx} : Passes CX0 X E0 := fun _ _ _ _ _ _ _ h => h.elim

/-! ### a def (or method) of the text as it stands behind the top -/
structure Fun (K : PySem.W.Frag) (x qual : Str) (st : Stmt) (f : Addr) (fd : FuncData) : Prop where
  ex : ∃ (oc : Value) (od : Option Addr) (kV doc pm : Value) (an : Option Addr) (cdv ct : Value) (osl : Array (Option Value)),
    fd = PySem.W.fnOf x qual (defArgs st) (defBody st) (defScope st) .none kV doc pm an cdv ct ∧ K.lookup f = some ⟨oc, od, .func fd, osl⟩ ∧ PySem.W.codeIn K cdv qual = true
  kp : PySem.W.keepIn K (.ref f) = true
section
variable {P : Program} {w : World} {K : PySem.W.Frag} {mg : Str → Option Value} {base : Heap}
/-- THE RULE for a def: its body as a term of rules, and the reading of that term -/
theorem Fun.ok {x qual : Str} {st : Stmt} {f : Addr} {fd : FuncData} {N ps : List Str} {k : Nat} {sp : Sp} (F : Fun K x qual st f fd) (S : FnScope N ps (defScope st)) (len : ∀ vs H Q E, sp vs H Q E → vs.length = ps.length)
    (hbody : ∀ (cdv : Value) (A : Around) (outer : List Env) (s : Shared) (H : Hp) (vs : List V) (Q : VK) (E : XK), Room k (A.deeper (envOfC qual (defScope st) s.heap.objs.size f cdv)) → sp vs H Q E →
      ∃ t, PSs (cxOf CX0 P w K mg base N qual (defScope st) f cdv A outer s H E).nox (defBody st) t ∧ t { nx := fun _ H' => Q .non H', rt := Q } (start N vs) H) : FnOk P w K mg base CX0 (k + 1) f fd ps sp := by
  obtain ⟨oc, od, kV, doc, pm, an, cdv, ct, osl, rfl, lk, hcd⟩ := F.ex
  refine fn_of lk hcd S len fun A outer s H vs Q E hr hsp => ?_
  obtain ⟨t, h, q⟩ := hbody cdv A outer s H vs Q E hr hsp
  exact ⟨t, h.nox, q⟩
/-- how its arguments bind (no defaults): h is «fun _ _ _ _ _ _ us hl => match us, hl with | [_, _], _ => rfl», one _ a parameter -/
theorem Fun.binds {x qual : Str} {st : Stmt} {f : Addr} {fd : FuncData} {ps : List Str} (F : Fun K x qual st f fd)
    (h : ∀ (kV doc pm : Value) (an : Option Addr) (cdv ct : Value) (us : List Value), us.length = ps.length → bindArgs (PySem.W.fnOf x qual (defArgs st) (defBody st) (defScope st) .none kV doc pm an cdv ct) ⟨us, []⟩ = pure (ps.zip us)) : Binds K fd ps [] := by
  obtain ⟨oc, od, kV, doc, pm, an, cdv, ct, osl, rfl, lk, hcd⟩ := F.ex
  exact .all (h kV doc pm an cdv ct)
theorem fun_mk {x qual : Str} {st : Stmt} {f : Addr} {oc : Value} {od an : Option Addr} {osl : Array (Option Value)} {kV doc pm cdv ct : Value} (l : K.lookup f = some ⟨oc, od, .func (PySem.W.fnOf x qual (defArgs st) (defBody st) (defScope st) .none kV doc pm an cdv ct), osl⟩)
    (c : PySem.W.codeIn K cdv qual = true) (k : PySem.W.keepIn K (.ref f) = true) : Fun K x qual st f (PySem.W.fnOf x qual (defArgs st) (defBody st) (defScope st) .none kV doc pm an cdv ct) := ⟨⟨oc, od, kV, doc, pm, an, cdv, ct, osl, rfl, l, c⟩, k⟩
end
theorem hu_of {A : Around} {k : Nat} (hr : Room k A) : A.units + 1 < cLine := Nat.lt_of_le_of_lt (Nat.add_le_add_left (by decide : 1 ≤ 64) _) hr.units
theorem small1000 {n : Nat} (h : n ≤ 1000) : n < sizeLine := Nat.lt_of_le_of_lt h (by decide)

/-! ### expressions in short: the name that stands in the i-th slot -/
section
variable {X : Cx}
theorem pv (i : Nat) {x : Str} {pos : Pos} (hN : X.N[i]? = some x := by rfl) (hv : Vis X.env.scope x := by first | exact Or.inl rfl | exact Or.inr (Or.inl rfl) | exact Or.inr (Or.inr rfl)) (hd : (x == ("__debug__" : Str)) = false := by decide)
    (hcd : (x == ("__classdict__" : Str)) = false := by decide) : PE X (.Name x pos) (tVar i) := pe_var hN hv hd hcd
/-- len of a dict -/
theorem call_lenD : CallR X (.builtin "len") (fun xs H Q => ∃ a kvs, xs = [V.ref a] ∧ H a = some (.dK kvs) ∧ Q (.int kvs.length) H) := by
  intro pins s σ H xs us Q I r h
  obtain ⟨a, kvs, rfl, ha, q⟩ := h
  obtain ⟨u, rfl, ru⟩ := vals1 r
  cases ru
  exact d_len I (.inl ha) fun t s' I' => ⟨.int kvs.length, H, I', ⟨t, rfl⟩, q⟩
end

/-! ### tests -/
theorem iteF {A B : Prop} (h : B) : if false = true then A else B := by
  rw [if_neg Bool.false_ne_true]
  exact h
theorem iteT {A B : Prop} (h : A) : if true = true then A else B := by
  rw [if_pos rfl]
  exact h
theorem ite2 {c A B : Prop} [Decidable c] (h1 : c → A) (h2 : ¬ c → B) : if c then A else B := by
  by_cases h : c
  · rw [if_pos h]
    exact h1 h
  · rw [if_neg h]
    exact h2 h
theorem iteNS {c A B : Prop} [Decidable c] (hc : c) (h : B) : if (!decide c) = true then A else B := by
  rw [decide_eq_true hc]
  exact iteF h

/-! ### heaps -/
/-- all that was tracked is as it was -/
def Same (H H' : Hp) : Prop := ∀ b o, H b = some o → H' b = some o
theorem Same.refl (H : Hp) : Same H H := fun _ _ h => h
theorem Same.trans {H H1 H2 : Hp} (a : Same H H1) (b : Same H1 H2) : Same H H2 := fun c o h => b c o (a c o h)
theorem Same.free {H H' : Hp} (e : Same H H') {l : Addr} (h : H' l = Option.none) : H l = Option.none := by
  cases q : H l with
  | none => rfl
  | some o =>
    rw [e l o q] at h
    cases h
theorem Same.seq {K : PySem.W.Frag} {H H' : Hp} {a : Addr} {xs : List V} (e : Same H H') (h : SqL K H a xs) : SqL K H' a xs := by
  rcases h with (h | ⟨o, h⟩) | h
  · exact .inl (.inl (e _ _ h))
  · exact .inl (.inr ⟨o, e _ _ h⟩)
  · exact .inr h

/-! ### a dict's pairs: keys that differ -/
section
variable {κ : Type} [DecidableEq κ]
theorem valV_not {kvs : List (κ × V)} {k : κ} (h : valV kvs k = none) : ¬ k ∈ kvs.map (·.1) := by
  intro m
  obtain ⟨p, hp, e⟩ := List.mem_map.mp m
  have q : (kvs.any fun kv => decide (kv.1 = k)) = true := List.any_eq_true.mpr ⟨p, hp, decide_eq_true e⟩
  rw [valV_any, h] at q
  exact absurd q (by simp)
theorem valV_in {kvs : List (κ × V)} {k : κ} {v : V} (h : valV kvs k = some v) : k ∈ kvs.map (·.1) := by
  have q : (kvs.any fun kv => decide (kv.1 = k)) = true := by
    rw [valV_any, h]
    all_goals rfl
  obtain ⟨p, hp, e⟩ := List.any_eq_true.mp q
  exact List.mem_map.mpr ⟨p, hp, of_decide_eq_true e⟩
theorem nd_snoc : ∀ {l : List κ} {k : κ}, l.Nodup → ¬ k ∈ l → (l ++ [k]).Nodup
  | [], k, _, _ => by simp
  | a :: r, k, h, hk => by
    obtain ⟨h1, h2⟩ := List.nodup_cons.mp h
    show (a :: (r ++ [k])).Nodup
    refine List.nodup_cons.mpr ⟨fun m => ?_, nd_snoc h2 fun m => hk (List.mem_cons.mpr (Or.inr m))⟩
    rcases List.mem_append.mp m with q | q
    · exact h1 q
    · exact hk (List.mem_cons.mpr (Or.inl (List.mem_singleton.mp q).symm))
theorem nd_putK {kvs : List (κ × V)} {k : κ} (v : V) (hn : (kvs.map (·.1)).Nodup) (h : valV kvs k = none) : ((putK kvs k v).map (·.1)).Nodup := by
  rw [putK_new v h, List.map_append]
  exact nd_snoc hn (valV_not h)
theorem dropK_pos {p : κ × V} {r : List (κ × V)} {k : κ} (e : p.1 = k) : dropK (p :: r) k = dropK r k := by
  unfold dropK
  rw [List.filter_cons, if_neg (by simp [e])]
theorem dropK_neg {p : κ × V} {r : List (κ × V)} {k : κ} (e : ¬ p.1 = k) : dropK (p :: r) k = p :: dropK r k := by
  unfold dropK
  rw [List.filter_cons, if_pos (by simp [e])]
theorem dropK_no : ∀ {kvs : List (κ × V)} {k : κ}, ¬ k ∈ kvs.map (·.1) → dropK kvs k = kvs
  | [], _, _ => rfl
  | p :: r, k, h => by
    have h' : ¬ k ∈ r.map (·.1) := fun m => by
      obtain ⟨q, hq, e⟩ := List.mem_map.mp m
      exact h (List.mem_map.mpr ⟨q, List.mem_cons.mpr (Or.inr hq), e⟩)
    rw [dropK_neg fun e => h (List.mem_map.mpr ⟨p, List.mem_cons.mpr (Or.inl rfl), e⟩), dropK_no h']
theorem dropK_mem {kvs : List (κ × V)} {k : κ} {p : κ × V} (h : p ∈ dropK kvs k) : p ∈ kvs := (List.mem_filter.mp h).1
theorem nd_dropK : ∀ {kvs : List (κ × V)} {k : κ}, (kvs.map (·.1)).Nodup → ((dropK kvs k).map (·.1)).Nodup
  | [], _, _ => List.nodup_nil
  | p :: r, k, h => by
    have h : (p.1 :: r.map (·.1)).Nodup := h
    obtain ⟨h1, h2⟩ := List.nodup_cons.mp h
    by_cases e : p.1 = k
    · rw [dropK_pos e]
      exact nd_dropK h2
    · rw [dropK_neg e]
      show (p.1 :: (dropK r k).map (·.1)).Nodup
      refine List.nodup_cons.mpr ⟨fun m => h1 ?_, nd_dropK h2⟩
      obtain ⟨q, hq, eq⟩ := List.mem_map.mp m
      exact List.mem_map.mpr ⟨q, dropK_mem hq, eq⟩
theorem dropK_len : ∀ {kvs : List (κ × V)} {k : κ}, (kvs.map (·.1)).Nodup → k ∈ kvs.map (·.1) → (dropK kvs k).length + 1 = kvs.length
  | [], _, _, m => by simp at m
  | p :: r, k, h, m => by
    have h : (p.1 :: r.map (·.1)).Nodup := h
    have m : k = p.1 ∨ k ∈ r.map (·.1) := List.mem_cons.mp m
    obtain ⟨h1, h2⟩ := List.nodup_cons.mp h
    by_cases e : p.1 = k
    · subst e
      rw [dropK_pos rfl, dropK_no h1]
      all_goals rfl
    · have m' : k ∈ r.map (·.1) := m.resolve_left fun z => e z.symm
      have q := dropK_len h2 m'
      rw [dropK_neg e, List.length_cons, List.length_cons]
      omega
end
end L2

set_option Elab.async false
set_option linter.all false
set_option maxRecDepth 100000
set_option maxHeartbeats 4000000
namespace L2
open PySem PySem.Spec PyProof.Rows

/-! ### comprehensions of one clause that never raise -/
def SrcOk (X : Cx) (scope : Scope) : List (Str × Option Nat) → Prop
  | [] => True
  | (_, none) :: r => SrcOk X scope r
  | (x, some j) :: r => (X.N[j]? = some x ∧ scope.names.lookup x = some .free ∧ (X.env.kindOf x = some .cell ∨ X.env.kindOf x = some .free)) ∧ SrcOk X scope r
def srcV (l : List (Str × Option Nat)) (σ : St) : St := l.map fun p => p.2.bind fun j => (σ[j]?).join
theorem SrcOk.get {X : Cx} {scope : Scope} : ∀ {l : List (Str × Option Nat)}, SrcOk X scope l → ∀ {i : Nat} {x : Str} {j : Nat}, l[i]? = some (x, some j) →
    X.N[j]? = some x ∧ scope.names.lookup x = some .free ∧ (X.env.kindOf x = some .cell ∨ X.env.kindOf x = some .free)
  | [], _, i, x, j, e => by simp at e
  | (y, none) :: r, h, 0, x, j, e => by simp at e
  | (y, none) :: r, h, i + 1, x, j, e => SrcOk.get (l := r) h (i := i) (by simpa using e)
  | (y, some k) :: r, h, 0, x, j, e => by
    simp at e
    obtain ⟨rfl, rfl⟩ := e
    exact h.1
  | (y, some k) :: r, h, i + 1, x, j, e => SrcOk.get (l := r) h.2 (i := i) (by simpa using e)

theorem closure_ok (env : Env) : ∀ (names : List (Str × NameKind)) (cs0 : List (Str × Addr)), (∀ x ∈ names, x.2 = .free → ∃ c, env.cells.lookup x.1 = some c) →
    ∃ cl, (forIn names cs0 (fun (x : Str × NameKind) (cs : List (Str × Addr)) => (if x.2 == .free then do let a ← cellOf env x.1; pure (ForInStep.yield ((x.1, a) :: cs)) else pure (ForInStep.yield cs) : Sem (ForInStep (List (Str × Addr)))))) = pure cl ∧
      (∀ y c, cl.lookup y = some c → env.cells.lookup y = some c ∨ cs0.lookup y = some c) ∧ (∀ x ∈ names, x.2 = .free → ∃ c, cl.lookup x.1 = some c ) ∧ (∀ y, (∃ c, cs0.lookup y = some c) → ∃ c, cl.lookup y = some c)
  | [], cs0, h => ⟨cs0, rfl, fun _ _ e => .inr e, fun _ hx => (nomatch hx), fun _ e => e⟩
  | (n, k) :: r, cs0, h => by
    by_cases hk : k = .free
    · subst hk
      obtain ⟨c, ec⟩ := h (n, .free) List.mem_cons_self rfl
      obtain ⟨cl, e1, e2, e3, e4⟩ := closure_ok env r ((n, c) :: cs0) fun x hx => h x (List.mem_cons_of_mem _ hx)
      have hc : cellOf env n = pure c := by
        unfold cellOf
        have ec' : env.cells.lookup n = some c := ec
        rw [ec']
      have own : ∃ c', cl.lookup n = some c' := e4 n ⟨c, by simp [List.lookup_cons]⟩
      refine ⟨cl, ?_, fun y d e => ?_, fun x hx hf => ?_, fun y ⟨d, e⟩ => ?_⟩
      · rw [List.forIn_cons]
        simp only [beq_self_eq_true, if_true, hc, pure_bind]
        exact e1
      · rcases e2 y d e with z | z
        · exact .inl z
        · rw [List.lookup_cons] at z
          split at z
          · rename_i hy
            have : y = n := by simpa using hy
            subst this
            cases z
            exact .inl ec
          · exact .inr z
      · rcases List.mem_cons.mp hx with rfl | hx
        · exact own
        · exact e3 x hx hf
      · refine e4 y ?_
        rw [List.lookup_cons]
        split
        · exact ⟨_, rfl⟩
        · exact ⟨d, e⟩
    · obtain ⟨cl, e1, e2, e3, e4⟩ := closure_ok env r cs0 fun x hx => h x (List.mem_cons_of_mem _ hx)
      have hb : (k == NameKind.free) = false := by simpa using hk
      refine ⟨cl, ?_, e2, fun x hx hf => ?_, e4⟩
      · rw [List.forIn_cons]
        simp only [hb, Bool.false_eq_true, if_false, pure_bind]
        exact e1
      · rcases List.mem_cons.mp hx with rfl | hx
        · exact absurd hf hk
        · exact e3 x hx hf
theorem closureFor_ok {scope : Scope} {env : Env} (h : ∀ x ∈ scope.names, x.2 = .free → ∃ c, env.cells.lookup x.1 = some c) :
    ∃ cl, closureFor scope env = pure cl ∧ (∀ y c, cl.lookup y = some c → env.cells.lookup y = some c) ∧ ∀ x ∈ scope.names, x.2 = .free → ∃ c, cl.lookup x.1 = some c := by
  obtain ⟨cl, e1, e2, e3, _⟩ := closure_ok env scope.names [] h
  refine ⟨cl, ?_, fun y c e => (e2 y c e).elim id fun z => by simp at z, e3⟩
  unfold closureFor
  have e1' := e1
  simp only [bind_pure_comp] at e1' ⊢
  first
    | (rw [e1']; rfl)
    | (simp only [e1']; rfl)
    | (simpa using e1')

theorem lookup_relabel_free {env : Env} : ∀ {names : List (Str × NameKind)} {x : Str}, names.lookup x = some .free →
    ((names.map fun (n, k) => if (k == NameKind.free && env.scope.kind == .function && env.kindOf n == some .cell) then (n, NameKind.cell) else (n, k)).lookup x = some .cell ∨
     (names.map fun (n, k) => if (k == NameKind.free && env.scope.kind == .function && env.kindOf n == some .cell) then (n, NameKind.cell) else (n, k)).lookup x = some .free)
  | [], _, h => by simp at h
  | (n, k) :: r, x, h => by
    have ih := @lookup_relabel_free env r x
    show List.lookup x ((if (k == NameKind.free && env.scope.kind == .function && env.kindOf n == some .cell) = true then (n, NameKind.cell) else (n, k)) :: _) = _ ∨ List.lookup x ((if (k == NameKind.free && env.scope.kind == .function && env.kindOf n == some .cell) = true then (n, NameKind.cell) else (n, k)) :: _) = _
    cases hx : x == n with
    | true =>
      simp only [List.lookup_cons, hx] at h
      cases h
      by_cases hc : (NameKind.free == NameKind.free && env.scope.kind == .function && env.kindOf n == some .cell) = true
      · rw [if_pos hc]; left; simp [List.lookup_cons, hx]
      · rw [if_neg hc]; right; simp [List.lookup_cons, hx]
    | false =>
      simp only [List.lookup_cons, hx] at h
      by_cases hc : (k == NameKind.free && env.scope.kind == .function && env.kindOf n == some .cell) = true
      · rw [if_pos hc]; simp only [List.lookup_cons, hx]; exact ih h
      · rw [if_neg hc]; simp only [List.lookup_cons, hx]; exact ih h
/-- a cell or free name of the relabelled scope was free -/
theorem relabel_back {env : Env} {x : Str} : ∀ {names : List (Str × NameKind)}, (∀ y ∈ names, y.2 ≠ .cell) →
    ((names.map fun (n, k) => if (k == NameKind.free && env.scope.kind == .function && env.kindOf n == some .cell) then (n, NameKind.cell) else (n, k)).lookup x = some .cell ∨
     (names.map fun (n, k) => if (k == NameKind.free && env.scope.kind == .function && env.kindOf n == some .cell) then (n, NameKind.cell) else (n, k)).lookup x = some .free) → (x, NameKind.free) ∈ names
  | [], _, h => by simp at h
  | (n, k) :: r, hc, h => by
    have ih := @relabel_back env x r fun y hy => hc y (List.mem_cons_of_mem _ hy)
    have hk : k ≠ .cell := hc (n, k) List.mem_cons_self
    simp only [List.map_cons] at h
    by_cases hb : (k == NameKind.free && env.scope.kind == .function && env.kindOf n == some .cell) = true
    · rw [if_pos hb] at h
      have hkf : k = .free := by
        have := (Bool.and_eq_true_iff.mp (Bool.and_eq_true_iff.mp hb).1).1
        simpa using this
      by_cases hx : x = n
      · rw [hx, hkf]; exact List.mem_cons_self
      · have hx' : (x == n) = false := by simpa using hx
        simp only [List.lookup_cons, hx'] at h
        exact List.mem_cons_of_mem _ (ih h)
    · rw [if_neg hb] at h
      by_cases hx : x = n
      · have hx' : (x == n) = true := by simpa using hx
        simp only [List.lookup_cons, hx'] at h
        rcases h with h | h
        · exact absurd (Option.some.inj h) hk
        · rw [hx, Option.some.inj h]; exact List.mem_cons_self
      · have hx' : (x == n) = false := by simpa using hx
        simp only [List.lookup_cons, hx'] at h
        exact List.mem_cons_of_mem _ (ih h)

/-- the context of a comprehension's block -/
def cxComp (X : Cx) (l : List (Str × Option Nat)) (scope : Scope) (cl : List (Str × Addr)) (C : Addr) (fp : List Addr) (s3 : Shared) (H3 : Hp) : Cx :=
  { X with N := l.map (·.1), s₀ := s3, H₀ := H3, env := compEnvC scope cl C X.env, outer := X.stack, ex := fp, fn := fun _ => false, pn := [], xe := fun _ _ => False }

/-- the tests of a clause -/
def PIf (X : Cx) (ifs : List Expr) (t : TT) : Prop :=
  ∀ (pins : List (Addr × Obj)) (s : Shared) (σ : St) (H : Hp) (Q : Bool → Hp → Prop), Inv X pins σ H s → t σ H Q →
    wpAny (model X.prog X.w) X.A (forIn ifs true fun c r => if r = true then do let ok ← isTrue c X.env (eval c X.env); pure (ForInStep.yield ok) else pure (ForInStep.yield r)) (TP X pins σ Q) X.xe s
def tYes : TT := fun _ H Q => Q true H
theorem pif_nil {X : Cx} : PIf X [] tYes := fun _ _ _ H _ I h => wpAny_tests_nil ⟨H, I, h⟩
theorem pif_one {X : Cx} {c : Expr} {t : TT} (h : PT X c t) : PIf X [c] t := fun pins s σ H Q I hw => wpAny_tests_one (h pins s σ H Q I hw)

theorem compLoop_any {prog : Program} {w : World} {A : Around} {R : Result → Shared → Prop} {s : Shared} {elt target iter : Expr} {ifs : List Expr} {scope : Scope} {pos : Pos} {it acc : Value} {env : Env} (I : Nat → Shared → Prop)
    (turn : ∀ n s, I n s → wpAny (model prog w) A (pyNext it) (fun r s₁ => match r with
      | none => R (.ok .next) s₁
      | some v => wpAny (model prog w) A (letOwnedTupleGo target it v) (fun _ s₁' => wpAny (model prog w) A (assign target env v) (fun _ s₂ =>
          wpAny (model prog w) A (forIn ifs true fun c r => if r = true then do let ok ← isTrue c env (eval c env); pure (ForInStep.yield ok) else pure (ForInStep.yield r)) (fun ok s₃ =>
            if ok = true then wpAny (model prog w) A (eval elt env) (fun x s₄ =>
              wpAny (model prog w) A (call (.builtin "list.append") [acc, x]) (fun _ s₅ => ∃ m, m < n ∧ I m s₅) (fun _ _ => False) s₄) (fun _ _ => False) s₃
            else ∃ m, m < n ∧ I m s₃) (fun _ _ => False) s₂) (fun _ _ => False) s₁') (fun _ _ => False) s₁) (fun _ _ => False) s)
    (n : Nat) (h : I n s) :
    codeAny (model prog w) A (.compLoop (.ListComp elt [⟨target, iter, ifs, 0⟩] scope pos) 0 it acc env) R s := by
  have no : ∀ {α : Type} {t : Sem α} {Q : α → Shared → Prop} {E : Value → Shared → Prop} {s : Shared}, wpAny (model prog w) A t Q (fun _ _ => False) s → wpAny (model prog w) A t Q E s := fun h => wpAny_mono h (fun _ _ q => q) fun _ _ f => f.elim
  refine codeAny_loop rfl I (fun n s hI => ?_) n h
  show wpAny _ A ((compTurn (.ListComp elt [⟨target, iter, ifs, 0⟩] scope pos) 0 it acc env).onRaise (fun x => do noteFrame x env; theTreesLotGoes x)) _ _ s
  refine wpAny_noted ?_
  rw [compTurn_list]
  refine wpAny_bind (wpAny_standAt (wpAny_bind (thn (no (turn n s hI)) (fun r s₁ h₁ => ?_))))
  cases r with
  | none => exact wpAny_pure h₁
  | some v =>
    refine wpAny_bind (thn (no h₁) fun _ s1' h1' => ?_)
    refine wpAny_bind (thn (no h1') (fun _ s₂ h₂ => wpAny_bind (thn (no h₂) (fun ok s₃ h₃ => ?_))))
    cases ok with
    | false => exact wpAny_pure ⟨rfl, h₃⟩
    | true =>
      exact wpAny_bind (wpAny_bind (thn (no h₃) (fun x s₄ h₄ => wpAny_bind (thn (no h₄) (fun _ s₅ h₅ => wpAny_pure (wpAny_pure ⟨rfl, h₅⟩))))))

/-- what a comprehension asks -/
def CompW (l : List (Str × Option Nat)) (g : TG) (tt : TT) (te : TE) (J : It) (σ : St) (H1 : Hp) (Q : Addr → Hp → Prop) : Prop :=
  ∀ D, H1 D = none → ∃ W : Nat → Nat → List V → St → Hp → Prop, (∃ m, W 0 m [] (srcV l σ) (upd H1 D (.lst []))) ∧ ∀ i m ys σ1 H2, W i m ys σ1 H2 →
    (J.stop i H2 ∧ Q D H2) ∨ (J.go i H2 ∧ ∀ x H3, J.yld i H2 x H3 → g x σ1 H3 fun σ2 H4 => tt σ2 H4 fun b H5 =>
      if b = true then te σ2 H5 fun v H6 => H6 D = some (.lst ys) ∧ ys.length < sizeLine ∧ ∃ m', m' < m ∧ W (i + 1) m' (ys ++ [v]) σ2 (upd H6 D (.lst (ys ++ [v]))) else ∃ m', m' < m ∧ W (i + 1) m' ys σ2 H5)
def tCompB (l : List (Str × Option Nat)) (wi : TI) (g : TG) (tt : TT) (te : TE) (σ : St) (H : Hp) (Q : Addr → Hp → Prop) : Prop :=
  wi σ H fun J H1 => CompW l g tt te J σ H1 Q

theorem comp_core {X : Cx} {elt tg iter : Expr} {ifs : List Expr} {scope : Scope} {cl : List (Str × Addr)} {pos : Pos} {l : List (Str × Option Nat)} {g : TG} {tt : TT} {te : TE}
    (hclos : closureFor scope X.env = pure cl) (hcl1 : ∀ y c, cl.lookup y = some c → X.env.cells.lookup y = some c) (hcl2 : ∀ x ∈ scope.names, x.2 = .free → ∃ c, cl.lookup x.1 = some c)
    (hkind : scope.kind = .function) (hcell : ∀ y ∈ scope.names, y.2 ≠ .cell) (hcalm : X.calm = true) (hsrc : SrcOk X scope l)
    (hg : ∀ C fp s3 H3, PG (cxComp X l scope cl C fp s3 H3) tg g) (ht : ∀ C fp s3 H3, PIf (cxComp X l scope cl C fp s3 H3) ifs tt) (he : ∀ C fp s3 H3, PE (cxComp X l scope cl C fp s3 H3) elt te)
    {pins : List (Addr × Obj)} {σ : St} {H : Hp} {s : Shared} {it : Addr} {fp : List Addr} {tn : Nat → Heap → Prop} {J : It} {Q : Addr → Hp → Prop} {RR : Value → Addr → Result → Shared → Prop} {E : Value → Shared → Prop}
    (I : Inv X pins σ H s) (T : Turn X.prog X.w X.K tg J fp it tn) (st : tn 0 s.heap) (hfp : ∀ b ∈ fp, FpOk X pins H b)
    (hw : CompW l g tt te J σ H Q)
    (hRR : ∀ D C (s' : Shared) (H' : Hp), Q D H' → (∃ m, s'.heap.Ns C m) → Inv X pins σ H' s' → FpOk X pins H' C → RR (.ref D) C (.ok .next) s') :
    wpAny (model X.prog X.w) X.A (newList []) (fun acc s₃ => wpAny (model X.prog X.w) X.A (newFunctionEnv scope X.env.globals cl [] X.env.qual none .none (some X.env)) (fun cenv s₄ =>
      codeAny (model X.prog X.w) X.A (.compStart (.ListComp elt [⟨tg, iter, ifs, 0⟩] scope pos) 0 (.ref it) acc { cenv with scope := relabel scope X.env }) (RR acc cenv.locals) s₄) E s₃) E s := by
  refine wpAny_newList ?_ (by show 0 ≤ sizeLine; exact Nat.zero_le _)
  have I3 : Inv X pins σ (upd H s.heap.objs.size (.lst [])) { s with heap := s.heap.push { cls := .type "list", data := .seq ([] : List Value).toArray } } :=
    I.lnew (its := []) (ys := []) (t' := s.toks) .nil (Nat.zero_le _)
  have hD : H s.heap.objs.size = none := I.fresh
  obtain ⟨W, ⟨m0, w0⟩, turn⟩ := hw _ hD
  have fpD : ∀ b ∈ fp, b ≠ s.heap.objs.size := fun b hb z => by
    obtain ⟨o, ho, _⟩ := T.obj _ _ st b hb
    exact absurd (Heap.lt_size ho) (by rw [z]; exact Nat.lt_irrefl _)
  have hfp3 : ∀ b ∈ fp, FpOk X pins (upd H s.heap.objs.size (.lst [])) b := fun b hb => ⟨by rw [upd_ne (fpD b hb)]; exact (hfp b hb).1, (hfp b hb).2⟩
  have st3 : tn 0 (s.heap.push { cls := .type "list", data := .seq ([] : List Value).toArray }) := T.keep _ _ _ st fun b _ o e => Heap.get?_push_of_some _ e
  generalize hDe : s.heap.objs.size = D at *
  generalize hs3 : ({ s with heap := s.heap.push { cls := .type "list", data := .seq ([] : List Value).toArray } } : Shared) = s3 at *
  have st3' : tn 0 s3.heap := by rw [← hs3]; exact st3
  generalize hH3 : upd H D (HO.lst []) = H3 at *
  refine wpAny_newFunctionEnv hcell (fun x hx => nomatch hx) (fun h4 hns hsb => ?_) hkind
  have eC : (newEnv scope s3.heap.objs.size X.env.globals cl X.env.qual none Value.none (some X.env) 0).locals = s3.heap.objs.size := rfl
  generalize hC : s3.heap.objs.size = C at *
  have eE : ({ newEnv scope C X.env.globals cl X.env.qual none Value.none (some X.env) 0 with scope := relabel scope X.env } : Env) = compEnvC scope cl C X.env := rfl
  have old : ∀ b o, s3.heap.get? b = some o → h4.get? b = some o := fun b o e => by
    have hb : b ≠ C := by rw [← hC]; exact Nat.ne_of_lt (Heap.lt_size e)
    exact (hsb.2 b hb).trans (Heap.get?_push_of_some _ e)
  have fpC : ∀ b ∈ fp, b ≠ C := fun b hb z => by
    obtain ⟨o, ho, _⟩ := T.obj _ _ st3' b hb
    exact absurd (Heap.lt_size ho) (by rw [z, hC]; exact Nat.lt_irrefl _)
  have cellC : ∀ y c, cl.lookup y = some c → c ≠ C := fun y c e z => by
    obtain ⟨v, q⟩ := I3.cell y c (hcl1 y c e)
    exact absurd q.lt (by rw [z, hC]; exact Nat.lt_irrefl _)
  have H3C : H3 C = none := by
    have := I3.fresh
    rw [hC] at this
    exact this
  have DC : D ≠ C := by
    intro z
    have := (show H3 D = some (.lst []) by rw [← hH3]; exact upd_same)
    rw [z, H3C] at this; cases this
  -- the block's context
  have OK : (cxComp X l scope cl C fp s3 H3).Ok := {
    mod := I3.ok.mod
    kind := hkind
    glob := I3.ok.glob
    blt := I3.ok.blt
    above := Nat.le_of_eq hC
    inj := fun x y c e1 e2 => I3.ok.inj x y c (hcl1 x c e1) (hcl1 y c e2)
    has := fun x hx => hcl2 (x, .free) (relabel_back hcell hx) rfl
    cab := fun x c hf _ => by cases hf
    hd := I3.ok.hd
    frames := I3.ok.frames
    stk := .inl rfl
    exf := fun b hb => ⟨fpC b hb, fun x c e => (hfp3 b hb).2.2.2.2.1 x c (hcl1 x c e)⟩
    bs := fun b o e => I3.bs b o e
    bsz := Nat.le_trans I3.ok.bsz I3.sz
    noex := fun b o e hb => by
      rcases (hfp3 b hb).2.2.2.1 with z | z
      · exact I3.ok.noex b o e z
      · exact absurd (Nat.lt_of_lt_of_le (Heap.lt_size e) (Nat.le_trans I3.ok.bsz z)) (Nat.lt_irrefl _)
    exfs := fun b hb hz => by
      rcases List.mem_cons.mp (I3.stkSub b hz) with z | z
      · exact (hfp3 b hb).2.1 z
      · exact (hfp3 b hb).2.2.1 z
    funs := I3.stack
    frf := I3.stkFree }
  have fpX : ∀ {H' : Hp}, (∀ b ∈ fp, H' b = none) → ∀ b ∈ fp, FpOk (cxComp X l scope cl C fp s3 H3) [] H' b := fun hn b hb =>
    ⟨hn b hb, fpC b hb, OK.exfs b hb, .inl hb, fun x c e => (hfp3 b hb).2.2.2.2.1 x c (hcl1 x c e), fun p hp => nomatch hp⟩
  have I4 : Inv (cxComp X l scope cl C fp s3 H3) [] (srcV l σ) H3 { s3 with heap := h4, toks := s3.toks + ([] : List (Str × Value)).length } := {
    ok := OK
    os := rfl
    bare := I3.bare
    base := Un.kept old
    loc := by
      refine ⟨_, hns, fun i x v e1 e2 e3 => ?_⟩
      have e1' : (l.map (·.1))[i]? = some x := e1
      have e2' : (l.map fun p => p.2.bind fun j => (σ[j]?).join)[i]? = some (some v) := e2
      rw [List.getElem?_map] at e1' e2'
      cases el : l[i]? with
      | none => rw [el] at e1'; cases e1'
      | some p =>
        rw [el] at e1' e2'
        obtain ⟨y, o⟩ := p
        have e1'' : y = x := Option.some.inj e1'
        subst e1''
        cases o with
        | none => cases e2'
        | some j =>
          have e2'' : (σ[j]?).join = some v := Option.some.inj e2'
          have ej : σ[j]? = some (some v) := by
            cases q : σ[j]? with
            | none => rw [q] at e2''; cases e2''
            | some z => rw [q] at e2''; exact congrArg some e2''
          obtain ⟨k1, k2, k3⟩ := hsrc.get el
          obtain ⟨m, hn, hl⟩ := I3.loc
          obtain ⟨u, r, lk⟩ := hl j y v k1 ej (k3.elim (fun z => .inr (.inl z)) fun z => .inr (.inr z))
          refine ⟨u, r, .inr ⟨lookup_relabel_free k2, ?_⟩⟩
          rcases lk with ⟨z, _⟩ | ⟨_, c, ec, hcell'⟩
          · rcases k3 with k3 | k3 <;> (rw [z] at k3; cases k3)
          · have hm : (y, NameKind.free) ∈ scope.names := by
              have : ∀ {names : List (Str × NameKind)}, names.lookup y = some NameKind.free → (y, NameKind.free) ∈ names := by
                intro names
                induction names with
                | nil => intro h; simp at h
                | cons q r ih =>
                  intro h
                  obtain ⟨n, k⟩ := q
                  rw [List.lookup_cons] at h
                  split at h
                  · rename_i hy
                    have : y = n := by simpa using hy
                    subst this
                    cases h
                    exact List.mem_cons_self
                  · exact List.mem_cons_of_mem _ (ih h)
              exact this k2
            obtain ⟨c', ec'⟩ := hcl2 _ hm rfl
            have : c' = c := by
              have := hcl1 _ _ ec'
              rw [ec] at this
              exact (Option.some.inj this).symm
            subst this
            obtain ⟨o, ho, hd⟩ := hcell'
            exact ⟨c', ec', o, old _ _ ho, hd⟩
    cell := fun x c e => by
      obtain ⟨v, o, ho, hd⟩ := I3.cell x c (hcl1 x c e)
      exact ⟨v, o, old _ _ ho, hd⟩
    free := H3C
    freeC := fun x c e => I3.freeC x c (hcl1 x c e)
    pin := fun p hp => nomatch hp
    hok := I3.hok.kept old
    len := by show (List.map _ l).length = (List.map _ l).length; rw [List.length_map, List.length_map] }
  have st4 : tn 0 h4 := T.keep _ _ _ st3' fun b _ o e => old b o e
  have loop : ∀ s4 : Shared, s4 = { s3 with heap := h4, toks := s3.toks + ([] : List (Str × Value)).length } →
      codeAny (model X.prog X.w) X.A (.compLoop (.ListComp elt [⟨tg, iter, ifs, 0⟩] scope pos) 0 (.ref it) (.ref D) (compEnvC scope cl C X.env)) (RR (.ref D) C) s4 := by
    rintro s4 rfl
    refine compLoop_any (fun n s' => ∃ i ys σ' H', Inv (cxComp X l scope cl C fp s3 H3) [] σ' H' s' ∧ tn i s'.heap ∧ (∀ b ∈ fp, H' b = none) ∧ W i n ys σ' H') ?_ m0
      ⟨0, [], srcV l σ, H3, I4, st4, fun b hb => (hfp3 b hb).1, w0⟩
    rintro n s5 ⟨i, ys, σ5, H5, I5, st5, fr5, w5⟩
    rcases turn i n ys σ5 H5 w5 with ⟨stop, q⟩ | ⟨go, step⟩
    · refine thn (T.done (cxComp X l scope cl C fp s3 H3) rfl rfl rfl hcalm i [] s5 σ5 H5 _ I5 (fpX fr5) st5 stop) fun r s6 ⟨hr, I6⟩ => ?_
      subst hr
      obtain ⟨m6, hn6, _⟩ := I6.loc
      have u : Un (frs X.stack) fp H3 H5 s3.heap s6.heap := I6.base
      refine hRR D C s6 H5 q ⟨m6, hn6⟩ (I3.call' (s' := s6) (ch := fp) I6.os u I6.hok I6.bare fun b hb => ⟨(hfp3 b hb).2.2.2.1, (hfp3 b hb).2.1, (hfp3 b hb).2.2.2.2.1, (hfp3 b hb).2.2.2.2.2⟩) ?_
      have hle : s3.heap.objs.size ≤ C := Nat.le_of_eq hC
      have f0 := I3.fpOk (H' := H5) hle I6.free
      exact f0
    · refine thn (T.item (cxComp X l scope cl C fp s3 H3) rfl rfl rfl hcalm i [] s5 σ5 H5 _ I5 (fpX fr5) st5 go) fun r s6 ⟨u, hr, h6⟩ => ?_
      subst hr
      refine thn h6 fun _ s7 ⟨x, H7, I7, r7, y7, st7, fr7⟩ => ?_
      have I7' := I7.pinned (fpX fr7) (T.obj _ _ st7)
      have back : ∀ {σ8 : St} {H8 : Hp} {s8 : Shared}, Inv (cxComp X l scope cl C fp s3 H3) ([] ++ pinsAt fp s7.heap) σ8 H8 s8 → Inv (cxComp X l scope cl C fp s3 H3) [] σ8 H8 s8 ∧ tn (i + 1) s8.heap ∧ ∀ b ∈ fp, H8 b = none := fun {σ8 H8 s8} I8 => by
        refine ⟨I8.unpinned, T.keep _ _ _ st7 fun b hb o e => (I8.pin (b, o) (List.mem_append_right _ (List.mem_append_right _ (mem_pinsAt hb e)))).1, fun b hb => ?_⟩
        obtain ⟨o, e, d⟩ := T.obj _ _ st7 b hb
        exact (I8.pin (b, o) (List.mem_append_right _ (List.mem_append_right _ (mem_pinsAt hb e)))).2.1
      refine thn (hg C fp s3 H3 _ s7 σ5 H7 x u _ I7' r7 (step x H7 y7)) fun _ s8 ⟨σ8, H8, I8, q8⟩ => ?_
      refine thn (ht C fp s3 H3 _ s8 σ8 H8 _ I8 q8) fun ok s9 ⟨H9, I9, q9⟩ => ?_
      cases ok with
      | false =>
        rw [if_neg (by decide)] at q9 ⊢
        obtain ⟨m', hm, w9⟩ := q9
        obtain ⟨z1, z2, z3⟩ := back I9
        exact ⟨m', hm, i + 1, ys, σ8, H9, z1, z2, z3, w9⟩
      | true =>
        rw [if_pos rfl] at q9 ⊢
        refine thn (he C fp s3 H3 _ s9 σ8 H9 _ I9 q9) fun xv s10 ⟨v, H10, I10, r10, q10⟩ => ?_
        obtain ⟨hl10, hz, m', hm, w10⟩ := q10
        refine thn (mt_append _ s10 σ8 H10 (.ref D) [v] (.ref D) [xv] (fun z H' => z = .non ∧ H' = upd H10 D (.lst (ys ++ [v]))) I10 rfl (.cons r10 .nil) ⟨D, ys, v, rfl, rfl, hl10, hz, rfl, rfl⟩) fun _ s11 h11 => ?_
        obtain ⟨_, H11, I11, _, _, e11⟩ := h11
        subst e11
        obtain ⟨z1, z2, z3⟩ := back I11
        exact ⟨m', hm, i + 1, ys ++ [v], σ8, _, z1, z2, z3, w10⟩
  exact codeAny_compStart_list (loop _ rfl) (T.self _ 0 _ _ _ st4 (loop _ rfl))

/-- a comprehension as an expression -/
def tComp (l : List (Str × Option Nat)) (wi : TI) (g : TG) (tt : TT) (te : TE) : TE := fun σ H Q => tCompB l wi g tt te σ H fun D H' => Q (.ref D) H'
section
variable {X : Cx} {elt tg iter : Expr} {ifs : List Expr} {scope : Scope} {pos : Pos} {wi : TI} {g : TG} {tt : TT} {te : TE}
/-- what is asked of a comprehension's scope -/
structure CompScope (X : Cx) (scope : Scope) (l : List (Str × Option Nat)) : Prop where
  kind : scope.kind = .function
  cell : ∀ y ∈ scope.names, y.2 ≠ .cell
  names : ∀ y ∈ scope.names, y.2 = .local → scope.names.lookup y.1 = some .local
  free : ∀ y ∈ scope.names, y.2 = .free → X.env.kindOf y.1 = some .cell ∨ X.env.kindOf y.1 = some .free
  src : SrcOk X scope l
theorem pe_comp (l : List (Str × Option Nat)) (hsc : CompScope X scope l) (hcalm : X.calm = true) (hi : PI X tg iter wi)
    (hg : ∀ cl C fp s3 H3, PG (cxComp X l scope cl C fp s3 H3) tg g) (ht : ∀ cl C fp s3 H3, PIf (cxComp X l scope cl C fp s3 H3) ifs tt) (he : ∀ cl C fp s3 H3, PE (cxComp X l scope cl C fp s3 H3) elt te)
    (hs : ∀ x, foldedSetIterable iter X.env x = pure x := by intro _; rfl) :
    PE X (.ListComp elt [⟨tg, iter, ifs, 0⟩] scope pos) (tComp l wi g tt te) := by
  intro pins s σ H Q I h
  obtain ⟨cl, e1, e2, e3⟩ := closureFor_ok (scope := scope) (env := X.env) fun x hx hf => I.ok.has x.1 (hsc.free x hx hf)
  rw [eval_ListComp]
  refine wpAny_comprehension_free (use := none) rfl hs e1 hsc.kind hsc.names (thn (hi pins s σ H _ I h) fun v s1 h1 => thn h1 fun itv s2 h2 => ?_)
  obtain ⟨it, fp, tn, J, H2, e, I2, T, st2, f2, hw⟩ := h2
  subst e
  refine comp_core (RR := fun acc C => compPost (model X.prog X.w) X.A X.xe none (EP X pins σ Q) acc C) e1 e2 e3 hsc.kind hsc.cell hcalm hsc.src (hg cl) (ht cl) (he cl) I2 T st2 f2 hw ?_
  intro D C s' H' q ⟨m, hn⟩ I' f'
  refine ⟨m, hn, fun h' hs' => ?_⟩
  exact ⟨.ref D, H', I'.turned (t' := s'.toks) (fun b o hb e => (hs'.2 b hb).trans e) f'.1 f'.2.1 f'.2.2.2.1 f'.2.2.2.2.1 f'.2.2.2.2.2, rfl, q⟩
/-- name = a comprehension, in one row -/
theorem ps_setComp {i : Nat} {y : Str} {py spos : Pos} (l : List (Str × Option Nat)) (hsc : CompScope X scope l) (hcalm : X.calm = true) (hN : X.N.Nodup) (hy : X.N[i]? = some y) (hx : X.env.scope.names.lookup y = some .local) (hi : PI X tg iter wi)
    (hg : ∀ cl C fp s3 H3, PG (cxComp X l scope cl C fp s3 H3) tg g) (ht : ∀ cl C fp s3 H3, PIf (cxComp X l scope cl C fp s3 H3) ifs tt) (he : ∀ cl C fp s3 H3, PE (cxComp X l scope cl C fp s3 H3) elt te)
    (hsw : swapsWith (.ListComp elt [⟨tg, iter, ifs, 0⟩] scope pos) (some (.Name y py)) spos.line X.env = pure true)
    (hs : ∀ x, foldedSetIterable iter X.env x = pure x := by intro _; rfl) :
    PS X (.Assign [.Name y py] (.ListComp elt [⟨tg, iter, ifs, 0⟩] scope pos) spos) (tAsg (tComp l wi g tt te) (gName i)) := by
  intro pins s σ H D0 I h
  obtain ⟨cl, e1, e2, e3⟩ := closureFor_ok (scope := scope) (env := X.env) fun x hx hf => I.ok.has x.1 (hsc.free x hx hf)
  rw [exec_Assign_Name_used _ _ _ _ hsw]
  refine wpAny_bind (wpAny_standAt (wpAny_bind ?_))
  show wpAny _ X.A (do let _ ← comprehension (.ListComp elt [⟨tg, iter, ifs, 0⟩] scope pos) scope X.env _ (newList []) false (eval iter X.env) (some (assign (.Name y py) X.env))) _ _ s
  refine wpAny_bind (thn (wpAny_comprehension_free (use := some (assign (.Name y py) X.env)) (Q := fun _ s' => SP X pins D0 .next s') rfl hs e1 hsc.kind hsc.names
    (thn (hi pins s σ H _ I h) fun v s1 h1 => thn h1 fun itv s2 h2 => ?_)) fun _ s' hq => wpAny_pure (wpAny_pure hq))
  obtain ⟨it, fp, tn, J, H2, e, I2, T, st2, f2, hw⟩ := h2
  subst e
  refine comp_core (RR := fun acc C => compPost (model X.prog X.w) X.A X.xe (some (assign (.Name y py) X.env)) (fun _ s' => SP X pins D0 .next s') acc C) e1 e2 e3 hsc.kind hsc.cell hcalm hsc.src (hg cl) (ht cl) (he cl) I2 T st2 f2 hw ?_
  intro D C s' H' q ⟨m, hn⟩ I' f'
  show wpAny _ X.A (assign (.Name y py) X.env (.ref D)) _ _ _
  refine wpAny_assign_Name (store_ok2 (v := .ref D) I' hN hy (.inl hx) rfl (fun s'' I'' hk => ?_) (.inr hx))
  obtain ⟨a, hsb, ha⟩ := hk
  have hCa : C ≠ a := by
    rintro rfl
    rcases ha with z | z
    · exact f'.2.1 z
    · exact f'.2.2.2.2.1 y _ z rfl
  refine ⟨m, hn.sameBut hsb hCa, fun h' hs' => ?_⟩
  exact ⟨_, H', I''.turned (t' := s''.toks) (fun b o hb e => (hs'.2 b hb).trans e) f'.1 f'.2.1 f'.2.2.2.1 f'.2.2.2.2.1 f'.2.2.2.2.2, q⟩
end

end L2

set_option Elab.async false
set_option linter.all false
set_option maxRecDepth 100000
set_option maxHeartbeats 4000000
namespace L2
open PySem PySem.Spec PyProof.Rows

/-! ### numbers of bounded size -/
def Fit (n : Nat) (i : Int) : Prop := i.natAbs < 2 ^ n
theorem Fit.mono {n m : Nat} {i : Int} (h : Fit n i) (k : n ≤ m) : Fit m i := Nat.lt_of_lt_of_le h (Nat.pow_le_pow_right (by decide) k)
theorem Fit.mul {n m : Nat} {i j : Int} (h : Fit n i) (k : Fit m j) : Fit (n + m) (i * j) := by
  unfold Fit at *
  rw [Int.natAbs_mul, Nat.pow_add]
  exact Nat.mul_lt_mul'' h k
theorem Fit.neg {n : Nat} {i : Int} (h : Fit n i) : Fit n (-i) := by unfold Fit at *; rw [Int.natAbs_neg]; exact h
theorem Fit.add {n : Nat} {i j : Int} (h : Fit n i) (k : Fit n j) : Fit (n + 1) (i + j) := by
  unfold Fit at *
  have := Int.natAbs_add_le i j
  rw [Nat.pow_succ]
  omega
theorem Fit.sub {n : Nat} {i j : Int} (h : Fit n i) (k : Fit n j) : Fit (n + 1) (i - j) := by rw [Int.sub_eq_add_neg]; exact h.add k.neg
theorem Fit.le {n : Nat} {i j : Int} (h : Fit n i) (k : j.natAbs ≤ i.natAbs) : Fit n j := Nat.lt_of_le_of_lt k h
theorem Fit.bits {n : Nat} {i : Int} (h : Fit n i) : Builtin.Int.intBits i ≤ n := by
  unfold Builtin.Int.intBits
  split
  · exact Nat.zero_le _
  · rename_i hz
    have h0 : i.natAbs ≠ 0 := by
      intro z
      apply hz
      have : i = 0 := by omega
      simp [this]
    have := (Nat.log2_lt h0).mpr h
    omega
theorem Fit.log {n : Nat} {i : Int} (h : Fit n i) (hn : 0 < n) : i.natAbs.log2 < n := by
  by_cases h0 : i.natAbs = 0
  · rw [h0]
    show Nat.log2 0 < n
    have : Nat.log2 0 = 0 := by decide
    rw [this]; exact hn
  · exact (Nat.log2_lt h0).mpr h
theorem Fit.mulOk {i j : Int} (h : Fit 60000000 i) (k : Fit 60000000 j) : IntMulOk i j := by
  have h1 := h.bits
  have h2 := k.bits
  unfold IntMulOk
  have e : Builtin.Int.intTooBig (((Builtin.Int.intBits i + Builtin.Int.intBits j : Nat)) : Int) = false := by
    unfold Builtin.Int.intTooBig
    refine decide_eq_false ?_
    show ¬ ((((Builtin.Int.intBits i + Builtin.Int.intBits j : Nat)) : Int) > (((2 ^ 27 : Nat)) : Int))
    have : (2 ^ 27 : Nat) = 134217728 := by decide
    omega
  simp [e]
  try (intro _ _; exact_mod_cast e)
theorem fit_of_lt {i : Int} {n : Nat} (h1 : -(2 ^ n) < i) (h2 : i < 2 ^ n) : Fit n i := by
  unfold Fit
  have e : ((2 ^ n : Nat) : Int) = (2 : Int) ^ n := by
    rw [Int.natCast_pow]; rfl
  have : (i.natAbs : Int) < ((2 ^ n : Nat) : Int) := by rw [e]; omega
  exact_mod_cast this

section
variable {X : Cx}
theorem op_mulG : OpR X (binaryOp .Mult) (rI (fun i j => Fit 60000000 i ∧ Fit 60000000 j) fun i j => .int (i * j)) := opI fun _ _ _ _ _ _ _ hc q => mul_int q (hc.1.mulOk hc.2)
theorem op_fdivG : OpR X (binaryOp .FloorDiv) (rI (fun _ j => j ≠ 0 ∧ Fit 9000 j) fun i j => .int (i.fdiv j)) := opI fun _ _ _ _ _ _ _ hc q => floordiv_int hc.1 q (.inl (PyProof.noPylong_of_log2 (hc.2.log (by decide))))
/-- // by a positive divisor of bounded size -/
theorem op_fdivP : OpR X (binaryOp .FloorDiv) (rI (fun _ j => 0 < j ∧ Fit 9000 j) fun i j => .int (i / j)) := opI fun i j _ _ _ _ _ hc q => by
  have h1 : (0 : Int) < j := hc.1
  exact floordiv_int (by omega) (by rw [Int.fdiv_eq_ediv_of_nonneg i (by omega)]; exact q) (.inl (PyProof.noPylong_of_log2 (hc.2.log (by decide))))
theorem call_divmodP : CallR X (.builtin "divmod") (fun xs H Q => ∃ i j, xs = [.int i, .int j] ∧ (0 < j ∧ Fit 9000 j) ∧ ∀ p, H p = none → Q (.ref p) (upd H p (.tup [.int (i / j), .int (i % j)]))) := by
  intro pins s σ H xs us Q I r h
  obtain ⟨i, j, rfl, ⟨h1, h2⟩, q⟩ := h
  obtain ⟨u, w', rfl, ⟨t, rfl⟩, ⟨t', rfl⟩⟩ := vals2 r
  refine divmod_int (by omega) ?_ (.inl (PyProof.noPylong_of_log2 (h2.log (by decide))))
  rw [Int.fdiv_eq_ediv_of_nonneg i (by omega), Int.fmod_eq_emod_of_nonneg i (by omega)]
  have hn : H s.heap.objs.size = none := I.hok.fresh (Nat.le_refl _)
  refine ⟨.ref s.heap.objs.size, _, ?_, rfl, q _ hn⟩
  refine I.laid (fun b o e => Heap.get?_push_of_some _ e) (Nat.le_refl _) ⟨by simp only [List.length_cons, List.length_nil]; rw [sizeLine_eq]; decide, [.int (i / j) s.toks, .int (i % j) (s.toks + 1)], .cons ⟨_, rfl⟩ (.cons ⟨_, rfl⟩ .nil), ?_⟩
  exact ⟨_, Heap.get?_push_size s.heap rfl, rfl, 0, rfl⟩

/-! ### isinstance, all, any -/
theorem call_isinst : CallR X (.builtin "isinstance") (fun xs H Q => ∃ x c t b, (∃ v, xs = [x, v] ∧ (match v with | .ty n => c = Value.type n | .ref a => c = Value.ref a | _ => False)) ∧ TyOf X.K H x t ∧ PySem.W.kitOne X.K t c = some b ∧ Q (.bl b) H) := by
  intro pins s σ H xs us Q I r h
  obtain ⟨x, c, t, b, ⟨v, rfl, hv⟩, ty, e, q⟩ := h
  obtain ⟨u, w', rfl, ru, rw'⟩ := vals2 r
  have ec : w' = c := by
    cases v with
    | ty n => exact (show w' = Value.type n from rw').trans hv.symm
    | ref a => exact (show w' = Value.ref a from rw').trans hv.symm
    | _ => exact hv.elim
  subst ec
  exact isinst_ok I ru ty e fun tk => ⟨.bl b, H, I.tok tk, rfl, q⟩
theorem bools_of : ∀ {bs : List Bool} {us : List Value}, Vals (bs.map V.bl) us → ∀ (i : Nat) (v : Value), us[i]? = some v → ∃ b : Bool, bs[i]? = some b ∧ v = Value.bool b
  | [], us, r, i, v, e => by
    cases r
    simp at e
  | b :: bs, us, r, i, v, e => by
    cases r with
    | cons r1 r2 =>
      cases i with
      | zero =>
        simp at e
        subst e
        exact ⟨b, rfl, r1⟩
      | succ i =>
        obtain ⟨b', e1, e2⟩ := bools_of r2 i v (by simpa using e)
        exact ⟨b', by simpa using e1, e2⟩
theorem range_allB (bs : List Bool) : ((List.range bs.length).all fun i => (bs[i]?).getD true) = bs.all id := by
  rw [Bool.eq_iff_iff, List.all_eq_true, List.all_eq_true]
  constructor
  · intro h b hb
    obtain ⟨i, hi, e⟩ := List.getElem_of_mem hb
    have := h i (List.mem_range.mpr hi)
    simp only [List.getElem?_eq_getElem hi, Option.getD_some, e] at this
    exact this
  · intro h i hi
    have hi' := List.mem_range.mp hi
    simp only [List.getElem?_eq_getElem hi', Option.getD_some]
    exact h _ (List.getElem_mem hi')
theorem range_anyB (bs : List Bool) : ((List.range bs.length).any fun i => (bs[i]?).getD false) = bs.any id := by
  rw [Bool.eq_iff_iff, List.any_eq_true, List.any_eq_true]
  constructor
  · rintro ⟨i, hi, e⟩
    have hi' := List.mem_range.mp hi
    simp only [List.getElem?_eq_getElem hi', Option.getD_some] at e
    exact ⟨_, List.getElem_mem hi', e⟩
  · rintro ⟨b, hb, e⟩
    obtain ⟨i, hi, rfl⟩ := List.getElem_of_mem hb
    exact ⟨i, List.mem_range.mpr hi, by simp only [List.getElem?_eq_getElem hi, Option.getD_some]; exact e⟩
theorem call_allL (hc : X.calm = true) : CallR X (.builtin "all") (fun xs H Q => ∃ (a : Addr) (bs : List Bool), xs = [.ref a] ∧ SqL X.K H a (bs.map V.bl) ∧ Q (.bl (bs.all id)) H) := by
  intro pins s σ H xs us Q I r h
  obtain ⟨a, bs, rfl, ha, q⟩ := h
  obtain ⟨u, rfl, ru⟩ := vals1 r
  cases ru
  obtain ⟨its, rv, p, hz⟩ := I.list ha
  have hl := p.isList
  have hlt : a < s.heap.objs.size := by obtain ⟨_, e, _⟩ := hl; exact Heap.lt_size e
  refine call_all_walk (wpAny_pyIter_list hl ?_)
  refine ⟨s.heap.objs.size, [s.heap.objs.size, a], [s.heap.objs.size], its.toArray.size, _, _, fun i => (bs[i]?).getD true, rfl, Walks.list (A := X.A.in1) (I.ok.hd hc) _ a (Nat.ne_of_lt hlt) its.toArray,
    ⟨⟨_, Heap.get?_push_size _ rfl, rfl, rfl⟩, hl.push _⟩, fun i v s' Q' E' hP hQ => ?_, fun h' tk hk => ?_⟩
  · obtain ⟨b, e, rfl⟩ := bools_of rv i v (by simpa using hP)
    simp only [e, Option.getD_some] at hQ
    exact wpAny_truthy_bool hQ
  · have e : ((List.range its.toArray.size).all fun i => (bs[i]?).getD true) = bs.all id := by
      rw [List.size_toArray, ← rv.length, List.length_map]; exact range_allB bs
    rw [e]
    refine ⟨.bl _, H, I.kept (t' := tk) fun b x e => hk b x (fun hm => ?_) (Heap.get?_push_of_some _ e), rfl, q⟩
    rw [List.mem_singleton.mp hm] at e
    exact Nat.lt_irrefl _ (Heap.lt_size e)
theorem call_anyL (hc : X.calm = true) : CallR X (.builtin "any") (fun xs H Q => ∃ (a : Addr) (bs : List Bool), xs = [.ref a] ∧ SqL X.K H a (bs.map V.bl) ∧ Q (.bl (bs.any id)) H) := by
  intro pins s σ H xs us Q I r h
  obtain ⟨a, bs, rfl, ha, q⟩ := h
  obtain ⟨u, rfl, ru⟩ := vals1 r
  cases ru
  obtain ⟨its, rv, p, hz⟩ := I.list ha
  have hl := p.isList
  have hlt : a < s.heap.objs.size := by obtain ⟨_, e, _⟩ := hl; exact Heap.lt_size e
  refine call_any_walk (wpAny_pyIter_list hl ?_)
  refine ⟨s.heap.objs.size, [s.heap.objs.size, a], [s.heap.objs.size], its.toArray.size, _, _, fun i => (bs[i]?).getD false, rfl, Walks.list (A := X.A.in1) (I.ok.hd hc) _ a (Nat.ne_of_lt hlt) its.toArray,
    ⟨⟨_, Heap.get?_push_size _ rfl, rfl, rfl⟩, hl.push _⟩, fun i v s' Q' E' hP hQ => ?_, fun h' tk hk => ?_⟩
  · obtain ⟨b, e, rfl⟩ := bools_of rv i v (by simpa using hP)
    simp only [e, Option.getD_some] at hQ
    exact wpAny_truthy_bool hQ
  · have e : ((List.range its.toArray.size).any fun i => (bs[i]?).getD false) = bs.any id := by
      rw [List.size_toArray, ← rv.length, List.length_map]; exact range_anyB bs
    rw [e]
    refine ⟨.bl _, H, I.kept (t' := tk) fun b x e => hk b x (fun hm => ?_) (Heap.get?_push_of_some _ e), rfl, q⟩
    rw [List.mem_singleton.mp hm] at e
    exact Nat.lt_irrefl _ (Heap.lt_size e)
end

/-! ### data, and == of data -/
inductive Dt where
  | non | bl (b : Bool) | int (i : Int) | str (x : Str) | tup (l : List Dt) | lst (l : List Dt)

mutual
def Dt.dep : Dt → Nat
  | .tup l => depL l + 1
  | .lst l => depL l + 1
  | _ => 0
def depL : List Dt → Nat
  | [] => 0
  | d :: r => max d.dep (depL r)
end
mutual
def eqD : Dt → Dt → Bool
  | .non, .non => true
  | .bl a, .bl b => a == b
  | .bl a, .int b => (if a then 1 else 0) == b
  | .int a, .bl b => a == (if b then 1 else 0)
  | .int a, .int b => a == b
  | .str a, .str b => a == b
  | .tup a, .tup b => eqDL a b
  | .lst a, .lst b => eqDL a b
  | _, _ => false
def eqDL : List Dt → List Dt → Bool
  | [], [] => true
  | a :: r, b :: q => eqD a b && eqDL r q
  | _, _ => false
end
mutual
/-- v stands for d; N: the addresses that it does not touch -/
def Rep (K : PySem.W.Frag) (N : Addr → Prop) (H : Hp) : Dt → V → Prop
  | .non, v => v = .non
  | .bl b, v => v = .bl b
  | .int i, v => v = .int i
  | .str x, v => v = .str x
  | .tup l, v => ∃ a xs, v = .ref a ∧ ¬ N a ∧ SqT K H a xs ∧ RepL K N H l xs
  | .lst l, v => ∃ a xs, v = .ref a ∧ ¬ N a ∧ SqL K H a xs ∧ RepL K N H l xs
def RepL (K : PySem.W.Frag) (N : Addr → Prop) (H : Hp) : List Dt → List V → Prop
  | [], xs => xs = []
  | d :: r, xs => ∃ x ys, xs = x :: ys ∧ Rep K N H d x ∧ RepL K N H r ys
end
/-- what stood stands, but at N -/
def SameX (N : Addr → Prop) (H H' : Hp) : Prop := ∀ b o, H b = some o → ¬ N b → H' b = some o
theorem SameX.refl {N : Addr → Prop} {H : Hp} : SameX N H H := fun _ _ e _ => e
theorem SameX.trans {N : Addr → Prop} {H H1 H2 : Hp} (a : SameX N H H1) (b : SameX N H1 H2) : SameX N H H2 := fun c o e n => b c o (a c o e n) n
theorem SameX.new {N : Addr → Prop} {H : Hp} {p : Addr} {o : HO} (h : H p = none) : SameX N H (upd H p o) := fun b u e _ => by rw [upd_ne (ne_of_none e h)]; exact e
theorem SameX.at {N : Addr → Prop} {H : Hp} {p : Addr} {o : HO} (h : N p) : SameX N H (upd H p o) := fun b u e n => by rw [upd_ne (fun z => n (by rw [z]; exact h))]; exact e
theorem SameX.weak {N N' : Addr → Prop} {H H' : Hp} (h : SameX N H H') (k : ∀ a, N a → N' a) : SameX N' H H' := fun b o e n => h b o e fun z => n (k b z)
theorem SameX.sqT {K : PySem.W.Frag} {N : Addr → Prop} {H H' : Hp} {a : Addr} {xs : List V} (s : SameX N H H') (n : ¬ N a) (h : SqT K H a xs) : SqT K H' a xs := by
  rcases h with (h | ⟨o, h⟩) | h
  · exact .inl (.inl (s _ _ h n))
  · exact .inl (.inr ⟨o, s _ _ h n⟩)
  · exact .inr h
theorem SameX.sqL {K : PySem.W.Frag} {N : Addr → Prop} {H H' : Hp} {a : Addr} {xs : List V} (s : SameX N H H') (n : ¬ N a) (h : SqL K H a xs) : SqL K H' a xs := by
  rcases h with (h | ⟨o, h⟩) | h
  · exact .inl (.inl (s _ _ h n))
  · exact .inl (.inr ⟨o, s _ _ h n⟩)
  · exact .inr h
mutual
theorem Rep.same {K : PySem.W.Frag} {N : Addr → Prop} {H H' : Hp} (s : SameX N H H') : ∀ {d : Dt} {v : V}, Rep K N H d v → Rep K N H' d v
  | .non, _, h => h
  | .bl _, _, h => h
  | .int _, _, h => h
  | .str _, _, h => h
  | .tup l, v, h => by
    unfold Rep at h ⊢
    obtain ⟨a, xs, e, n, q, r⟩ := h
    exact ⟨a, xs, e, n, s.sqT n q, RepL.same s r⟩
  | .lst l, v, h => by
    unfold Rep at h ⊢
    obtain ⟨a, xs, e, n, q, r⟩ := h
    exact ⟨a, xs, e, n, s.sqL n q, RepL.same s r⟩
theorem RepL.same {K : PySem.W.Frag} {N : Addr → Prop} {H H' : Hp} (s : SameX N H H') : ∀ {l : List Dt} {xs : List V}, RepL K N H l xs → RepL K N H' l xs
  | [], _, h => h
  | d :: r, xs, h => by
    unfold RepL at h ⊢
    obtain ⟨x, ys, e, h1, h2⟩ := h
    exact ⟨x, ys, e, Rep.same s h1, RepL.same s h2⟩
end
theorem RepL.length {K : PySem.W.Frag} {N : Addr → Prop} {H : Hp} : ∀ {l : List Dt} {xs : List V}, RepL K N H l xs → l.length = xs.length
  | [], xs, h => by unfold RepL at h; rw [h]; rfl
  | d :: r, xs, h => by
    unfold RepL at h
    obtain ⟨x, ys, rfl, _, h2⟩ := h
    rw [List.length_cons, List.length_cons, RepL.length h2]
theorem RepL.get {K : PySem.W.Frag} {N : Addr → Prop} {H : Hp} : ∀ {l : List Dt} {xs : List V} {i : Nat} {d : Dt}, RepL K N H l xs → l[i]? = some d → ∃ x, xs[i]? = some x ∧ Rep K N H d x
  | [], xs, i, d, h, e => by simp at e
  | d0 :: r, xs, 0, d, h, e => by
    unfold RepL at h
    obtain ⟨x, ys, rfl, h1, _⟩ := h
    simp at e
    subst e
    exact ⟨x, rfl, h1⟩
  | d0 :: r, xs, i + 1, d, h, e => by
    unfold RepL at h
    obtain ⟨x, ys, rfl, _, h2⟩ := h
    obtain ⟨y, e1, e2⟩ := RepL.get (i := i) h2 (by simpa using e)
    exact ⟨y, by simpa using e1, e2⟩
theorem RepL.ints {K : PySem.W.Frag} {N : Addr → Prop} {H : Hp} : ∀ {ns : List Int}, RepL K N H (ns.map Dt.int) (ns.map V.int)
  | [] => by unfold RepL; rfl
  | n :: r => by unfold RepL; exact ⟨_, _, rfl, by unfold Rep; rfl, RepL.ints⟩
theorem eqDL_len : ∀ {l q : List Dt}, l.length ≠ q.length → eqDL l q = false
  | [], [], h => absurd rfl h
  | [], _ :: _, _ => by simp [eqDL]
  | _ :: _, [], _ => by simp [eqDL]
  | a :: r, b :: q, h => by
    simp only [eqDL]
    rw [eqDL_len (l := r) (q := q) (by simpa using h), Bool.and_false]
theorem eqDL_range : ∀ {l q : List Dt}, l.length = q.length → eqDL l q = (List.range l.length).all fun i => match l[i]?, q[i]? with | some a, some b => eqD a b | _, _ => true
  | [], [], _ => by simp [eqDL]
  | a :: r, b :: q, h => by
    simp only [eqDL]
    rw [eqDL_range (l := r) (q := q) (by simpa using h), List.length_cons, List.range_succ_eq_map, List.all_cons, List.all_map]
    simp [Function.comp_def]
theorem depL_get : ∀ {l : List Dt} {i : Nat} {d : Dt}, l[i]? = some d → d.dep ≤ depL l
  | [], i, d, e => by simp at e
  | a :: r, 0, d, e => by simp at e; subst e; simp only [depL]; exact Nat.le_max_left _ _
  | a :: r, i + 1, d, e => by
    have := depL_get (l := r) (i := i) (d := d) (by simpa using e)
    simp only [depL]
    exact Nat.le_trans this (Nat.le_max_right _ _)
theorem all_congr' {n : Nat} {f g : Nat → Bool} (h : ∀ i, i < n → f i = g i) : (List.range n).all f = (List.range n).all g := by
  rw [Bool.eq_iff_iff, List.all_eq_true, List.all_eq_true]
  exact ⟨fun q i hi => by rw [← h i (List.mem_range.mp hi)]; exact q i hi, fun q i hi => by rw [h i (List.mem_range.mp hi)]; exact q i hi⟩

section
variable {X : Cx} {pins : List (Addr × Obj)} {σ : St} {H : Hp} {s : Shared} {N N' : Addr → Prop}
theorem not_both (I : Inv X pins σ H s) {a : Addr} {xs ys : List V} (h : SqL X.K H a xs) (k : SqT X.K H a ys) : False := by
  obtain ⟨its, _, p, _⟩ := I.list h
  obtain ⟨its2, _, q, _⟩ := I.tuple k
  obtain ⟨o, e, c, _⟩ := p.isList
  obtain ⟨o2, e2, c2, _⟩ := q
  rw [e] at e2
  cases e2
  rw [c] at c2
  injection c2 with z
  exact absurd z (by decide)
mutual
theorem Rep.inj (I : Inv X pins σ H s) : ∀ {d e : Dt} {v : V}, Rep X.K N H d v → Rep X.K N' H e v → d = e
  | .non, .non, _, _, _ => rfl
  | .non, .bl _, _, h, k => by unfold Rep at h k; rw [h] at k; cases k
  | .non, .int _, _, h, k => by unfold Rep at h k; rw [h] at k; cases k
  | .non, .str _, _, h, k => by unfold Rep at h k; rw [h] at k; cases k
  | .non, .tup _, _, h, k => by unfold Rep at h k; obtain ⟨_, _, e, _⟩ := k; rw [h] at e; cases e
  | .non, .lst _, _, h, k => by unfold Rep at h k; obtain ⟨_, _, e, _⟩ := k; rw [h] at e; cases e
  | .bl _, .non, _, h, k => by unfold Rep at h k; rw [h] at k; cases k
  | .bl x, .bl y, _, h, k => by unfold Rep at h k; rw [h] at k; cases k; rfl
  | .bl _, .int _, _, h, k => by unfold Rep at h k; rw [h] at k; cases k
  | .bl _, .str _, _, h, k => by unfold Rep at h k; rw [h] at k; cases k
  | .bl _, .tup _, _, h, k => by unfold Rep at h k; obtain ⟨_, _, e, _⟩ := k; rw [h] at e; cases e
  | .bl _, .lst _, _, h, k => by unfold Rep at h k; obtain ⟨_, _, e, _⟩ := k; rw [h] at e; cases e
  | .int _, .non, _, h, k => by unfold Rep at h k; rw [h] at k; cases k
  | .int _, .bl _, _, h, k => by unfold Rep at h k; rw [h] at k; cases k
  | .int x, .int y, _, h, k => by unfold Rep at h k; rw [h] at k; cases k; rfl
  | .int _, .str _, _, h, k => by unfold Rep at h k; rw [h] at k; cases k
  | .int _, .tup _, _, h, k => by unfold Rep at h k; obtain ⟨_, _, e, _⟩ := k; rw [h] at e; cases e
  | .int _, .lst _, _, h, k => by unfold Rep at h k; obtain ⟨_, _, e, _⟩ := k; rw [h] at e; cases e
  | .str _, .non, _, h, k => by unfold Rep at h k; rw [h] at k; cases k
  | .str _, .bl _, _, h, k => by unfold Rep at h k; rw [h] at k; cases k
  | .str _, .int _, _, h, k => by unfold Rep at h k; rw [h] at k; cases k
  | .str x, .str y, _, h, k => by unfold Rep at h k; rw [h] at k; cases k; rfl
  | .str _, .tup _, _, h, k => by unfold Rep at h k; obtain ⟨_, _, e, _⟩ := k; rw [h] at e; cases e
  | .str _, .lst _, _, h, k => by unfold Rep at h k; obtain ⟨_, _, e, _⟩ := k; rw [h] at e; cases e
  | .tup _, .non, _, h, k => by unfold Rep at h k; obtain ⟨_, _, e, _⟩ := h; rw [k] at e; cases e
  | .tup _, .bl _, _, h, k => by unfold Rep at h k; obtain ⟨_, _, e, _⟩ := h; rw [k] at e; cases e
  | .tup _, .int _, _, h, k => by unfold Rep at h k; obtain ⟨_, _, e, _⟩ := h; rw [k] at e; cases e
  | .tup _, .str _, _, h, k => by unfold Rep at h k; obtain ⟨_, _, e, _⟩ := h; rw [k] at e; cases e
  | .tup l, .tup q, _, h, k => by
    unfold Rep at h k
    obtain ⟨a, xs, rfl, _, h1, h2⟩ := h
    obtain ⟨b, ys, e, _, k1, k2⟩ := k
    cases e
    have := I.tuple_inj h1 k1
    subst this
    rw [RepL.inj I h2 k2]
  | .tup _, .lst _, _, h, k => by unfold Rep at h k; obtain ⟨_, _, rfl, _, h1, _⟩ := h; obtain ⟨_, _, e, _, k1, _⟩ := k; cases e; exact (not_both I k1 h1).elim
  | .lst _, .non, _, h, k => by unfold Rep at h k; obtain ⟨_, _, e, _⟩ := h; rw [k] at e; cases e
  | .lst _, .bl _, _, h, k => by unfold Rep at h k; obtain ⟨_, _, e, _⟩ := h; rw [k] at e; cases e
  | .lst _, .int _, _, h, k => by unfold Rep at h k; obtain ⟨_, _, e, _⟩ := h; rw [k] at e; cases e
  | .lst _, .str _, _, h, k => by unfold Rep at h k; obtain ⟨_, _, e, _⟩ := h; rw [k] at e; cases e
  | .lst _, .tup _, _, h, k => by unfold Rep at h k; obtain ⟨_, _, rfl, _, h1, _⟩ := h; obtain ⟨_, _, e, _, k1, _⟩ := k; cases e; exact (not_both I h1 k1).elim
  | .lst l, .lst q, _, h, k => by
    unfold Rep at h k
    obtain ⟨a, xs, rfl, _, h1, h2⟩ := h
    obtain ⟨b, ys, e, _, k1, k2⟩ := k
    cases e
    have := I.list_inj h1 k1
    subst this
    rw [RepL.inj I h2 k2]
theorem RepL.inj (I : Inv X pins σ H s) : ∀ {l q : List Dt} {xs : List V}, RepL X.K N H l xs → RepL X.K N' H q xs → l = q
  | [], [], _, _, _ => rfl
  | [], _ :: _, _, h, k => by unfold RepL at h k; obtain ⟨_, _, e, _⟩ := k; rw [h] at e; cases e
  | _ :: _, [], _, h, k => by unfold RepL at h k; obtain ⟨_, _, e, _⟩ := h; rw [k] at e; cases e
  | a :: r, b :: q, xs, h, k => by
    unfold RepL at h k
    obtain ⟨x, ys, rfl, h1, h2⟩ := h
    obtain ⟨y, zs, e, k1, k2⟩ := k
    cases e
    rw [Rep.inj I h1 k1, RepL.inj I h2 k2]
end
mutual
theorem eqD_self : ∀ d : Dt, eqD d d = true
  | .non => by simp [eqD]
  | .bl _ => by simp [eqD]
  | .int _ => by simp [eqD]
  | .str _ => by simp [eqD]
  | .tup l => by simp only [eqD]; exact eqDL_self l
  | .lst l => by simp only [eqD]; exact eqDL_self l
theorem eqDL_self : ∀ l : List Dt, eqDL l l = true
  | [] => by simp [eqDL]
  | d :: r => by simp only [eqDL, eqD_self d, eqDL_self r, Bool.and_self]
end
/-- the item lists, side by side -/
theorem items_eq {A : Around} {k : Nat} (ih : ∀ (d e : Dt) {v w : V} {u z : Value}, d.dep ≤ k → Rep X.K N H d v → Rep X.K N' H e w → RelV v u → RelV w z → SeqAt.EqAt A s u z (eqD d e))
    {l q : List Dt} {xs ys : List V} {its its2 : List Value} (hd : depL l ≤ k) (h : RepL X.K N H l xs) (h' : RepL X.K N' H q ys) (r : Vals xs its) (r' : Vals ys its2) :
    ∀ j (h1 : j < its.toArray.size) (h2 : j < its2.toArray.size), SeqAt.EqAt A s its.toArray[j] its2.toArray[j] (match l[j]?, q[j]? with | some a, some b => eqD a b | _, _ => true) := by
  intro j h1 h2
  have n1 : l.length = its.length := h.length.trans r.length
  have n2 : q.length = its2.length := h'.length.trans r'.length
  have j1 : j < l.length := by rw [n1]; simpa using h1
  have j2 : j < q.length := by rw [n2]; simpa using h2
  obtain ⟨x, ex, rx⟩ := h.get (List.getElem?_eq_getElem j1)
  obtain ⟨y, ey, ry⟩ := h'.get (List.getElem?_eq_getElem j2)
  obtain ⟨u, eu, ru⟩ := r.get ex
  obtain ⟨z, ez, rz⟩ := r'.get ey
  rw [List.getElem?_eq_getElem j1, List.getElem?_eq_getElem j2]
  have e1 : its.toArray[j] = u := by
    have := List.getElem?_eq_some_iff.mp eu
    obtain ⟨_, e⟩ := this
    simpa using e
  have e2 : its2.toArray[j] = z := by
    have := List.getElem?_eq_some_iff.mp ez
    obtain ⟨_, e⟩ := this
    simpa using e
  rw [e1, e2]
  exact ih _ _ (Nat.le_trans (depL_get (List.getElem?_eq_getElem j1)) hd) rx ry ru rz
theorem eq_tup_val {l q : List Dt} {xs ys : List V} {its its2 : List Value} (h : RepL X.K N H l xs) (h' : RepL X.K N' H q ys) (r : Vals xs its) (r' : Vals ys its2) :
    ((List.range (min its.toArray.size its2.toArray.size)).all (fun j => match l[j]?, q[j]? with | some a, some b => eqD a b | _, _ => true) && its.toArray.size == its2.toArray.size) = eqDL l q := by
  have n1 : l.length = its.toArray.size := by simpa using h.length.trans r.length
  have n2 : q.length = its2.toArray.size := by simpa using h'.length.trans r'.length
  rw [← n1, ← n2]
  by_cases hn : l.length = q.length
  · rw [eqDL_range hn, hn, Nat.min_self]
    simp
  · rw [eqDL_len hn]
    have : (l.length == q.length) = false := by simpa using hn
    rw [this, Bool.and_false]
theorem eqAt_D (I : Inv X pins σ H s) : ∀ (k : Nat) (A : Around), A.units + k < cLine → ∀ (d e : Dt) {v w : V} {u z : Value}, d.dep ≤ k → Rep X.K N H d v → Rep X.K N' H e w → RelV v u → RelV w z → SeqAt.EqAt A s u z (eqD d e) := by
  intro k
  induction k with
  | zero =>
    intro A hA d e v w u z hd h h' r r'
    have hu : A.units < cLine := by omega
    cases d with
    | tup l => exact absurd hd (by simp [Dt.dep])
    | lst l => exact absurd hd (by simp [Dt.dep])
    | non => 
      unfold Rep at h
      subst h
      cases e with
      | non =>
        unfold Rep at h'
        subst h'
        have := eqAt_V (A := A) (s := s) r r' rfl rfl
        simpa [eqD, eqV] using this
      | bl y =>
        unfold Rep at h'
        subst h'
        have := eqAt_V (A := A) (s := s) r r' rfl rfl
        simpa [eqD, eqV] using this
      | int y =>
        unfold Rep at h'
        subst h'
        have := eqAt_V (A := A) (s := s) r r' rfl rfl
        simpa [eqD, eqV] using this
      | str y =>
        unfold Rep at h'
        subst h'
        have := eqAt_V (A := A) (s := s) r r' rfl rfl
        simpa [eqD, eqV] using this
      | tup y =>
        unfold Rep at h'
        obtain ⟨a, xs, rfl, _, q1, _⟩ := h'
        cases r'
        obtain ⟨its, _, p, _⟩ := I.tuple q1
        cases r
        simp only [eqD]
        exact SeqAt.EqAt.none_tuple p hu
      | lst y =>
        unfold Rep at h'
        obtain ⟨a, xs, rfl, _, q1, _⟩ := h'
        cases r'
        obtain ⟨its, _, p, _⟩ := I.list q1
        cases r
        simp only [eqD]
        exact SeqAt.EqAt.none_list p.isList hu
    | bl x => 
      unfold Rep at h
      subst h
      cases e with
      | non =>
        unfold Rep at h'
        subst h'
        have := eqAt_V (A := A) (s := s) r r' rfl rfl
        simpa [eqD, eqV] using this
      | bl y =>
        unfold Rep at h'
        subst h'
        have := eqAt_V (A := A) (s := s) r r' rfl rfl
        simpa [eqD, eqV] using this
      | int y =>
        unfold Rep at h'
        subst h'
        have := eqAt_V (A := A) (s := s) r r' rfl rfl
        simpa [eqD, eqV] using this
      | str y =>
        unfold Rep at h'
        subst h'
        have := eqAt_V (A := A) (s := s) r r' rfl rfl
        simpa [eqD, eqV] using this
      | tup y =>
        unfold Rep at h'
        obtain ⟨a, xs, rfl, _, q1, _⟩ := h'
        cases r'
        obtain ⟨its, _, p, _⟩ := I.tuple q1
        cases r
        simp only [eqD]
        exact SeqAt.EqAt.bool_tuple x p hu
      | lst y =>
        unfold Rep at h'
        obtain ⟨a, xs, rfl, _, q1, _⟩ := h'
        cases r'
        obtain ⟨its, _, p, _⟩ := I.list q1
        cases r
        simp only [eqD]
        exact SeqAt.EqAt.bool_list x p.isList hu
    | int x => 
      unfold Rep at h
      subst h
      cases e with
      | non =>
        unfold Rep at h'
        subst h'
        have := eqAt_V (A := A) (s := s) r r' rfl rfl
        simpa [eqD, eqV] using this
      | bl y =>
        unfold Rep at h'
        subst h'
        have := eqAt_V (A := A) (s := s) r r' rfl rfl
        simpa [eqD, eqV] using this
      | int y =>
        unfold Rep at h'
        subst h'
        have := eqAt_V (A := A) (s := s) r r' rfl rfl
        simpa [eqD, eqV] using this
      | str y =>
        unfold Rep at h'
        subst h'
        have := eqAt_V (A := A) (s := s) r r' rfl rfl
        simpa [eqD, eqV] using this
      | tup y =>
        unfold Rep at h'
        obtain ⟨a, xs, rfl, _, q1, _⟩ := h'
        cases r'
        obtain ⟨its, _, p, _⟩ := I.tuple q1
        obtain ⟨t, rfl⟩ := r
        simp only [eqD]
        exact SeqAt.EqAt.int_tuple x t p hu
      | lst y =>
        unfold Rep at h'
        obtain ⟨a, xs, rfl, _, q1, _⟩ := h'
        cases r'
        obtain ⟨its, _, p, _⟩ := I.list q1
        obtain ⟨t, rfl⟩ := r
        simp only [eqD]
        exact SeqAt.EqAt.int_list x t p.isList hu
    | str x => 
      unfold Rep at h
      subst h
      cases e with
      | non =>
        unfold Rep at h'
        subst h'
        have := eqAt_V (A := A) (s := s) r r' rfl rfl
        simpa [eqD, eqV] using this
      | bl y =>
        unfold Rep at h'
        subst h'
        have := eqAt_V (A := A) (s := s) r r' rfl rfl
        simpa [eqD, eqV] using this
      | int y =>
        unfold Rep at h'
        subst h'
        have := eqAt_V (A := A) (s := s) r r' rfl rfl
        simpa [eqD, eqV] using this
      | str y =>
        unfold Rep at h'
        subst h'
        have := eqAt_V (A := A) (s := s) r r' rfl rfl
        simpa [eqD, eqV] using this
      | tup y =>
        unfold Rep at h'
        obtain ⟨a, xs, rfl, _, q1, _⟩ := h'
        cases r'
        obtain ⟨its, _, p, _⟩ := I.tuple q1
        obtain ⟨t, rfl⟩ := r
        simp only [eqD]
        exact SeqAt.EqAt.str_tuple x t p hu
      | lst y =>
        unfold Rep at h'
        obtain ⟨a, xs, rfl, _, q1, _⟩ := h'
        cases r'
        obtain ⟨its, _, p, _⟩ := I.list q1
        obtain ⟨t, rfl⟩ := r
        simp only [eqD]
        exact SeqAt.EqAt.str_list x t p.isList hu
  | succ k ih =>
    intro A hA d e v w u z hd h h' r r'
    have hu : A.units < cLine := by omega
    have hA' : A.in1.units + k < cLine := by have : A.in1.units = A.units + 1 := rfl; omega
    cases d with
    | non => 
      unfold Rep at h
      subst h
      cases e with
      | non =>
        unfold Rep at h'
        subst h'
        have := eqAt_V (A := A) (s := s) r r' rfl rfl
        simpa [eqD, eqV] using this
      | bl y =>
        unfold Rep at h'
        subst h'
        have := eqAt_V (A := A) (s := s) r r' rfl rfl
        simpa [eqD, eqV] using this
      | int y =>
        unfold Rep at h'
        subst h'
        have := eqAt_V (A := A) (s := s) r r' rfl rfl
        simpa [eqD, eqV] using this
      | str y =>
        unfold Rep at h'
        subst h'
        have := eqAt_V (A := A) (s := s) r r' rfl rfl
        simpa [eqD, eqV] using this
      | tup y =>
        unfold Rep at h'
        obtain ⟨a, xs, rfl, _, q1, _⟩ := h'
        cases r'
        obtain ⟨its, _, p, _⟩ := I.tuple q1
        cases r
        simp only [eqD]
        exact SeqAt.EqAt.none_tuple p hu
      | lst y =>
        unfold Rep at h'
        obtain ⟨a, xs, rfl, _, q1, _⟩ := h'
        cases r'
        obtain ⟨its, _, p, _⟩ := I.list q1
        cases r
        simp only [eqD]
        exact SeqAt.EqAt.none_list p.isList hu
    | bl x => 
      unfold Rep at h
      subst h
      cases e with
      | non =>
        unfold Rep at h'
        subst h'
        have := eqAt_V (A := A) (s := s) r r' rfl rfl
        simpa [eqD, eqV] using this
      | bl y =>
        unfold Rep at h'
        subst h'
        have := eqAt_V (A := A) (s := s) r r' rfl rfl
        simpa [eqD, eqV] using this
      | int y =>
        unfold Rep at h'
        subst h'
        have := eqAt_V (A := A) (s := s) r r' rfl rfl
        simpa [eqD, eqV] using this
      | str y =>
        unfold Rep at h'
        subst h'
        have := eqAt_V (A := A) (s := s) r r' rfl rfl
        simpa [eqD, eqV] using this
      | tup y =>
        unfold Rep at h'
        obtain ⟨a, xs, rfl, _, q1, _⟩ := h'
        cases r'
        obtain ⟨its, _, p, _⟩ := I.tuple q1
        cases r
        simp only [eqD]
        exact SeqAt.EqAt.bool_tuple x p hu
      | lst y =>
        unfold Rep at h'
        obtain ⟨a, xs, rfl, _, q1, _⟩ := h'
        cases r'
        obtain ⟨its, _, p, _⟩ := I.list q1
        cases r
        simp only [eqD]
        exact SeqAt.EqAt.bool_list x p.isList hu
    | int x => 
      unfold Rep at h
      subst h
      cases e with
      | non =>
        unfold Rep at h'
        subst h'
        have := eqAt_V (A := A) (s := s) r r' rfl rfl
        simpa [eqD, eqV] using this
      | bl y =>
        unfold Rep at h'
        subst h'
        have := eqAt_V (A := A) (s := s) r r' rfl rfl
        simpa [eqD, eqV] using this
      | int y =>
        unfold Rep at h'
        subst h'
        have := eqAt_V (A := A) (s := s) r r' rfl rfl
        simpa [eqD, eqV] using this
      | str y =>
        unfold Rep at h'
        subst h'
        have := eqAt_V (A := A) (s := s) r r' rfl rfl
        simpa [eqD, eqV] using this
      | tup y =>
        unfold Rep at h'
        obtain ⟨a, xs, rfl, _, q1, _⟩ := h'
        cases r'
        obtain ⟨its, _, p, _⟩ := I.tuple q1
        obtain ⟨t, rfl⟩ := r
        simp only [eqD]
        exact SeqAt.EqAt.int_tuple x t p hu
      | lst y =>
        unfold Rep at h'
        obtain ⟨a, xs, rfl, _, q1, _⟩ := h'
        cases r'
        obtain ⟨its, _, p, _⟩ := I.list q1
        obtain ⟨t, rfl⟩ := r
        simp only [eqD]
        exact SeqAt.EqAt.int_list x t p.isList hu
    | str x => 
      unfold Rep at h
      subst h
      cases e with
      | non =>
        unfold Rep at h'
        subst h'
        have := eqAt_V (A := A) (s := s) r r' rfl rfl
        simpa [eqD, eqV] using this
      | bl y =>
        unfold Rep at h'
        subst h'
        have := eqAt_V (A := A) (s := s) r r' rfl rfl
        simpa [eqD, eqV] using this
      | int y =>
        unfold Rep at h'
        subst h'
        have := eqAt_V (A := A) (s := s) r r' rfl rfl
        simpa [eqD, eqV] using this
      | str y =>
        unfold Rep at h'
        subst h'
        have := eqAt_V (A := A) (s := s) r r' rfl rfl
        simpa [eqD, eqV] using this
      | tup y =>
        unfold Rep at h'
        obtain ⟨a, xs, rfl, _, q1, _⟩ := h'
        cases r'
        obtain ⟨its, _, p, _⟩ := I.tuple q1
        obtain ⟨t, rfl⟩ := r
        simp only [eqD]
        exact SeqAt.EqAt.str_tuple x t p hu
      | lst y =>
        unfold Rep at h'
        obtain ⟨a, xs, rfl, _, q1, _⟩ := h'
        cases r'
        obtain ⟨its, _, p, _⟩ := I.list q1
        obtain ⟨t, rfl⟩ := r
        simp only [eqD]
        exact SeqAt.EqAt.str_list x t p.isList hu
    | tup l =>
      have h0 := h
      unfold Rep at h
      obtain ⟨a, xs, rfl, na, q1, q2⟩ := h
      cases r
      obtain ⟨its, r1, p1, _⟩ := I.tuple q1
      have hd' : depL l ≤ k := by simp only [Dt.dep] at hd; omega
      cases e with
      | non =>
        unfold Rep at h'
        subst h'
        cases r'
        simp only [eqD]
        exact SeqAt.EqAt.tuple_none p1 hu
      | bl y =>
        unfold Rep at h'
        subst h'
        cases r'
        simp only [eqD]
        exact SeqAt.EqAt.tuple_bool y p1 hu
      | int y =>
        unfold Rep at h'
        subst h'
        obtain ⟨t, rfl⟩ := r'
        simp only [eqD]
        exact SeqAt.EqAt.tuple_int y t p1 hu
      | str y =>
        unfold Rep at h'
        subst h'
        obtain ⟨t, rfl⟩ := r'
        simp only [eqD]
        exact SeqAt.EqAt.tuple_str y t p1 hu
      | tup q =>
        have h0' := h'
        unfold Rep at h'
        obtain ⟨b, ys, rfl, nb, k1, k2⟩ := h'
        cases r'
        obtain ⟨its2, r2, p2, _⟩ := I.tuple k1
        by_cases hab : a = b
        · subst hab
          have := Rep.inj I h0 h0'
          rw [← this, eqD_self]
          exact SeqAt.EqAt.same _
        · refine SeqAt.EqAt.of_refs hab ?_
          simp only [eqD]
          have := SeqAt.RcAt.tuples (A := A) (s := s) p1 p2 hu (items_eq (A := A.in1) (fun d e => ih A.in1 hA' d e) hd' q2 k2 r1 r2)
          rw [eq_tup_val q2 k2 r1 r2] at this
          exact this
      | lst q =>
        have h0' := h'
        unfold Rep at h'
        obtain ⟨b, ys, rfl, nb, k1, k2⟩ := h'
        cases r'
        obtain ⟨its2, r2, p2, _⟩ := I.list k1
        simp only [eqD]
        exact SeqAt.EqAt.tuple_list p1 p2.isList hu
    | lst l =>
      have h0 := h
      unfold Rep at h
      obtain ⟨a, xs, rfl, na, q1, q2⟩ := h
      cases r
      obtain ⟨its, r1, p1, _⟩ := I.list q1
      have hd' : depL l ≤ k := by simp only [Dt.dep] at hd; omega
      cases e with
      | non =>
        unfold Rep at h'
        subst h'
        cases r'
        simp only [eqD]
        exact SeqAt.EqAt.list_none p1.isList hu
      | bl y =>
        unfold Rep at h'
        subst h'
        cases r'
        simp only [eqD]
        exact SeqAt.EqAt.list_bool y p1.isList hu
      | int y =>
        unfold Rep at h'
        subst h'
        obtain ⟨t, rfl⟩ := r'
        simp only [eqD]
        exact SeqAt.EqAt.list_int y t p1.isList hu
      | str y =>
        unfold Rep at h'
        subst h'
        obtain ⟨t, rfl⟩ := r'
        simp only [eqD]
        exact SeqAt.EqAt.list_str y t p1.isList hu
      | tup q =>
        have h0' := h'
        unfold Rep at h'
        obtain ⟨b, ys, rfl, nb, k1, k2⟩ := h'
        cases r'
        obtain ⟨its2, r2, p2, _⟩ := I.tuple k1
        simp only [eqD]
        exact SeqAt.EqAt.list_tuple p1.isList p2 hu
      | lst q =>
        have h0' := h'
        unfold Rep at h'
        obtain ⟨b, ys, rfl, nb, k1, k2⟩ := h'
        cases r'
        obtain ⟨its2, r2, p2, _⟩ := I.list k1
        by_cases hab : a = b
        · subst hab
          have := Rep.inj I h0 h0'
          rw [← this, eqD_self]
          exact SeqAt.EqAt.same _
        · refine SeqAt.EqAt.of_refs hab ?_
          simp only [eqD]
          have n1 : l.length = its.toArray.size := by simpa using q2.length.trans r1.length
          have n2 : q.length = its2.toArray.size := by simpa using k2.length.trans r2.length
          by_cases hn : l.length = q.length
          · have := SeqAt.RcAt.lists (A := A) (s := s) p1.isList p2.isList (by rw [← n1, ← n2]; exact hn) hu (items_eq (A := A.in1) (fun d e => ih A.in1 hA' d e) hd' q2 k2 r1 r2)
            rw [← n1, ← eqDL_range hn] at this
            exact this
          · rw [eqDL_len hn]
            refine SeqAt.RcAt.lists_lengths p1.isList p2.isList ?_ hu
            rw [← n1, ← n2]
            simpa using hn
/-- == and != of a sequence and anything -/
def rEqD (K : PySem.W.Frag) (neg : Bool) : R2 := fun x y H Q => ∃ (N N' : Addr → Prop) (l q : List Dt) (c : Bool), (Rep K N H (if c then .tup l else .lst l) x ∧ Rep K N' H (if c then .tup q else .lst q) y) ∧ depL l ≤ 20 ∧ Q (.bl (if neg then !eqDL l q else eqDL l q)) H
theorem op_eqD (hu : X.A.units + 30 < cLine) : OpR X (compareOp .Eq) (rEqD X.K false) := by
  intro pins s σ H x y v u Q I rx ry h
  obtain ⟨N, N', l, q, c, ⟨h1, h2⟩, hd, hq⟩ := h
  have hu0 : X.A.units < cLine := by omega
  have hu1 : X.A.in1.units + 20 < cLine := by have : X.A.in1.units = X.A.units + 1 := rfl; omega
  cases c with
  | true =>
    simp only [if_true] at h1 h2
    unfold Rep at h1 h2
    obtain ⟨a, xs, rfl, _, q1, q2⟩ := h1
    obtain ⟨b, ys, rfl, _, k1, k2⟩ := h2
    cases rx
    cases ry
    obtain ⟨its, r1, p1, _⟩ := I.tuple q1
    obtain ⟨its2, r2, p2, _⟩ := I.tuple k1
    have := SeqAt.RcAt.tuples (A := X.A) (s := s) p1 p2 hu0 (items_eq (A := X.A.in1) (fun d e => eqAt_D I 20 X.A.in1 hu1 d e) hd q2 k2 r1 r2)
    rw [eq_tup_val q2 k2 r1 r2] at this
    exact this X.prog X.w _ _ ⟨.bl _, H, I, rfl, hq⟩
  | false =>
    simp only [Bool.false_eq_true, if_false] at h1 h2
    unfold Rep at h1 h2
    obtain ⟨a, xs, rfl, _, q1, q2⟩ := h1
    obtain ⟨b, ys, rfl, _, k1, k2⟩ := h2
    cases rx
    cases ry
    obtain ⟨its, r1, p1, _⟩ := I.list q1
    obtain ⟨its2, r2, p2, _⟩ := I.list k1
    have n1 : l.length = its.toArray.size := by simpa using q2.length.trans r1.length
    have n2 : q.length = its2.toArray.size := by simpa using k2.length.trans r2.length
    by_cases hn : l.length = q.length
    · have := SeqAt.RcAt.lists (A := X.A) (s := s) p1.isList p2.isList (by rw [← n1, ← n2]; exact hn) hu0 (items_eq (A := X.A.in1) (fun d e => eqAt_D I 20 X.A.in1 hu1 d e) hd q2 k2 r1 r2)
      rw [← n1, ← eqDL_range hn] at this
      exact this X.prog X.w _ _ ⟨.bl _, H, I, rfl, hq⟩
    · simp only [eqDL_len hn] at hq
      exact SeqAt.RcAt.lists_lengths p1.isList p2.isList (by rw [← n1, ← n2]; simpa using hn) hu0 X.prog X.w _ _ ⟨.bl _, H, I, rfl, hq⟩
theorem op_neD (hu : X.A.units + 30 < cLine) : OpR X (compareOp .NotEq) (rEqD X.K true) := by
  intro pins s σ H x y v u Q I rx ry h
  obtain ⟨N, N', l, q, c, ⟨h1, h2⟩, hd, hq⟩ := h
  have hu0 : X.A.units < cLine := by omega
  have hu1 : X.A.in1.units + 20 < cLine := by have : X.A.in1.units = X.A.units + 1 := rfl; omega
  cases c with
  | true =>
    simp only [if_true] at h1 h2
    unfold Rep at h1 h2
    obtain ⟨a, xs, rfl, _, q1, q2⟩ := h1
    obtain ⟨b, ys, rfl, _, k1, k2⟩ := h2
    cases rx
    cases ry
    obtain ⟨its, r1, p1, _⟩ := I.tuple q1
    obtain ⟨its2, r2, p2, _⟩ := I.tuple k1
    have := SeqAt.RcNeAt.tuples (A := X.A) (s := s) p1 p2 hu0 (items_eq (A := X.A.in1) (fun d e => eqAt_D I 20 X.A.in1 hu1 d e) hd q2 k2 r1 r2)
    rw [eq_tup_val q2 k2 r1 r2] at this
    exact this X.prog X.w _ _ ⟨.bl _, H, I, rfl, hq⟩
  | false =>
    simp only [Bool.false_eq_true, if_false] at h1 h2
    unfold Rep at h1 h2
    obtain ⟨a, xs, rfl, _, q1, q2⟩ := h1
    obtain ⟨b, ys, rfl, _, k1, k2⟩ := h2
    cases rx
    cases ry
    obtain ⟨its, r1, p1, _⟩ := I.list q1
    obtain ⟨its2, r2, p2, _⟩ := I.list k1
    have n1 : l.length = its.toArray.size := by simpa using q2.length.trans r1.length
    have n2 : q.length = its2.toArray.size := by simpa using k2.length.trans r2.length
    by_cases hn : l.length = q.length
    · have := SeqAt.RcNeAt.lists (A := X.A) (s := s) p1.isList p2.isList (by rw [← n1, ← n2]; exact hn) hu0 (items_eq (A := X.A.in1) (fun d e => eqAt_D I 20 X.A.in1 hu1 d e) hd q2 k2 r1 r2)
      rw [← n1, ← eqDL_range hn] at this
      exact this X.prog X.w _ _ ⟨.bl _, H, I, rfl, hq⟩
    · simp only [eqDL_len hn] at hq
      exact SeqAt.RcNeAt.lists_lengths p1.isList p2.isList (by rw [← n1, ← n2]; simpa using hn) hu0 X.prog X.w _ _ ⟨.bl _, H, I, rfl, hq⟩
end
end L2

set_option Elab.async false
set_option linter.all false
set_option maxRecDepth 100000
set_option maxHeartbeats 4000000
namespace L2
open PySem PySem.Spec PyProof.Rows
/-- J walks the things xs -/
structure Wk (J : It) (xs : List V) (ok : Hp → Prop) : Prop where
  go : ∀ i H, ok H → i < xs.length → J.go i H
  stop : ∀ i H, ok H → i = xs.length → J.stop i H
  yld : ∀ i H x H', ok H → J.yld i H x H' → H' = H ∧ xs[i]? = some x
theorem wk_list (K : PySem.W.Frag) (a : Addr) (xs : List V) : Wk (Itl K a) xs (fun H => SqL K H a xs) where
  go := fun i H h hi => ⟨xs, xs[i], h, by simp [hi]⟩
  stop := fun i H h hi => ⟨xs, h, by omega⟩
  yld := fun i H x H' h y => ⟨y.1, y.2 xs h⟩
theorem wk_tup (K : PySem.W.Frag) (a : Addr) (xs : List V) : Wk (Itt K a) xs (fun H => SqT K H a xs) where
  go := fun i H h hi => ⟨xs, xs[i], h, by simp [hi]⟩
  stop := fun i H h hi => ⟨xs, h, by omega⟩
  yld := fun i H x H' h y => ⟨y.1, y.2 xs h⟩
def CN (Pv : Addr → Nat → List V → St → Hp → Prop) (n : Nat) (D : Addr) (i : Nat) (ys : List V) (σ : St) (H : Hp) : Prop := ∃ m', m' < n - i ∧ m' = n - (i + 1) ∧ i + 1 ≤ n ∧ Pv D (i + 1) ys σ H
theorem CN.mk {Pv : Addr → Nat → List V → St → Hp → Prop} {n : Nat} {D : Addr} {i : Nat} {ys : List V} {σ : St} {H : Hp} (hi : i < n) (h : Pv D (i + 1) ys σ H) : CN Pv n D i ys σ H := ⟨n - (i + 1), by omega, rfl, hi, h⟩
/-- a comprehension over things of known number: Pv holds between the turns -/
theorem comp_by {J : It} {xs : List V} {ok : Hp → Prop} (W : Wk J xs ok) {l : List (Str × Option Nat)} {g : TG} {tt : TT} {te : TE} {σ0 : St} {H : Hp} {Q : Addr → Hp → Prop} (Pv : Addr → Nat → List V → St → Hp → Prop)
    (h0 : ∀ D, H D = none → Pv D 0 [] (srcV l σ0) (upd H D (.lst []))) (hl : ∀ D i ys σ H', H D = none → Pv D i ys σ H' → ok H')
    (hs : ∀ D i x ys σ H', H D = none → xs[i]? = some x → i < xs.length → Pv D i ys σ H' → g x σ H' fun σ2 H4 => tt σ2 H4 fun b H5 =>
      if b = true then te σ2 H5 fun v H6 => H6 D = some (.lst ys) ∧ ys.length < sizeLine ∧ CN Pv xs.length D i (ys ++ [v]) σ2 (upd H6 D (.lst (ys ++ [v]))) else CN Pv xs.length D i ys σ2 H5)
    (hd : ∀ D ys σ H', H D = none → Pv D xs.length ys σ H' → Q D H') :
    CompW l g tt te J σ0 H Q := by
  intro D hD
  refine ⟨fun i m ys σ H' => m = xs.length - i ∧ i ≤ xs.length ∧ Pv D i ys σ H', ⟨xs.length, by simp, Nat.zero_le _, h0 D hD⟩, ?_⟩
  rintro i m ys σ H' ⟨rfl, hi, p⟩
  have q := hl D i ys σ H' hD p
  by_cases hlt : i < xs.length
  · refine .inr ⟨W.go i H' q hlt, fun x H3 y => ?_⟩
    obtain ⟨e, ex⟩ := W.yld i H' x H3 q y
    subst e
    exact hs D i x ys σ _ hD ex hlt p
  · have e : i = xs.length := by omega
    subst e
    exact .inl ⟨W.stop _ H' q rfl, hd D ys σ H' hD p⟩
/-- a loop over things of known number -/
theorem for_by {J : It} {xs : List V} {ok : Hp → Prop} (W : Wk J xs ok) {g : TG} {tb : TS} {D : Ends} {σ : St} {H : Hp} (Pv : Nat → St → Hp → Prop) (h0 : Pv 0 σ H) (hl : ∀ i σ H, i ≤ xs.length → Pv i σ H → ok H)
    (hs : ∀ i x σ H, xs[i]? = some x → i < xs.length → Pv i σ H → g x σ H fun σ2 H2 => tb { D with nx := Pv (i + 1), ct := Pv (i + 1), bk := D.nx } σ2 H2) (hd : ∀ σ H, Pv xs.length σ H → D.nx σ H) :
    ∃ W : Nat → Nat → St → Hp → Prop, (∃ m, W 0 m σ H) ∧ ∀ i m σ H, W i m σ H →
      (J.stop i H ∧ D.nx σ H) ∨ (J.go i H ∧ ∃ N : St → Hp → Prop, (∀ σ' H', N σ' H' → ∃ m', m' < m ∧ W (i + 1) m' σ' H') ∧ ∀ x H', J.yld i H x H' → g x σ H' fun σ2 H2 => tb { D with nx := N, ct := N, bk := D.nx } σ2 H2) := by
  refine ⟨fun i m σ H => m = xs.length - i ∧ i ≤ xs.length ∧ Pv i σ H, ⟨xs.length, by simp, Nat.zero_le _, h0⟩, ?_⟩
  rintro i m σ H ⟨rfl, hi, p⟩
  have q := hl i σ H hi p
  by_cases hlt : i < xs.length
  · refine .inr ⟨W.go i H q hlt, Pv (i + 1), fun σ' H' p' => ⟨xs.length - (i + 1), by omega, rfl, hlt, p'⟩, fun x H' y => ?_⟩
    obtain ⟨e, ex⟩ := W.yld i H x H' q y
    subst e
    exact hs i x σ _ ex hlt p
  · have e : i = xs.length := by omega
    subst e
    exact .inl ⟨W.stop _ H q rfl, hd σ H p⟩
def rngV (lo : Int) (n : Nat) : List V := (List.range n).map fun i => V.int (lo + (i : Nat))
theorem rngV_len (lo : Int) (n : Nat) : (rngV lo n).length = n := by simp [rngV]
/-- like Wk, for a range -/
theorem comp_range {lo : Int} {n : Nat} {l : List (Str × Option Nat)} {g : TG} {tt : TT} {te : TE} {σ0 : St} {H : Hp} {Q : Addr → Hp → Prop} (Pv : Addr → Nat → List V → St → Hp → Prop)
    (h0 : ∀ D, H D = none → Pv D 0 [] (srcV l σ0) (upd H D (.lst [])))
    (hs : ∀ D i ys σ H', H D = none → i < n → Pv D i ys σ H' → g (.int (lo + i)) σ H' fun σ2 H4 => tt σ2 H4 fun b H5 =>
      if b = true then te σ2 H5 fun v H6 => H6 D = some (.lst ys) ∧ ys.length < sizeLine ∧ CN Pv n D i (ys ++ [v]) σ2 (upd H6 D (.lst (ys ++ [v]))) else CN Pv n D i ys σ2 H5)
    (hd : ∀ D ys σ H', H D = none → Pv D n ys σ H' → Q D H') :
    CompW l g tt te (Itr lo n) σ0 H Q := by
  intro D hD
  refine ⟨fun i m ys σ H' => m = n - i ∧ i ≤ n ∧ Pv D i ys σ H', ⟨n, by simp, Nat.zero_le _, h0 D hD⟩, ?_⟩
  rintro i m ys σ H' ⟨rfl, hi, p⟩
  by_cases hlt : i < n
  · refine .inr ⟨hlt, fun x H3 y => ?_⟩
    obtain ⟨e, ex⟩ := y
    subst e ex
    exact hs D i ys σ _ hD hlt p
  · have e : i = n := by omega
    subst e
    exact .inl ⟨Nat.le_refl _, hd D ys σ H' hD p⟩

theorem SrcOk.any {X : Cx} {scope : Scope} : ∀ {l : List (Str × Option Nat)}, SrcOk X scope l → ∀ {x : Str}, (l.any fun p => p.1 == x && p.2.isSome) = true → X.env.kindOf x = some .cell ∨ X.env.kindOf x = some .free
  | [], _, x, e => by simp at e
  | (y, none) :: r, h, x, e => SrcOk.any (l := r) h (by simpa using e)
  | (y, some k) :: r, h, x, e => by
    rw [List.any_cons, Bool.or_eq_true] at e
    rcases e with e | e
    · have : y = x := by simpa using e
      subst this
      exact h.1.2.2
    · exact SrcOk.any (l := r) h.2 e
theorem CompScope.of {X : Cx} {scope : Scope} {l : List (Str × Option Nat)} (hk : scope.kind = .function) (hc : ∀ y ∈ scope.names, y.2 ≠ .cell) (hn : ∀ y ∈ scope.names, y.2 = .local → scope.names.lookup y.1 = some .local)
    (hf : ∀ y ∈ scope.names, y.2 = .free → (l.any fun p => p.1 == y.1 && p.2.isSome) = true) (hs : SrcOk X scope l) : CompScope X scope l := ⟨hk, hc, hn, fun y hy hyf => hs.any (hf y hy hyf), hs⟩
theorem rep_tup2 {K : PySem.W.Frag} {N : Addr → Prop} {H : Hp} {a : Addr} {x y : Int} (h : H a = some (.tup [.int x, .int y])) (n : ¬ N a) : Rep K N H (.tup [.int x, .int y]) (.ref a) := by
  unfold Rep
  exact ⟨a, _, rfl, n, SqT.of h, RepL.ints (ns := [x, y])⟩

/-! rules by an open fragment, for the inside of a comprehension -/
def rIsi (K : PySem.W.Frag) : List V → Hp → VK → Prop := fun xs H Q => ∃ x c t b, (∃ v, xs = [x, v] ∧ (match v with | .ty n => c = Value.type n | .ref a => c = Value.ref a | _ => False)) ∧ TyOf K H x t ∧ PySem.W.kitOne K t c = some b ∧ Q (.bl b) H
theorem call_isinstK {X : Cx} {K : PySem.W.Frag} (h : X.K = K) : CallR X (.builtin "isinstance") (rIsi K) := by subst h; exact call_isinst
theorem ix_tupK {X : Cx} {K : PySem.W.Frag} (h : X.K = K) : IxR X (rIxT K) := by subst h; exact ix_tup
theorem ix_listK {X : Cx} {K : PySem.W.Frag} (h : X.K = K) : IxR X (rIxL K) := by subst h; exact ix_list
def rLenS (K : PySem.W.Frag) : List V → Hp → VK → Prop := fun xs H Q => ∃ p ys, xs = [V.ref p] ∧ (SqL K H p ys ∨ SqT K H p ys) ∧ Q (.int (ys.length : Nat)) H
theorem call_len_seqK {X : Cx} {K : PySem.W.Frag} (h : X.K = K) : CallR X (.builtin "len") (rLenS K) := by subst h; exact call_len_seq
theorem pg_tupK {X : Cx} {K : PySem.W.Frag} {es : List Expr} {k : Nat} {t : TGs} {n : Nat} {pos : Pos} (hK : X.K = K) (hc : X.calm = true) (h : PGs X es t)
    (hn : (assignEach es X.env).length = n := by rfl) (hst : (assignEach es X.env).findIdx? (·.1) = none := by rfl) : PG X (.Tuple es k pos) (gTup K n t) := by subst hK; exact pg_tup hc h hn hst

theorem yesT {σ : St} {H : Hp} {Q : Bool → Hp → Prop} (h : Q true H) : tYes σ H Q := h
theorem fit9 {i : Int} (h : Fit 64 i) : Fit 9000 i := h.mono (by decide)

/-- [e for x in ..] -/
theorem comp_nm {J : It} {xs : List V} {ok : Hp → Prop} (j : Nat) (W : Wk J xs ok) {l : List (Str × Option Nat)} {te : TE} {σ0 : St} {H : Hp} {Q : Addr → Hp → Prop} (Pv : Addr → Nat → List V → St → Hp → Prop)
    (h0 : ∀ D, H D = none → Pv D 0 [] (srcV l σ0) (upd H D (.lst []))) (hl : ∀ D i ys σ H', H D = none → Pv D i ys σ H' → ok H')
    (hs : ∀ D i x ys σ H', H D = none → xs[i]? = some x → i < xs.length → Pv D i ys σ H' → te (σ.set j (some x)) H' fun v H6 => H6 D = some (.lst ys) ∧ ys.length < sizeLine ∧ CN Pv xs.length D i (ys ++ [v]) (σ.set j (some x)) (upd H6 D (.lst (ys ++ [v]))))
    (hd : ∀ D ys σ H', H D = none → Pv D xs.length ys σ H' → Q D H') : CompW l (gName j) tYes te J σ0 H Q :=
  comp_by W Pv h0 hl (fun D i x ys σ H' hD hx hi p => @iteT _ (CN Pv xs.length D i ys (σ.set j (some x)) H') (hs D i x ys σ H' hD hx hi p)) hd
/-- [e for x in range(n)] -/
theorem comp_rg {lo : Int} {n : Nat} (j : Nat) {l : List (Str × Option Nat)} {te : TE} {σ0 : St} {H : Hp} {Q : Addr → Hp → Prop} (Pv : Addr → Nat → List V → St → Hp → Prop)
    (h0 : ∀ D, H D = none → Pv D 0 [] (srcV l σ0) (upd H D (.lst [])))
    (hs : ∀ D i ys σ H', H D = none → i < n → Pv D i ys σ H' → te (σ.set j (some (.int (lo + i)))) H' fun v H6 => H6 D = some (.lst ys) ∧ ys.length < sizeLine ∧ CN Pv n D i (ys ++ [v]) (σ.set j (some (.int (lo + i)))) (upd H6 D (.lst (ys ++ [v]))))
    (hd : ∀ D ys σ H', H D = none → Pv D n ys σ H' → Q D H') : CompW l (gName j) tYes te (Itr lo n) σ0 H Q :=
  comp_range Pv h0 (fun D i ys σ H' hD hi p => @iteT _ (CN Pv n D i ys (σ.set j (some (.int (lo + i)))) H') (hs D i ys σ H' hD hi p)) hd
end L2

set_option Elab.async false
set_option linter.all false
set_option maxRecDepth 100000
set_option maxHeartbeats 4000000
namespace L2
open PySem PySem.Spec PyProof.Rows
/-! ### zip of two lists or two tuples -/
/-- c: tuples, else lists -/
def ItK (c : Bool) (h : Heap) (i l : Addr) (k : Nat) : Prop := if c = true then h.IsTupleIter i l k else h.IsListIter i l k
def SeqK (c : Bool) (h : Heap) (l : Addr) (xs : Array Value) : Prop := if c = true then h.IsTuple l xs else h.IsList l xs
theorem ItK.at {c : Bool} {h h' : Heap} {i l : Addr} {k : Nat} (x : ItK c h i l k) (e : ∀ o, h.get? i = some o → h'.get? i = some o) : ItK c h' i l k := by
  cases c with
  | true => obtain ⟨o, ho, r⟩ := (show h.IsTupleIter i l k from x); exact (show h'.IsTupleIter i l k from ⟨o, e o ho, r⟩)
  | false => obtain ⟨o, ho, r⟩ := (show h.IsListIter i l k from x); exact (show h'.IsListIter i l k from ⟨o, e o ho, r⟩)
theorem SeqK.at {c : Bool} {h h' : Heap} {l : Addr} {xs : Array Value} (x : SeqK c h l xs) (e : ∀ o, h.get? l = some o → h'.get? l = some o) : SeqK c h' l xs := by
  cases c with
  | true => obtain ⟨o, ho, r⟩ := (show h.IsTuple l xs from x); exact (show h'.IsTuple l xs from ⟨o, e o ho, r⟩)
  | false => obtain ⟨o, ho, r⟩ := (show h.IsList l xs from x); exact (show h'.IsList l xs from ⟨o, e o ho, r⟩)
theorem ItK.obj {c : Bool} {h : Heap} {i l : Addr} {k : Nat} (x : ItK c h i l k) : ∃ o, h.get? i = some o ∧ ∀ v, o.data ≠ .cell v := by
  cases c with
  | true => obtain ⟨o, ho, _, d⟩ := (show h.IsTupleIter i l k from x); exact ⟨o, ho, fun v z => by rw [d] at z; cases z⟩
  | false => obtain ⟨o, ho, _, d⟩ := (show h.IsListIter i l k from x); exact ⟨o, ho, fun v z => by rw [d] at z; cases z⟩
section
variable {prog : Program} {w : World} {A : Around} {E : Value → Shared → Prop} {s : Shared}
theorem nxK_item {c : Bool} {i l : Addr} {k : Nat} {xs : Array Value} {v : Value} {Q : Value → Shared → Prop} (hi : ItK c s.heap i l k) (hl : SeqK c s.heap l xs) (hx : xs[k]? = some v)
    (hQ : ∀ h', ItK c h' i l (k + 1) → Heap.SameBut i s.heap h' → Q v { s with heap := h' }) : wpAny (model prog w) A (Builtin.SmallTypes.nextOf (.ref i)) Q E s := by
  cases c with
  | false => exact wpAny_nextOf_list_item hi hl hx hQ
  | true =>
    have hi' : s.heap.IsTupleIter i l k := hi
    obtain ⟨o1, g1, g2, g3⟩ := id hi'
    obtain ⟨o2, f1, _, n2, f3⟩ := (show s.heap.IsTuple l xs from hl)
    unfold Builtin.SmallTypes.nextOf
    refine wpAny_bind (wpAny_callSpecial?_slot (name := Str.ofString "__next__") hi'.typeIs F.slot_tuple_iterator_next (wpAny_call_entry F.slot_tuple_iterator_next hi'.typeIs F.entry_tuple_iterator_next ?_ (F.args_tuple_iterator_next_1 _)))
    show wpAny _ _ (field (.ref i) 0 >>= _) _ _ s
    refine wpAny_bind (wpAny_field g1 g3 (x := .ref l) rfl ?_)
    show wpAny _ _ (if (Value.ref l == Value.none) = true then _ else _) _ _ s
    rw [if_neg (show ¬ ((Value.ref l == Value.none) = true) from Bool.false_ne_true)]
    show wpAny _ _ (field (.ref i) 1 >>= _) _ _ s
    refine wpAny_bind (wpAny_field g1 g3 (x := .int k 0) rfl ?_)
    show wpAny _ _ (seqItems? (.ref l) >>= _) _ _ s
    refine wpAny_bind (wpAny_seqItems f1 f3 ?_)
    simp only [Int.toNat_natCast, hx]
    refine wpAny_bind (wpAny_setField g1 g3 (by simp) (wpAny_pure ⟨v, rfl, wpAny_pure (hQ _ (show Heap.IsTupleIter _ i l (k + 1) from ?_) (Heap.SameBut.update ..))⟩))
    refine ⟨_, Heap.get?_update_self _ g1 (Obj.isFreed_of_fields (Obj.data_mapFields g3 _)), (Obj.cls_mapFields ..).trans g2, ?_⟩
    rw [Obj.data_mapFields g3]
    simp [rawInt]
theorem nxK_end {c : Bool} {i l : Addr} {k : Nat} {xs : Array Value} {Q : Value → Shared → Prop} (hh : A.handled = none) (hi : ItK c s.heap i l k) (hl : SeqK c s.heap l xs) (hx : xs[k]? = none)
    (hE : ∀ h' e, Heap.ExtBut i s.heap h' → (∃ o, h'.get? e = some o ∧ o.cls = .type "StopIteration") → E (.ref e) { s with heap := h' }) : wpAny (model prog w) A (Builtin.SmallTypes.nextOf (.ref i)) Q E s := by
  cases c with
  | false => exact wpAny_nextOf_list_end hh hi hl hx hE
  | true =>
    have hi' : s.heap.IsTupleIter i l k := hi
    obtain ⟨o1, g1, g2, g3⟩ := id hi'
    obtain ⟨o2, f1, _, n2, f3⟩ := (show s.heap.IsTuple l xs from hl)
    unfold Builtin.SmallTypes.nextOf
    refine wpAny_bind (wpAny_callSpecial?_slot (name := Str.ofString "__next__") hi'.typeIs F.slot_tuple_iterator_next (wpAny_call_entry F.slot_tuple_iterator_next hi'.typeIs F.entry_tuple_iterator_next ?_ (F.args_tuple_iterator_next_1 _)))
    show wpAny _ _ (field (.ref i) 0 >>= _) _ _ s
    refine wpAny_bind (wpAny_field g1 g3 (x := .ref l) rfl ?_)
    show wpAny _ _ (if (Value.ref l == Value.none) = true then _ else _) _ _ s
    rw [if_neg (show ¬ ((Value.ref l == Value.none) = true) from Bool.false_ne_true)]
    show wpAny _ _ (field (.ref i) 1 >>= _) _ _ s
    refine wpAny_bind (wpAny_field g1 g3 (x := .int k 0) rfl ?_)
    show wpAny _ _ (seqItems? (.ref l) >>= _) _ _ s
    refine wpAny_bind (wpAny_seqItems f1 f3 ?_)
    simp only [Int.toNat_natCast, hx]
    refine wpAny_bind (wpAny_rule (wpAny_bind (wpAny_setField g1 g3 (by simp) ?_)))
    show wpAny _ _ (newExc (.type "StopIteration") [] >>= _) _ _ _
    refine wpAny_bind ?_
    simp only [newExc, newTuple]
    refine wpAny_bind (wpAny_newObj_type ?_ (by size_fits))
    refine wpAny_bind (m := firstArgMember _ _) (wpAny_of_eq (a := Value.none) (by first | rfl | (simp only [firstArgMember]; rfl)) ?_)
    refine wpAny_newObj_type ?_ (by size_fits)
    simp only [raiseNew]
    refine wpAny_bind (wpAny_handled ?_)
    first | rw [show A.in1.handled = none from hh] | rw [hh]
    refine wpAny_bind (wpAny_pure (wpAny_throw ?_))
    exact hE _ _ (((Heap.SameBut.update ..).extBut.push _).push _) ⟨_, Heap.get?_push_size _ rfl, rfl⟩

/-- the zip's own objects -/
structure ZK (c1 c2 : Bool) (h : Heap) (z a b i j l m : Addr) (k : Nat) : Prop where
  zz : IsZip h z a b .none
  ins : IsPair h a (.ref i) (.ref j)
  out : ∃ x y, IsPair h b x y
  i1 : ItK c1 h i l k
  i2 : ItK c2 h j m k
theorem zK_item {c1 c2 : Bool} {z a b i j l m : Addr} {k : Nat} {xs ys : Array Value} {x y : Value} {Q : Option Value → Shared → Prop} (D : ZipApart z a b i j l m) (Z : ZK c1 c2 s.heap z a b i j l m k)
    (hl1 : SeqK c1 s.heap l xs) (hl2 : SeqK c2 s.heap m ys) (hx : xs[k]? = some x) (hy : ys[k]? = some y)
    (hQ : ∀ h', IsZip h' z a b (rawInt s.heap.objs.size) → IsPair h' a (.ref i) (.ref j) → IsPair h' b x y → ItK c1 h' i l (k + 1) → ItK c2 h' j m (k + 1) → IsPair h' s.heap.objs.size x y →
      (∀ d o, d ≠ z → d ≠ b → d ≠ i → d ≠ j → s.heap.get? d = some o → h'.get? d = some o) → Q (some (.ref s.heap.objs.size)) { s with heap := h' }) :
    wpAny (model prog w) A (pyNext (.ref z)) Q E s := by
  obtain ⟨hz, hTI, ⟨p1, p2, hTO⟩, h1, h2⟩ := Z
  have hT : s.TypeIs (.ref z) "zip" := ⟨_, hz, rfl⟩
  unfold pyNext
  refine wpAny_bind (wpAny_attempt (wpAny_callSpecial?_slot (name := Str.ofString "__next__") hT F.slot_zip_next (wpAny_call_entry F.slot_zip_next hT F.entry_zip_next ?_ (F.args_zip_next_1 _))))
  show wpAny _ _ (field (.ref z) 2 >>= _) _ _ _
  refine wpAny_bind (wpAny_field hz rfl (x := .bool false) rfl ?_)
  show wpAny _ _ (field (.ref z) 3 >>= _) _ _ _
  refine wpAny_bind (wpAny_field hz rfl (x := .ref a) rfl ?_)
  refine wpAny_bind (wpAny_seqItems hTI rfl ?_)
  show wpAny _ _ (Builtin.SmallTypes.ownedTupleIsFree (.ref z) >>= _) _ _ _
  refine wpAny_bind ?_
  unfold Builtin.SmallTypes.ownedTupleIsFree
  refine wpAny_bind (wpAny_field hz rfl (x := .none) rfl (wpAny_pure ?_))
  simp only [if_true]
  refine wpAny_bind (wpAny_rule ?_)
  refine wpAny_bind (wpAny_field hz rfl (x := .ref b) rfl ?_)
  refine wpAny_bind (wpAny_setField_rec hz (by simp) fun q1 z1 t1 => ?_)
  replace z1 : IsZip q1 z a b .ellipsis := z1
  refine wpAny_bind ?_
  simp only [List.zipIdx_cons, List.zipIdx_nil, List.forIn_cons, List.forIn_nil]
  refine wpAny_bind (wpAny_bind (wpAny_onRaise ?_))
  show wpAny _ _ (Builtin.SmallTypes.nextOf (.ref i) >>= _) _ _ _
  refine wpAny_bind (nxK_item (s := { s with heap := q1 }) (h1.at fun o e => t1.extBut _ _ D.i1z e) (hl1.at fun o e => t1.extBut _ _ D.l1z e) hx fun q2 i2 t2 => wpAny_pure ?_)
  have b2 : IsPair q2 b p1 p2 := t2.extBut _ _ D.TOi1 (t1.extBut _ _ D.TOz hTO)
  refine wpAny_bind (wpAny_seqItems b2 rfl ?_)
  refine wpAny_bind (wpAny_updateSeq_pair b2 fun q3 b3 t3 => ?_)
  replace b3 : IsPair q3 b x p2 := b3
  refine wpAny_bind (wpAny_letGo (wpAny_pure ?_))
  refine wpAny_bind (wpAny_bind (wpAny_onRaise ?_))
  show wpAny _ _ (Builtin.SmallTypes.nextOf (.ref j) >>= _) _ _ _
  refine wpAny_bind (nxK_item (s := { s with heap := q3 }) (h2.at fun o e => t3.extBut _ _ D.TOi2.symm (t2.extBut _ _ D.i12.symm (t1.extBut _ _ D.i2z e)))
    (hl2.at fun o e => t3.extBut _ _ D.l2TO (t2.extBut _ _ D.l2i1 (t1.extBut _ _ D.l2z e))) hy fun q4 j4 t4 => wpAny_pure ?_)
  have b4 : IsPair q4 b x p2 := t4.extBut _ _ D.TOi2 b3
  refine wpAny_bind (wpAny_seqItems b4 rfl ?_)
  refine wpAny_bind (wpAny_updateSeq_pair b4 fun q5 b5 t5 => ?_)
  replace b5 : IsPair q5 b x y := b5
  refine wpAny_bind (wpAny_letGo (wpAny_pure (wpAny_pure ?_)))
  refine wpAny_bind (wpAny_seqItems b5 rfl ?_)
  refine wpAny_bind (wpAny_newTuple ?_)
  have hsz : q5.objs.size = s.heap.objs.size := by rw [t5.1, t4.1, t3.1, t2.1, t1.1]
  have z5 : IsZip q5 z a b .ellipsis := t5.extBut _ _ D.TOz.symm (t4.extBut _ _ D.i2z.symm (t3.extBut _ _ D.TOz.symm (t2.extBut _ _ D.i1z.symm z1)))
  have k5 : ∀ d o, d ≠ z → d ≠ b → d ≠ i → d ≠ j → s.heap.get? d = some o → q5.get? d = some o := fun d o e1 e2 e3 e4 e =>
    t5.extBut _ _ e2 (t4.extBut _ _ e4 (t3.extBut _ _ e2 (t2.extBut _ _ e3 (t1.extBut _ _ e1 e))))
  have i5 : ItK c1 q5 i l (k + 1) := i2.at fun o e => t5.extBut _ _ D.TOi1.symm (t4.extBut _ _ D.i12 (t3.extBut _ _ D.TOi1.symm e))
  have j5 : ItK c2 q5 j m (k + 1) := j4.at fun o e => t5.extBut _ _ D.TOi2.symm e
  have zlt : z < q5.objs.size := Heap.lt_size z5
  show wpAny _ _ (Builtin.SmallTypes.ownedTupleHandOut (.ref z) (.ref q5.objs.size) >>= _) _ _ _
  refine wpAny_bind ?_
  unfold Builtin.SmallTypes.ownedTupleHandOut
  have z6 : IsZip (q5.push { cls := .type "tuple", data := .seq #[x, y] }) z a b .ellipsis := Heap.get?_push_of_some _ z5
  refine wpAny_bind (wpAny_setField_rec z6 (by simp) fun q7 z7 t7 => ?_)
  replace z7 : IsZip q7 z a b (rawInt q5.objs.size) := z7
  refine wpAny_setField_rec z7 (by simp) fun q8 z8 t8 => ?_
  replace z8 : IsZip q8 z a b (rawInt q5.objs.size) := z8
  have up : ∀ d o, d ≠ z → q5.get? d = some o → q8.get? d = some o := fun d o e1 e => t8.extBut _ _ e1 (t7.extBut _ _ e1 (Heap.get?_push_of_some _ e))
  have T8 : IsPair q8 q5.objs.size x y := t8.extBut _ _ (Nat.ne_of_gt zlt) (t7.extBut _ _ (Nat.ne_of_gt zlt) (Heap.get?_push_size _ rfl))
  rw [hsz] at z8 T8
  refine wpAny_pure ⟨_, rfl, wpAny_pure ?_⟩
  show Q (some (.ref q5.objs.size)) _
  rw [hsz]
  exact hQ q8 z8 (up _ _ D.TIz (k5 _ _ D.TIz D.TITO D.TIi1 D.TIi2 hTI)) (up _ _ D.TOz b5) (i5.at fun o e => up _ o D.i1z e) (j5.at fun o e => up _ o D.i2z e) T8 fun d o e1 e2 e3 e4 e => up d o e1 (k5 d o e1 e2 e3 e4 e)
theorem zK_end {c1 c2 : Bool} {z a b i j l m : Addr} {k : Nat} {xs ys : Array Value} {Q : Option Value → Shared → Prop} (hh : A.handled = none) (D : ZipApart z a b i j l m) (Z : ZK c1 c2 s.heap z a b i j l m k)
    (hl1 : SeqK c1 s.heap l xs) (hl2 : SeqK c2 s.heap m ys) (hend : xs[k]? = none ∨ ys[k]? = none)
    (hQ : ∀ h', (∀ d o, d ≠ z → d ≠ b → d ≠ i → d ≠ j → s.heap.get? d = some o → h'.get? d = some o) → Q none { s with heap := h' }) : wpAny (model prog w) A (pyNext (.ref z)) Q E s := by
  obtain ⟨hz, hTI, ⟨p1, p2, hTO⟩, h1, h2⟩ := Z
  have hT : s.TypeIs (.ref z) "zip" := ⟨_, hz, rfl⟩
  unfold pyNext
  have last : ∀ h' e, (∀ d o, d ≠ z → d ≠ b → d ≠ i → d ≠ j → s.heap.get? d = some o → h'.get? d = some o) → (∃ o, h'.get? e = some o ∧ o.cls = .type "StopIteration") →
      wpAny (model prog w) A (do if ← isInstance (.ref e) (.type "StopIteration") then pure none else throw (.ref e) : Sem (Option Value)) Q E { s with heap := h' } := fun h' e hk ⟨o, ho, hc⟩ =>
    wpAny_bind (wpAny_isInstance (T := "StopIteration") (b := true) ⟨o, ho, hc⟩ isSubtype_stop (wpAny_pure (hQ h' hk)))
  refine wpAny_bind (wpAny_attempt (wpAny_callSpecial?_slot (name := Str.ofString "__next__") hT F.slot_zip_next (wpAny_call_entry F.slot_zip_next hT F.entry_zip_next ?_ (F.args_zip_next_1 _))))
  show wpAny _ _ (field (.ref z) 2 >>= _) _ _ _
  refine wpAny_bind (wpAny_field hz rfl (x := .bool false) rfl ?_)
  show wpAny _ _ (field (.ref z) 3 >>= _) _ _ _
  refine wpAny_bind (wpAny_field hz rfl (x := .ref a) rfl ?_)
  refine wpAny_bind (wpAny_seqItems hTI rfl ?_)
  show wpAny _ _ (Builtin.SmallTypes.ownedTupleIsFree (.ref z) >>= _) _ _ _
  refine wpAny_bind ?_
  unfold Builtin.SmallTypes.ownedTupleIsFree
  refine wpAny_bind (wpAny_field hz rfl (x := .none) rfl (wpAny_pure ?_))
  simp only [if_true]
  refine wpAny_bind (wpAny_rule ?_)
  refine wpAny_bind (wpAny_field hz rfl (x := .ref b) rfl ?_)
  refine wpAny_bind (wpAny_setField_rec hz (by simp) fun q1 z1 t1 => ?_)
  replace z1 : IsZip q1 z a b .ellipsis := z1
  refine wpAny_bind ?_
  simp only [List.zipIdx_cons, List.zipIdx_nil, List.forIn_cons, List.forIn_nil]
  refine wpAny_bind (wpAny_bind (wpAny_onRaise ?_))
  show wpAny _ _ (Builtin.SmallTypes.nextOf (.ref i) >>= _) _ _ _
  cases hx : xs[k]? with
  | none =>
    refine wpAny_bind (nxK_end (s := { s with heap := q1 }) hh (h1.at fun o e => t1.extBut _ _ D.i1z e) (hl1.at fun o e => t1.extBut _ _ D.l1z e) hx fun q2 e t2 he => ?_)
    obtain ⟨oe, hoe, hce⟩ := he
    have z2 : IsZip q2 z a b .ellipsis := t2 _ _ D.i1z.symm z1
    have hez : e ≠ z := fun x => by subst x; rw [z2] at hoe; cases hoe; simp at hce
    refine wpAny_setField_rec z2 (by simp) fun q3 _ t3 => ?_
    exact last q3 e (fun d o e1 _ e3 _ x => t3.extBut _ _ e1 (t2 _ _ e3 (t1.extBut _ _ e1 x))) ⟨oe, t3.extBut _ _ hez hoe, hce⟩
  | some x =>
    have hy : ys[k]? = none := by
      rcases hend with h | h
      · rw [hx] at h; cases h
      · exact h
    refine wpAny_bind (nxK_item (s := { s with heap := q1 }) (h1.at fun o e => t1.extBut _ _ D.i1z e) (hl1.at fun o e => t1.extBut _ _ D.l1z e) hx fun q2 i2 t2 => wpAny_pure ?_)
    have b2 : IsPair q2 b p1 p2 := t2.extBut _ _ D.TOi1 (t1.extBut _ _ D.TOz hTO)
    refine wpAny_bind (wpAny_seqItems b2 rfl ?_)
    refine wpAny_bind (wpAny_updateSeq_pair b2 fun q3 b3 t3 => ?_)
    refine wpAny_bind (wpAny_letGo (wpAny_pure ?_))
    refine wpAny_bind (wpAny_bind (wpAny_onRaise ?_))
    show wpAny _ _ (Builtin.SmallTypes.nextOf (.ref j) >>= _) _ _ _
    refine wpAny_bind (nxK_end (s := { s with heap := q3 }) hh (h2.at fun o e => t3.extBut _ _ D.TOi2.symm (t2.extBut _ _ D.i12.symm (t1.extBut _ _ D.i2z e)))
      (hl2.at fun o e => t3.extBut _ _ D.l2TO (t2.extBut _ _ D.l2i1 (t1.extBut _ _ D.l2z e))) hy fun q4 e t4 he => ?_)
    obtain ⟨oe, hoe, hce⟩ := he
    have z4 : IsZip q4 z a b .ellipsis := t4 _ _ D.i2z.symm (t3.extBut _ _ D.TOz.symm (t2.extBut _ _ D.i1z.symm z1))
    have hez : e ≠ z := fun x => by subst x; rw [z4] at hoe; cases hoe; simp at hce
    refine wpAny_setField_rec z4 (by simp) fun q5 _ t5 => ?_
    exact last q5 e (fun d o e1 e2 e3 e4 x => t5.extBut _ _ e1 (t4 _ _ e4 (t3.extBut _ _ e2 (t2.extBut _ _ e3 (t1.extBut _ _ e1 x))))) ⟨oe, t5.extBut _ _ hez hoe, hce⟩

theorem new_zipT (l m : Addr) (xs ys : Array Value) :
    Meets (Builtin.«zip.__new__» ⟨[.type "zip", .ref l, .ref m], []⟩) (fun _ R s => s.heap.IsTuple l xs ∧ s.heap.IsTuple m ys ∧
      R (.ok (.ret (.ref (s.heap.objs.size + 4)))) { s with heap := ((((s.heap.push { cls := .type "tuple_iterator", data := .fields #[.ref l, .int 0 0] }).push { cls := .type "tuple_iterator", data := .fields #[.ref m, .int 0 0] }).push
        { cls := .type "tuple", data := .seq #[.ref s.heap.objs.size, .ref (s.heap.objs.size + 1)] }).push { cls := .type "tuple", data := .seq #[.none, .none] }).push { cls := .type "zip", data := .fields #[.none, .bool false, .bool false, .ref (s.heap.objs.size + 2), .ref (s.heap.objs.size + 3)] } }) :=
  .of_wp fun prog w A R s h => by
    obtain ⟨hp, g, d, tk, os⟩ := s; obtain ⟨hl1, hl2, h⟩ := h
    have hsub := sub_zip
    have hL1 : Heap.IsTuple (Shared.heap ⟨hp, g, d, tk, os⟩) l xs := hl1
    have hL2 : Heap.IsTuple (Shared.heap ⟨hp.push { cls := .type "tuple_iterator", data := .fields #[.ref l, .int 0 0] }, g, d, tk, os⟩) m ys := Heap.IsTuple.push hl2 _
    wp_walk using wpAny_pyIter_tuple hL1, wpAny_pyIter_tuple hL2
    simp only [Heap.size_push] at h ⊢
    exact ⟨_, rfl, h⟩
theorem zip_made {c : Bool} {l m : Addr} {xs ys : Array Value} {Q : Value → Shared → Prop} (hl1 : SeqK c s.heap l xs) (hl2 : SeqK c s.heap m ys)
    (k : ∀ h', ZK c c h' (s.heap.objs.size + 4) (s.heap.objs.size + 2) (s.heap.objs.size + 3) s.heap.objs.size (s.heap.objs.size + 1) l m 0 → (∀ d o, s.heap.get? d = some o → h'.get? d = some o) → Q (.ref (s.heap.objs.size + 4)) { s with heap := h' }) :
    wpAny (model prog w) A (call (.type "zip") [.ref l, .ref m]) Q E s := by
  cases c with
  | false => exact call_zip_2 hl1 hl2 fun h' hz hTI hTO hi1 hi2 _ hk => k h' ⟨hz, hTI, ⟨_, _, hTO⟩, hi1, hi2⟩ hk
  | true =>
    refine callType_new F.called_zip (by decide) (F.typeCall_zip_2 _ _) (F.newCall_zip_2 _ _) (fun obj => F.args_object_init_3 obj _ _) F.entry_zip_new (new_zipT l m xs ys) ⟨hl1, hl2, ?_⟩
    have p : ∀ (h : Heap) (o1 o2 o3 o4 o5 : Obj) (d : Addr) (o : Obj), h.get? d = some o → (((((h.push o1).push o2).push o3).push o4).push o5).get? d = some o := fun h o1 o2 o3 o4 o5 d o e =>
      Heap.get?_push_of_some _ (Heap.get?_push_of_some _ (Heap.get?_push_of_some _ (Heap.get?_push_of_some _ (Heap.get?_push_of_some _ e))))
    have q5 : ∀ (h : Heap) (o1 o2 o3 o4 o5 : Obj), o5.isFreed = false → (((((h.push o1).push o2).push o3).push o4).push o5).get? (h.objs.size + 4) = some o5 := fun h o1 o2 o3 o4 o5 f => by
      have e : h.objs.size + 4 = ((((h.push o1).push o2).push o3).push o4).objs.size := by simp only [Heap.size_push]
      rw [e]; exact Heap.get?_push_size _ f
    have q4 : ∀ (h : Heap) (o1 o2 o3 o4 o5 : Obj), o4.isFreed = false → (((((h.push o1).push o2).push o3).push o4).push o5).get? (h.objs.size + 3) = some o4 := fun h o1 o2 o3 o4 o5 f => by
      have e : h.objs.size + 3 = (((h.push o1).push o2).push o3).objs.size := by simp only [Heap.size_push]
      rw [e]; exact Heap.get?_push_of_some _ (Heap.get?_push_size _ f)
    have q3 : ∀ (h : Heap) (o1 o2 o3 o4 o5 : Obj), o3.isFreed = false → (((((h.push o1).push o2).push o3).push o4).push o5).get? (h.objs.size + 2) = some o3 := fun h o1 o2 o3 o4 o5 f => by
      have e : h.objs.size + 2 = ((h.push o1).push o2).objs.size := by simp only [Heap.size_push]
      rw [e]; exact Heap.get?_push_of_some _ (Heap.get?_push_of_some _ (Heap.get?_push_size _ f))
    have q2 : ∀ (h : Heap) (o1 o2 o3 o4 o5 : Obj), o2.isFreed = false → (((((h.push o1).push o2).push o3).push o4).push o5).get? (h.objs.size + 1) = some o2 := fun h o1 o2 o3 o4 o5 f => by
      have e : h.objs.size + 1 = (h.push o1).objs.size := by simp only [Heap.size_push]
      rw [e]; exact Heap.get?_push_of_some _ (Heap.get?_push_of_some _ (Heap.get?_push_of_some _ (Heap.get?_push_size _ f)))
    have q1 : ∀ (h : Heap) (o1 o2 o3 o4 o5 : Obj), o1.isFreed = false → (((((h.push o1).push o2).push o3).push o4).push o5).get? h.objs.size = some o1 := fun h o1 o2 o3 o4 o5 f =>
      Heap.get?_push_of_some _ (Heap.get?_push_of_some _ (Heap.get?_push_of_some _ (Heap.get?_push_of_some _ (Heap.get?_push_size _ f))))
    exact ⟨⟨_, q5 _ _ _ _ _ _ rfl, rfl⟩, k _ ⟨q5 _ _ _ _ _ _ rfl, q3 _ _ _ _ _ _ rfl, ⟨_, _, q4 _ _ _ _ _ _ rfl⟩, ⟨_, q1 _ _ _ _ _ _ rfl, rfl, rfl⟩, ⟨_, q2 _ _ _ _ _ _ rfl, rfl, rfl⟩⟩ fun d o e => p _ _ _ _ _ _ d o e⟩
end
def SqK (c : Bool) (K : PySem.W.Frag) (H : Hp) (a : Addr) (xs : List V) : Prop := if c = true then SqT K H a xs else SqL K H a xs
theorem Inv.sqK {X : Cx} {pins : List (Addr × Obj)} {σ : St} {H : Hp} {s : Shared} {c : Bool} {a : Addr} {xs : List V} (I : Inv X pins σ H s) (h : SqK c X.K H a xs) : ∃ its : List Value, Vals xs its ∧ SeqK c s.heap a its.toArray := by
  cases c with
  | true => obtain ⟨its, r, p, _⟩ := I.tuple (show SqT X.K H a xs from h); exact ⟨its, r, p⟩
  | false => obtain ⟨its, r, p, _⟩ := I.list (show SqL X.K H a xs from h); exact ⟨its, r, p.isList⟩
theorem Inv.sqK_inj {X : Cx} {pins : List (Addr × Obj)} {σ : St} {H : Hp} {s : Shared} {c : Bool} {a : Addr} {xs ys : List V} (I : Inv X pins σ H s) (h : SqK c X.K H a xs) (k : SqK c X.K H a ys) : xs = ys := by
  cases c with
  | true => exact I.tuple_inj (show SqT X.K H a xs from h) k
  | false => exact I.list_inj (show SqL X.K H a xs from h) k
/-- pairs of the things of a and b -/
def Itz (c : Bool) (K : PySem.W.Frag) (a b : Addr) : It :=
  ⟨fun i H => ∃ xs ys x y, SqK c K H a xs ∧ SqK c K H b ys ∧ xs[i]? = some x ∧ ys[i]? = some y,
   fun i H v H' => ∃ T x y, v = .ref T ∧ H T = none ∧ H' = upd H T (.tup [x, y]) ∧ ∀ xs ys, SqK c K H a xs → SqK c K H b ys → xs[i]? = some x ∧ ys[i]? = some y,
   fun i H => ∃ xs ys, SqK c K H a xs ∧ SqK c K H b ys ∧ (xs.length ≤ i ∨ ys.length ≤ i)⟩
theorem turn_zip {P : Program} {w : World} {K : PySem.W.Frag} {es : List Expr} {kk : Nat} {tpos : Pos} (c : Bool) (l m z a b i j : Addr) (D : ZipApart z a b i j l m) :
    Turn P w K (.Tuple es kk tpos) (Itz c K l m) [z, a, b, i, j] z (fun n h => ZK c c h z a b i j l m n) where
  mem := by simp
  obj := fun n h st d hd => by
    obtain ⟨hz, hTI, ⟨p1, p2, hTO⟩, h1, h2⟩ := st
    simp only [List.mem_cons, List.not_mem_nil, or_false] at hd
    rcases hd with rfl | rfl | rfl | rfl | rfl
    · exact ⟨_, hz, fun v e => nomatch e⟩
    · exact ⟨_, hTI, fun v e => nomatch e⟩
    · exact ⟨_, hTO, fun v e => nomatch e⟩
    · exact h1.obj
    · exact h2.obj
  keep := fun n h h' st k => by
    obtain ⟨hz, hTI, ⟨p1, p2, hTO⟩, h1, h2⟩ := st
    exact ⟨k z (by simp) _ hz, k a (by simp) _ hTI, ⟨p1, p2, k b (by simp) _ hTO⟩, h1.at fun o e => k i (by simp) o e, h2.at fun o e => k j (by simp) o e⟩
  item := by
    intro X hP hw hK hc n pins s σ H E I hf st hg
    subst hP hw hK
    obtain ⟨xs, ys, x, y, hq1, hq2, hx, hy⟩ := hg
    obtain ⟨its1, r1, p1⟩ := I.sqK hq1
    obtain ⟨its2, r2, p2⟩ := I.sqK hq2
    obtain ⟨u1, e1, ru1⟩ := r1.get hx
    obtain ⟨u2, e2, ru2⟩ := r2.get hy
    refine zK_item D st p1 p2 (by simpa using e1) (by simpa using e2) fun h' z1 a1 b1 i1 j1 T1 kp => ?_
    refine ⟨_, rfl, wpAny_letOwnedTupleGo_zip (s := { s with heap := h' }) z1 fun h2 z2 t2 => ?_⟩
    have hTn : H s.heap.objs.size = none := I.hok.fresh (Nat.le_refl _)
    have zT : s.heap.objs.size ≠ z := Nat.ne_of_gt (Heap.lt_size (show s.heap.get? z = some _ from st.zz))
    have kp2 : ∀ d o, d ∉ [z, a, b, i, j] → s.heap.get? d = some o → h2.get? d = some o := fun d o hd e => by
      simp only [List.mem_cons, List.not_mem_nil, or_false, not_or] at hd
      exact t2.extBut _ _ hd.1 (kp d o hd.1 hd.2.2.1 hd.2.2.2.1 hd.2.2.2.2 e)
    have T2 : IsPair h2 s.heap.objs.size u1 u2 := t2.extBut _ _ zT T1
    have nfp : ∀ d o, H d = some o → d ∉ [z, a, b, i, j] := fun d o e hd => by rw [(hf d hd).1] at e; cases e
    have nT : ∀ d o, H d = some o → d ≠ s.heap.objs.size := fun d o e q => by rw [q, hTn] at e; cases e
    have newOk : HOk X.prog X.w (upd H s.heap.objs.size (.tup [x, y])) h2 := by
      intro d o e
      by_cases hd : d = s.heap.objs.size
      · subst hd
        rw [upd_same] at e
        cases e
        exact ⟨by show 2 ≤ sizeLine; decide, [u1, u2], .cons ru1 (.cons ru2 .nil), _, T2, rfl, 0, rfl⟩
      · rw [upd_ne hd] at e
        refine (I.hok d o e).stay (fun q v hq r => kp2 q v ?_ r) (fun q r => by rw [upd_ne (nT q _ r)]; exact r) (fun q xs' r => by rw [upd_ne (nT q _ r)]; exact r)
        rcases hq with rfl | hq
        · exact nfp _ _ e
        · exact nfp _ _ hq
    have I2 : Inv X pins σ (upd H s.heap.objs.size (.tup [x, y])) { s with heap := h2 } := by
      refine I.step (g' := s.gens) (d' := s.drawn) (t' := s.toks) (ch := [z, a, b, i, j]) (fun d hd => ⟨(hf d hd).2.2.2.1, (hf d hd).2.1, (hf d hd).2.2.2.2.1, (hf d hd).2.2.2.2.2⟩) (fun d o _ _ hd e _ => kp2 d o hd e) (fun d o _ _ hd e _ => ⟨o.slots, kp2 d o hd e⟩)
        (fun d o hd e nn => by rw [upd_ne (Nat.ne_of_lt (Heap.lt_size e))]; exact nn) (fun d o hd e => ⟨o, kp2 d o hd e⟩) (fun d xs' e => by rw [upd_ne (nT d _ e)]; exact e) (fun d o u e => by rw [upd_ne (nT d _ e)]; exact e)
        (fun d ps e => ⟨#[], by rw [upd_ne (nT d _ e), e]; simp⟩) (fun mm hm => ?_) newOk I.bare
      obtain ⟨o, es', ep, ho, r⟩ := hm
      exact ⟨o, es', ep, kp2 _ o (fun hd => (hf _ hd).2.1 rfl) ho, r⟩
    refine ⟨.ref s.heap.objs.size, _, I2, rfl, ⟨_, x, y, rfl, hTn, rfl, fun xs' ys' k1 k2 => ?_⟩, ?_, fun d hd => ?_⟩
    · rw [I.sqK_inj k1 hq1, I.sqK_inj k2 hq2]
      exact ⟨hx, hy⟩
    · exact ⟨z2, t2.extBut _ _ D.TIz a1, ⟨_, _, t2.extBut _ _ D.TOz b1⟩, i1.at fun o e => t2.extBut _ _ D.i1z e, j1.at fun o e => t2.extBut _ _ D.i2z e⟩
    · have hdn : d ≠ s.heap.objs.size := by
        rintro rfl
        have lt : ∀ {q : Addr} {o : Obj}, s.heap.get? q = some o → s.heap.objs.size ≠ q := fun e => Nat.ne_of_gt (Heap.lt_size e)
        simp only [List.mem_cons, List.not_mem_nil, or_false] at hd
        obtain ⟨o1, g1, _⟩ := st.i1.obj
        obtain ⟨o2, g2, _⟩ := st.i2.obj
        obtain ⟨y1, y2, g3⟩ := st.out
        rcases hd with q | q | q | q | q
        · exact lt st.zz q
        · exact lt st.ins q
        · exact lt g3 q
        · exact lt g1 q
        · exact lt g2 q
      rw [upd_ne hdn]
      exact (hf d hd).1
  done := by
    intro X hP hw hK hc n pins s σ H E I hf st hg
    subst hP hw hK
    obtain ⟨xs, ys, hq1, hq2, hx⟩ := hg
    obtain ⟨its1, r1, p1⟩ := I.sqK hq1
    obtain ⟨its2, r2, p2⟩ := I.sqK hq2
    have n1 := r1.length
    have n2 := r2.length
    refine zK_end (I.ok.hd hc) D st p1 p2 (hx.elim (fun q => .inl (by simp; omega)) fun q => .inr (by simp; omega)) fun h' kp => ⟨rfl, ?_⟩
    have kp2 : ∀ d o, d ∉ [z, a, b, i, j] → s.heap.get? d = some o → h'.get? d = some o := fun d o hd e => by
      simp only [List.mem_cons, List.not_mem_nil, or_false, not_or] at hd
      exact kp d o hd.1 hd.2.2.1 hd.2.2.2.1 hd.2.2.2.2 e
    have nfp : ∀ d o, H d = some o → d ∉ [z, a, b, i, j] := fun d o e hd => by rw [(hf d hd).1] at e; cases e
    have there : ∀ d o, s.heap.get? d = some o → d ∉ [z, a, b, i, j] → ∃ o', h'.get? d = some o' := fun d o e hd => ⟨o, kp2 d o hd e⟩
    refine I.step (g' := s.gens) (d' := s.drawn) (t' := s.toks) (ch := [z, a, b, i, j]) (fun d hd => ⟨(hf d hd).2.2.2.1, (hf d hd).2.1, (hf d hd).2.2.2.2.1, (hf d hd).2.2.2.2.2⟩) (fun d o _ _ hd e _ => kp2 d o hd e) (fun d o _ _ hd e _ => ⟨o.slots, kp2 d o hd e⟩)
      (fun d o hd e nn => nn) (fun d o hd e => ⟨o, kp2 d o hd e⟩) (fun d xs' e => e) (fun d o u e => e) (fun d ps e => ⟨#[], by rw [e]; simp⟩) (fun mm hm => ?_) (fun d o e => ?_) I.bare
    · obtain ⟨o, es', ep, ho, r⟩ := hm
      exact ⟨o, es', ep, kp2 _ o (fun hd => (hf _ hd).2.1 rfl) ho, r⟩
    · refine (I.hok d o e).stay (fun q v hq r => kp2 q v ?_ r) (fun _ r => r) (fun _ _ r => r)
      rcases hq with rfl | hq
      · exact nfp _ _ e
      · exact nfp _ _ hq
  self := fun _ _ _ _ _ st h => wpAny_pyIter_zip st.zz h
def iZip (K : PySem.W.Frag) (t : TA) : TI := fun σ H R => t σ H fun vs H2 => ∃ (c : Bool) (a b : Addr), vs = [.ref a, .ref b] ∧ (∃ xs, SqK c K H2 a xs) ∧ (∃ ys, SqK c K H2 b ys) ∧ R (Itz c K a b) H2
theorem pi_zip {X : Cx} {es : List Expr} {kk : Nat} {tpos : Pos} {e1 e2 : Expr} {ta tb : TE} {p pos : Pos} (hg : Gl X "zip") (hm : X.mg "zip" = none) (h1 : PE X e1 ta) (h2 : PE X e2 tb)
    (hs : starEach [e1, e2] X.env = (false, eval e1 X.env) :: starEach [e2] X.env := by rfl) (hs2 : starEach [e2] X.env = [(false, eval e2 X.env)] := by rfl) (hpl : (backTo pos (starEach [e2] X.env)).any (·.1) = false := by rfl) :
    PI X (.Tuple es kk tpos) (.Call (.Name "zip" p) [e1, e2] [] pos) (iZip X.K (tCons ta (tCons tb tNil))) := by
  intro pins s σ H R I h
  refine wpAny_Call_Name_kw (ld_blt I hg hm PyProof.Rows.boot_zip ?_)
  refine PyProof.Rows.callWith_type1 (thn ((pa_cons h1 (pa_cons h2 pa_nil hs2) hs) pos pins s σ H _ I h) fun us s1 ⟨vs, H1, I1, r1, q1⟩ => ?_) hs hpl
  obtain ⟨c, a, b, rfl, ⟨xs, hx⟩, ⟨ys, hy⟩, q⟩ := q1
  obtain ⟨u1, u2, rfl, ru1, ru2⟩ := vals2 r1
  cases ru1
  cases ru2
  obtain ⟨its1, _, p1⟩ := I1.sqK hx
  obtain ⟨its2, _, p2⟩ := I1.sqK hy
  have a1 : a < s1.heap.objs.size := by
    cases c with
    | true => obtain ⟨_, e, _⟩ := (show s1.heap.IsTuple a _ from p1); exact Heap.lt_size e
    | false => obtain ⟨_, e, _⟩ := (show s1.heap.IsList a _ from p1); exact Heap.lt_size e
  have a2 : b < s1.heap.objs.size := by
    cases c with
    | true => obtain ⟨_, e, _⟩ := (show s1.heap.IsTuple b _ from p2); exact Heap.lt_size e
    | false => obtain ⟨_, e, _⟩ := (show s1.heap.IsList b _ from p2); exact Heap.lt_size e
  refine zip_made p1 p2 fun h' Z kp => ?_
  refine wpAny_pyIter_zip (s := { s1 with heap := h' }) Z.zz ?_
  refine ⟨_, _, _, _, H1, rfl, I1.kept (t' := s1.toks) kp, turn_zip c a b _ _ _ _ _ (zipApart_new a1 a2), Z, fun d hd => ?_, q⟩
  have hle : s1.heap.objs.size ≤ d := by
    simp only [List.mem_cons, List.not_mem_nil, or_false] at hd
    rcases hd with rfl | rfl | rfl | rfl | rfl
    · exact Nat.le_add_right _ _
    · exact Nat.le_add_right _ _
    · exact Nat.le_add_right _ _
    · exact Nat.le_refl _
    · exact Nat.le_add_right _ _
  exact I1.fpOk hle (I1.hok.fresh hle)
end L2

set_option Elab.async false
set_option linter.all false
set_option maxRecDepth 100000
set_option maxHeartbeats 4000000
namespace L2
open PySem PySem.Spec PyProof.Rows
/-! ### enumerate of a list -/
def Ite (K : PySem.W.Frag) (a : Addr) : It :=
  ⟨fun i H => ∃ xs x, SqL K H a xs ∧ xs[i]? = some x,
   fun i H v H' => ∃ T x, v = .ref T ∧ H T = none ∧ H' = upd H T (.tup [.int (i : Int), x]) ∧ ∀ xs, SqL K H a xs → xs[i]? = some x,
   fun i H => ∃ xs, SqL K H a xs ∧ xs.length ≤ i⟩
structure EK (h : Heap) (e it l : Addr) (k : Nat) : Prop where
  ee : ∃ old, IsEnum h e it k old
  ii : h.IsListIter it l k
theorem turn_enum {P : Program} {w : World} {K : PySem.W.Frag} {es : List Expr} {kk : Nat} {tpos : Pos} (l e it : Addr) (hei : e ≠ it) :
    Turn P w K (.Tuple es kk tpos) (Ite K l) [e, it] e (fun n h => EK h e it l n) where
  mem := by simp
  obj := fun n h st d hd => by
    obtain ⟨⟨old, he⟩, o, ho, _, dd⟩ := st
    simp only [List.mem_cons, List.not_mem_nil, or_false] at hd
    rcases hd with rfl | rfl
    · exact ⟨_, he, fun v z => nomatch z⟩
    · exact ⟨o, ho, fun v z => by rw [dd] at z; cases z⟩
  keep := fun n h h' st k => by
    obtain ⟨⟨old, he⟩, o, ho, r⟩ := st
    exact ⟨⟨old, k e (by simp) _ he⟩, o, k it (by simp) o ho, r⟩
  item := by
    intro X hP hw hK hc n pins s σ H E I hf st hg
    subst hP hw hK
    obtain ⟨xs, x, hq, hx⟩ := hg
    obtain ⟨its, r1, p1⟩ := I.sqK (c := false) hq
    obtain ⟨u1, e1, ru1⟩ := r1.get hx
    obtain ⟨⟨old, he⟩, hit⟩ := st
    have hT : H s.heap.objs.size = none := I.hok.fresh (Nat.le_refl _)
    have eT : s.heap.objs.size ≠ e := Nat.ne_of_gt (Heap.lt_size (show s.heap.get? e = some _ from he))
    have iT : s.heap.objs.size ≠ it := by obtain ⟨o, ho, _⟩ := hit; exact Nat.ne_of_gt (Heap.lt_size ho)
    refine wpAny_pyNext_enum_item he hit p1 (by simpa using e1) hei fun h' z1 i1 T1 _ kp => ?_
    refine ⟨_, rfl, wpAny_letOwnedTupleGo_enum (s := { s with heap := h', toks := s.toks + 1 }) z1 fun h2 z2 t2 => ?_⟩
    have kp2 : ∀ d o, d ∉ [e, it] → s.heap.get? d = some o → h2.get? d = some o := fun d o hd q => by
      simp only [List.mem_cons, List.not_mem_nil, or_false, not_or] at hd
      exact (t2.2 d hd.1).trans (kp d o hd.1 hd.2 q)
    have T2 : h2.get? s.heap.objs.size = some { cls := .type "tuple", data := .seq #[.int (n : Int) s.toks, u1] } := (t2.2 _ eT).trans T1
    have nfp : ∀ d o, H d = some o → d ∉ [e, it] := fun d o q hd => by rw [(hf d hd).1] at q; cases q
    have nT : ∀ d o, H d = some o → d ≠ s.heap.objs.size := fun d o q z => by rw [z, hT] at q; cases q
    have newOk : HOk X.prog X.w (upd H s.heap.objs.size (.tup [.int (n : Int), x])) h2 := by
      intro d o q
      by_cases hd : d = s.heap.objs.size
      · subst hd
        rw [upd_same] at q
        cases q
        exact ⟨by show 2 ≤ sizeLine; decide, [.int (n : Int) s.toks, u1], .cons ⟨_, rfl⟩ (.cons ru1 .nil), _, T2, rfl, 0, rfl⟩
      · rw [upd_ne hd] at q
        refine (I.hok d o q).stay (fun a v ha r => kp2 a v ?_ r) (fun a r => by rw [upd_ne (nT a _ r)]; exact r) (fun a xs' r => by rw [upd_ne (nT a _ r)]; exact r)
        rcases ha with rfl | ha
        · exact nfp _ _ q
        · exact nfp _ _ ha
    have I2 : Inv X pins σ (upd H s.heap.objs.size (.tup [.int (n : Int), x])) { s with heap := h2, toks := s.toks + 1 } := by
      refine I.step (g' := s.gens) (d' := s.drawn) (t' := s.toks + 1) (ch := [e, it]) (fun d hd => ⟨(hf d hd).2.2.2.1, (hf d hd).2.1, (hf d hd).2.2.2.2.1, (hf d hd).2.2.2.2.2⟩) (fun d o _ _ hd q _ => kp2 d o hd q) (fun d o _ _ hd q _ => ⟨o.slots, kp2 d o hd q⟩)
        (fun d o hd q nn => by rw [upd_ne (Nat.ne_of_lt (Heap.lt_size q))]; exact nn) (fun d o hd q => ⟨o, kp2 d o hd q⟩) (fun d xs' q => by rw [upd_ne (nT d _ q)]; exact q) (fun d o u q => by rw [upd_ne (nT d _ q)]; exact q)
        (fun d ps q => ⟨#[], by rw [upd_ne (nT d _ q), q]; simp⟩) (fun mm hm => ?_) newOk I.bare
      obtain ⟨o, es', ep, ho, r⟩ := hm
      exact ⟨o, es', ep, kp2 _ o (fun hd => (hf _ hd).2.1 rfl) ho, r⟩
    refine ⟨.ref s.heap.objs.size, _, I2, rfl, ⟨_, x, rfl, hT, rfl, fun xs' k1 => ?_⟩, ?_, fun d hd => ?_⟩
    · rw [I.sqK_inj (c := false) k1 hq]
      exact hx
    · refine ⟨⟨_, by simpa using z2⟩, ?_⟩
      obtain ⟨o, ho, r⟩ := i1
      exact ⟨o, (t2.2 it hei.symm).trans ho, r⟩
    · have hdn : d ≠ s.heap.objs.size := by
        rintro rfl
        simp only [List.mem_cons, List.not_mem_nil, or_false] at hd
        rcases hd with q | q
        · exact eT q
        · exact iT q
      rw [upd_ne hdn]
      exact (hf d hd).1
  done := by
    intro X hP hw hK hc n pins s σ H E I hf st hg
    subst hP hw hK
    obtain ⟨xs, hq, hx⟩ := hg
    obtain ⟨its, r1, p1⟩ := I.sqK (c := false) hq
    have n1 := r1.length
    obtain ⟨⟨old, he⟩, hit⟩ := st
    refine wpAny_pyNext_enum_end (I.ok.hd hc) he hit p1 (by simp; omega) fun h' kp => ⟨rfl, ?_⟩
    have kp2 : ∀ d o, d ∉ [e, it] → s.heap.get? d = some o → h'.get? d = some o := fun d o hd q => by
      simp only [List.mem_cons, List.not_mem_nil, or_false, not_or] at hd
      exact kp d o hd.2 q
    have nfp : ∀ d o, H d = some o → d ∉ [e, it] := fun d o q hd => by rw [(hf d hd).1] at q; cases q
    refine I.step (g' := s.gens) (d' := s.drawn) (t' := s.toks) (ch := [e, it]) (fun d hd => ⟨(hf d hd).2.2.2.1, (hf d hd).2.1, (hf d hd).2.2.2.2.1, (hf d hd).2.2.2.2.2⟩) (fun d o _ _ hd q _ => kp2 d o hd q) (fun d o _ _ hd q _ => ⟨o.slots, kp2 d o hd q⟩)
      (fun d o hd q nn => nn) (fun d o hd q => ⟨o, kp2 d o hd q⟩) (fun d xs' q => q) (fun d o u q => q) (fun d ps q => ⟨#[], by rw [q]; simp⟩) (fun mm hm => ?_) (fun d o q => ?_) I.bare
    · obtain ⟨o, es', ep, ho, r⟩ := hm
      exact ⟨o, es', ep, kp2 _ o (fun hd => (hf _ hd).2.1 rfl) ho, r⟩
    · refine (I.hok d o q).stay (fun a v ha r => kp2 a v ?_ r) (fun _ r => r) (fun _ _ r => r)
      rcases ha with rfl | ha
      · exact nfp _ _ q
      · exact nfp _ _ ha
  self := fun _ _ _ _ _ st h => by
    obtain ⟨⟨old, he⟩, _⟩ := st
    exact wpAny_pyIter_enum he h
def iEnum (K : PySem.W.Frag) (t : TA) : TI := fun σ H R => t σ H fun vs H2 => ∃ a, vs = [.ref a] ∧ (∃ xs, SqL K H2 a xs) ∧ R (Ite K a) H2
theorem pi_enum {X : Cx} {es : List Expr} {kk : Nat} {tpos : Pos} {e1 : Expr} {ta : TE} {p pos : Pos} (hg : Gl X "enumerate") (hm : X.mg "enumerate" = none) (h1 : PE X e1 ta)
    (hs : starEach [e1] X.env = (false, eval e1 X.env) :: starEach [] X.env := by rfl) (hpl : (backTo pos (starEach [] X.env)).any (·.1) = false := by rfl) :
    PI X (.Tuple es kk tpos) (.Call (.Name "enumerate" p) [e1] [] pos) (iEnum X.K (tCons ta tNil)) := by
  intro pins s σ H R I h
  refine wpAny_Call_Name_kw (ld_blt I hg hm PyProof.Rows.boot_enumerate ?_)
  refine PyProof.Rows.callWith_type1 (thn ((pa_cons h1 pa_nil hs) pos pins s σ H _ I h) fun us s1 ⟨vs, H1, I1, r1, q1⟩ => ?_) hs hpl
  obtain ⟨a, rfl, ⟨xs, hx⟩, q⟩ := q1
  obtain ⟨u1, rfl, ru1⟩ := r1.one
  cases (show u1 = Value.ref a from ru1)
  obtain ⟨its, _, p1⟩ := I1.sqK (c := false) hx
  refine call_enumerate_list p1 fun h' z i _ kp => ?_
  refine wpAny_pyIter_enum (s := { s1 with heap := h' }) z ?_
  refine ⟨_, _, _, _, H1, rfl, I1.kept (t' := s1.toks) kp, turn_enum a (s1.heap.objs.size + 1) s1.heap.objs.size (Nat.succ_ne_self _), ⟨⟨_, z⟩, i⟩, fun d hd => ?_, q⟩
  have hle : s1.heap.objs.size ≤ d := by
    simp only [List.mem_cons, List.not_mem_nil, or_false] at hd
    rcases hd with rfl | rfl
    · exact Nat.le_succ _
    · exact Nat.le_refl _
  exact I1.fpOk hle (I1.hok.fresh hle)
end L2

set_option Elab.async false
set_option linter.all false
set_option maxRecDepth 100000
set_option maxHeartbeats 4000000
namespace L2
open PySem PySem.Spec PyProof.Rows
/-- [e for x, y in zip(a, b)] -/
theorem comp_zip {c : Bool} {K : PySem.W.Frag} {a b : Addr} {xs ys : List V} (hlen : xs.length = ys.length) (j1 j2 : Nat) {l : List (Str × Option Nat)} {te : TE} {σ0 : St} {H : Hp} {Q : Addr → Hp → Prop} (Pv : Addr → Nat → List V → St → Hp → Prop)
    (h0 : ∀ D, H D = none → Pv D 0 [] (srcV l σ0) (upd H D (.lst []))) (hl : ∀ D i zs σ H', H D = none → Pv D i zs σ H' → SqK c K H' a xs ∧ SqK c K H' b ys)
    (hs : ∀ D i x y zs σ H' T, H D = none → xs[i]? = some x → ys[i]? = some y → i < xs.length → H' T = none → Pv D i zs σ H' → te ((σ.set j1 (some x)).set j2 (some y)) (upd H' T (.tup [x, y])) fun v H6 =>
      H6 D = some (.lst zs) ∧ zs.length < sizeLine ∧ CN Pv xs.length D i (zs ++ [v]) ((σ.set j1 (some x)).set j2 (some y)) (upd H6 D (.lst (zs ++ [v]))))
    (hd : ∀ D zs σ H', H D = none → Pv D xs.length zs σ H' → Q D H') : CompW l (gTup K 2 (gCons (gName j1) (gCons (gName j2) gNil))) tYes te (Itz c K a b) σ0 H Q := by
  intro D hD
  refine ⟨fun i m zs σ H' => m = xs.length - i ∧ i ≤ xs.length ∧ Pv D i zs σ H', ⟨xs.length, by simp, Nat.zero_le _, h0 D hD⟩, ?_⟩
  rintro i m zs σ H' ⟨rfl, hi, p⟩
  obtain ⟨q1, q2⟩ := hl D i zs σ H' hD p
  by_cases hlt : i < xs.length
  · refine .inr ⟨⟨xs, ys, xs[i], ys[i]'(by omega), q1, q2, by simp [hlt], by simp [show i < ys.length by omega]⟩, fun v H3 y => ?_⟩
    obtain ⟨T, x, y, rfl, hT, rfl, hxy⟩ := y
    obtain ⟨ex, ey⟩ := hxy xs ys q1 q2
    refine ⟨T, [x, y], rfl, SqT.of upd_same, rfl, x, [y], rfl, y, [], rfl, rfl, ?_⟩
    exact @iteT _ (CN Pv xs.length D i zs ((σ.set j1 (some x)).set j2 (some y)) (upd H' T (.tup [x, y]))) (hs D i x y zs σ H' T hD ex ey hlt hT p)
  · have e : i = xs.length := by omega
    subst e
    exact .inl ⟨⟨xs, ys, q1, q2, .inl (Nat.le_refl _)⟩, hd D zs σ H' hD p⟩
def tyD : Dt → String
  | .non => "NoneType"
  | .bl _ => "bool"
  | .int _ => "int"
  | .str _ => "str"
  | .tup _ => "tuple"
  | .lst _ => "list"
/-- isinstance of a thing that stands for a datum -/
def rIsD (K : PySem.W.Frag) : List V → Hp → VK → Prop := fun xs H Q => ∃ (N : Addr → Prop) (d : Dt) (x : V) (n : String) (b : Bool), xs = [x, .ty n] ∧ Rep K N H d x ∧ PySem.W.kitOne K (.type (tyD d)) (.type n) = some b ∧ Q (.bl b) H
theorem call_isD {X : Cx} : CallR X (.builtin "isinstance") (rIsD X.K) := by
  intro pins s σ H xs us Q I r h
  obtain ⟨N, d, x, n, b, rfl, hd, e, q⟩ := h
  obtain ⟨u, w', rfl, ru, rw'⟩ := vals2 r
  obtain rfl : w' = Value.type n := rw'
  have fin : ∀ tk, EP X pins σ Q (.bool b) { s with toks := tk } := fun tk => ⟨.bl b, H, I.tok tk, rfl, q⟩
  cases d with
  | non => unfold Rep at hd; subst hd; exact isinst_ok I ru .non e fin
  | bl y => unfold Rep at hd; subst hd; exact isinst_ok I ru (.bl y) e fin
  | int y => unfold Rep at hd; subst hd; exact isinst_ok I ru (.int y) e fin
  | str y => unfold Rep at hd; subst hd; exact isinst_ok I ru (.str y) e fin
  | tup l =>
    unfold Rep at hd
    obtain ⟨a, ys, rfl, _, q1, _⟩ := hd
    cases ru
    obtain ⟨its, _, p, _⟩ := I.tuple q1
    obtain ⟨o, h1, h2, _⟩ := p
    exact PySem.W.kia_one PySem.W.kitx_tuple I.kIn ⟨o, h1, h2⟩ e (fun z => nomatch z) fin
  | lst l =>
    unfold Rep at hd
    obtain ⟨a, ys, rfl, _, q1, _⟩ := hd
    cases ru
    obtain ⟨its, _, p, _⟩ := I.list q1
    obtain ⟨o, h1, h2, _⟩ := p.isList
    exact PySem.W.kia_one PySem.W.kitx_list I.kIn ⟨o, h1, h2⟩ e (fun z => nomatch z) fin
mutual
def noB : Dt → Bool
  | .bl _ => false
  | .tup l => decide (l.length ≤ 1000) && noBL l
  | .lst l => decide (l.length ≤ 1000) && noBL l
  | _ => true
def noBL : List Dt → Bool
  | [] => true
  | d :: r => noB d && noBL r
end
theorem noBL_get : ∀ {l : List Dt} {i : Nat} {d : Dt}, noBL l = true → l[i]? = some d → noB d = true
  | [], i, d, _, e => by simp at e
  | a :: r, 0, d, h, e => by simp at e; subst e; simp only [noBL, Bool.and_eq_true] at h; exact h.1
  | a :: r, i + 1, d, h, e => by
    simp only [noBL, Bool.and_eq_true] at h
    exact noBL_get (l := r) (i := i) h.2 (by simpa using e)
/-- same(found, due): both stand for one datum -/
def spS (K : PySem.W.Frag) : Nat → Sp
  | 0 => fun _ _ _ _ => False
  | n + 1 => fun vs H Q _ => ∃ (N N' : Addr → Prop) (d : Dt) (v1 v2 : V), vs = [v1, v2] ∧ Rep K N H d v1 ∧ Rep K N' H d v2 ∧ d.dep ≤ n ∧ noB d = true ∧ ∀ H', (∀ b o, H b = some o → H' b = some o) → Q (.bl true) H'
theorem Rep.sub {K : PySem.W.Frag} {N : Addr → Prop} {H H' : Hp} (s : ∀ b o, H b = some o → H' b = some o) {d : Dt} {v : V} (h : Rep K N H d v) : Rep K N H' d v := h.same fun b o e _ => s b o e
end L2

set_option Elab.async false
set_option linter.all false
set_option maxRecDepth 100000
set_option maxHeartbeats 4000000
namespace L2
open PySem PySem.Spec PyProof.Rows
/-- a statement, and what holds behind it on all its ways -/
def tMid (t : TS) : TS := fun D σ H => ∃ P : St → Hp → Prop, t { D with nx := P } σ H ∧ ∀ σ' H', P σ' H' → D.nx σ' H'
theorem ps_mid {X : Cx} {st : Stmt} {t : TS} (h : PS X st t) : PS X st (tMid t) := by
  intro pins s σ H D I hw
  obtain ⟨Pm, h1, h2⟩ := hw
  refine thn (h pins s σ H _ I h1) fun f s' q => ?_
  cases f with
  | next => obtain ⟨σ', H', I', q'⟩ := q; exact ⟨σ', H', I', h2 _ _ q'⟩
  | brk => exact q
  | cont => exact q
  | ret u => exact q
end L2

set_option Elab.async false
set_option linter.all false
set_option maxRecDepth 100000
set_option maxHeartbeats 4000000
namespace L2
open PySem PySem.Spec PyProof.Rows
theorem rev_idx {α : Type} (l : List α) : (List.range l.length).filterMap (fun k => l[l.length - 1 - k]?) = l.reverse := by
  have hm : ∀ n, n ≤ l.length → (List.range n).filterMap (fun k => l[l.length - 1 - k]?) = l.reverse.take n := by
    intro n
    induction n with
    | zero => intro _; rfl
    | succ n ih =>
      intro hn
      rw [List.range_succ, List.filterMap_append, ih (by omega), List.take_succ]
      congr 1
      rw [List.getElem?_reverse (by omega), List.getElem?_eq_getElem (show l.length - 1 - n < l.length by omega)]
      simp [show l.length - 1 - n < l.length by omega]
  rw [hm _ (Nat.le_refl _), List.take_of_length_le (by rw [List.length_reverse]; exact Nat.le_refl _)]
theorem slicePick_rev (its : List Value) : slicePick its.toArray none none (some (-1)) = its.reverse.toArray := by
  unfold slicePick
  have e : sliceBounds none none (some (-1)) its.toArray.size = ((its.length : Int) - 1, -1, -1) := by
    simp [sliceBounds]
  rw [e]
  have e2 : sliceRange ((its.length : Int) - 1) (-1) (-1) = (List.range its.length).map fun k => its.length - 1 - k := by
    unfold sliceRange
    rw [if_neg (by decide)]
    by_cases h : its.length = 0
    · rw [h]; simp
    · rw [if_pos (by omega)]
      have e3 : ((its.length : Int) - 1 - -1 - -1 - 1) / (- -1) = (its.length : Int) := by
        have : (- -1 : Int) = 1 := by decide
        rw [this, Int.ediv_one]; omega
      rw [e3]
      show (List.range ((its.length : Int)).toNat).map _ = _
      rw [Int.toNat_natCast]
      refine List.map_congr_left fun k hk => ?_
      have := List.mem_range.mp hk
      omega
  rw [e2, List.filterMap_map]
  congr 1
  rw [← rev_idx its]
  refine congrArg (fun f => List.filterMap f (List.range its.length)) (funext fun k => ?_)
  simp
theorem Vals.rev : ∀ {xs : List V} {us : List Value}, Vals xs us → Vals xs.reverse us.reverse
  | _, _, .nil => .nil
  | _, _, .cons r t => by
    rw [List.reverse_cons, List.reverse_cons]
    exact Vals.append (Vals.rev t) (.cons r .nil)
/-- xs[::-1] -/
def tRevL (K : PySem.W.Frag) (te ts : TE) : TE := fun σ H Q => te σ H fun x H1 => ts σ H1 fun y H2 => y = .int (-1) ∧ ∃ a xs, x = .ref a ∧ SqL K H2 a xs ∧ ∀ p, H2 p = none → Q (.ref p) (upd H2 p (.lst xs.reverse))
theorem pe_rev {X : Cx} {e st : Expr} {te ts : TE} {p2 pos : Pos} (he : PE X e te) (hst : PE X st ts) : PE X (.Subscript e (.Slice none none (some st) p2) pos) (tRevL X.K te ts) := by
  intro pins s σ H Q I h
  refine Subscript_ (thn (he pins s σ H _ I h) fun v s1 ⟨x, H1, I1, r1, q1⟩ => ?_)
  refine wpAny_Slice ?_
  rw [evalPart_none]
  refine wpAny_pure (wpAny_pure ?_)
  rw [evalPart_some]
  refine thn (hst pins s1 σ H1 _ I1 q1) fun vs s3 ⟨y, H3, I3, r3, e3, q3⟩ => ?_
  subst e3
  obtain ⟨a, xs, rfl, hx, q⟩ := q3
  cases r1
  obtain ⟨t3, rfl⟩ := r3
  have I4 : Inv X pins σ H3 { s3 with heap := s3.heap.push { cls := .type "slice", data := .fields #[Value.none, Value.none, Value.int (-1) t3] } } := I3.kept (t' := s3.toks) fun b ob q => Heap.get?_push_of_some _ q
  obtain ⟨its, r, ht, hz⟩ := I4.list hx
  have hlen := r.length
  show wpAny (model X.prog X.w) X.A (subscriptTail e (.Slice none none (some st) p2) (.ref a) (.ref s3.heap.objs.size)) (EP X pins σ Q) X.xe { s3 with heap := s3.heap.push { cls := .type "slice", data := .fields #[Value.none, Value.none, Value.int (-1) t3] } }
  refine tail_any (ops := [.ref a, .ref s3.heap.objs.size]) ht.isList.typeIs slot_list_getitem.lookup ?_ (by with_unfolding_all rfl)
  refine wpAny_getItem_list_slice ht.isList (Heap.IsSliceOf.new ..) .none .none (.int (-1) t3) (by simp) ?_ (by rw [List.size_toArray]; omega)
  rw [slicePick_rev]
  refine ⟨.ref _, _, I4.laid (t' := s3.toks) (o := .lst xs.reverse) (fun b ob q => Heap.get?_push_of_some _ q) (Nat.le_refl _) ?_, rfl, q _ (I4.hok.fresh (Nat.le_refl _))⟩
  exact ⟨by rw [List.length_reverse]; exact hz, _, 0, r.rev, Heap.get?_push_size _ rfl⟩
/-- sum of a list of ints -/
theorem call_sumL {X : Cx} (hc : X.calm = true) : CallR X (.builtin "sum") (fun xs H Q => ∃ (a : Addr) (ns : List Int), xs = [.ref a] ∧ SqL X.K H a (ns.map V.int) ∧ Q (.int ns.sum) H) := by
  intro pins s σ H xs us Q I r h
  obtain ⟨a, ns, rfl, ha, q⟩ := h
  obtain ⟨u, rfl, ru⟩ := vals1 r
  cases ru
  obtain ⟨its, rv, p, hz⟩ := I.list ha
  have hi : IntsAre its ns := intsAre_of rv
  obtain ⟨ys, hy⟩ := hi.allInts.items
  refine sum_intListG (I.ok.hd hc) (hy ▸ p.isList) fun h' tk t' hk => ?_
  have g1 : ns = ys.toList.map (·.1) := by
    rw [← nums_intItems, ← hy]
    exact (show numsOf its.toArray.toList = ns from hi.numsOf).symm
  have g2 : preSum (numAt ys) ys.size = ns.sum := by rw [preSum_eq, List.take_of_length_le (by simp), g1]
  rw [g2]
  exact ⟨.int ns.sum, H, I.kept (t' := tk) hk, ⟨t', rfl⟩, q⟩
mutual
theorem Rep.wk {K : PySem.W.Frag} {N N' : Addr → Prop} {H : Hp} (s : ∀ a, N' a → N a) : ∀ {d : Dt} {v : V}, Rep K N H d v → Rep K N' H d v
  | .non, _, h => h
  | .bl _, _, h => h
  | .int _, _, h => h
  | .str _, _, h => h
  | .tup l, v, h => by
    unfold Rep at h ⊢
    obtain ⟨a, xs, e, n, q, r⟩ := h
    exact ⟨a, xs, e, fun z => n (s a z), q, RepL.wk s r⟩
  | .lst l, v, h => by
    unfold Rep at h ⊢
    obtain ⟨a, xs, e, n, q, r⟩ := h
    exact ⟨a, xs, e, fun z => n (s a z), q, RepL.wk s r⟩
theorem RepL.wk {K : PySem.W.Frag} {N N' : Addr → Prop} {H : Hp} (s : ∀ a, N' a → N a) : ∀ {l : List Dt} {xs : List V}, RepL K N H l xs → RepL K N' H l xs
  | [], _, h => h
  | d :: r, xs, h => by
    unfold RepL at h ⊢
    obtain ⟨x, ys, e, h1, h2⟩ := h
    exact ⟨x, ys, e, Rep.wk s h1, RepL.wk s h2⟩
end
theorem RepL.snoc {K : PySem.W.Frag} {N : Addr → Prop} {H : Hp} {d : Dt} {v : V} : ∀ {l : List Dt} {xs : List V}, RepL K N H l xs → Rep K N H d v → RepL K N H (l ++ [d]) (xs ++ [v])
  | [], xs, h, k => by
    unfold RepL at h
    subst h
    show RepL K N H [d] [v]
    unfold RepL
    exact ⟨v, [], rfl, k, by unfold RepL; rfl⟩
  | e :: r, xs, h, k => by
    unfold RepL at h
    obtain ⟨x, ys, rfl, h1, h2⟩ := h
    show RepL K N H (e :: (r ++ [d])) (x :: (ys ++ [v]))
    unfold RepL
    exact ⟨x, _, rfl, h1, RepL.snoc h2 k⟩
theorem RepL.rev {K : PySem.W.Frag} {N : Addr → Prop} {H : Hp} : ∀ {l : List Dt} {xs : List V}, RepL K N H l xs → RepL K N H l.reverse xs.reverse
  | [], xs, h => by unfold RepL at h; subst h; unfold RepL; rfl
  | d :: r, xs, h => by
    unfold RepL at h
    obtain ⟨x, ys, rfl, h1, h2⟩ := h
    rw [List.reverse_cons, List.reverse_cons]
    exact RepL.snoc (RepL.rev h2) h1
theorem RepL.take {K : PySem.W.Frag} {N : Addr → Prop} {H : Hp} : ∀ (n : Nat) {l : List Dt} {xs : List V}, RepL K N H l xs → RepL K N H (l.take n) (xs.take n)
  | 0, l, xs, h => by rw [List.take_zero, List.take_zero]; unfold RepL; rfl
  | n + 1, [], xs, h => by unfold RepL at h; subst h; unfold RepL; rfl
  | n + 1, d :: r, xs, h => by
    unfold RepL at h
    obtain ⟨x, ys, rfl, h1, h2⟩ := h
    rw [List.take_succ_cons, List.take_succ_cons]
    unfold RepL
    exact ⟨x, _, rfl, h1, RepL.take n h2⟩
/-- a constant of the top -/
theorem SqT.const {K : PySem.W.Frag} {H : Hp} {a : Addr} {od : Option Addr} {its : Array Value} {n : Nat} {sl : Array (Option Value)} {xs : List V} (h : K.lookup a = some ⟨.type "tuple", od, .seq its n, sl⟩) (v : Vals xs its.toList) (hz : xs.length ≤ 1000) : SqT K H a xs :=
  .inr ⟨_, its, n, h, rfl, rfl, by
    have h2 : xs.length = its.size := v.length
    rw [← h2]
    exact Nat.le_of_lt (small1000 hz), v⟩
end L2

set_option Elab.async false
set_option linter.all false
set_option maxRecDepth 100000
set_option maxHeartbeats 4000000
namespace L2
open PySem PySem.Spec PyProof.Rows
open PySem.Builtin.Str in
/-- text.split(sep), sep found -/
def rSplit : V → List V → Hp → VK → Prop := fun x vs H Q => ∃ t sep, x = .str t ∧ vs = [.str sep] ∧ (decide (t.length < sep.length) || decide (strKind t < strKind sep)) = false ∧ (sep.length == 0) = false ∧ (occurrences t sep 0 t.length (t.length + 1)).isEmpty = false ∧ t.length ≤ 1000 ∧
  (partsBetween t (occurrences t sep 0 t.length (t.length + 1)) sep.length).length ≤ 1000 ∧ ∀ l, H l = none → Q (.ref l) (upd H l (.lst ((partsBetween t (occurrences t sep 0 t.length (t.length + 1)) sep.length).map V.str)))
theorem vals_strsFrom : ∀ (n : Nat) (l : List Str), Vals (l.map V.str) (strsFrom n l)
  | _, [] => .nil
  | n, x :: r => .cons ⟨n, rfl⟩ (vals_strsFrom (n + 1) r)
theorem mt_split {X : Cx} : MtR X "str.split" rSplit := by
  intro pins s σ H x vs v us Q I rx rv h
  obtain ⟨t, sep, rfl, rfl, h1, hy, hf, hz, hn, q⟩ := h
  obtain ⟨tk, rfl⟩ := rx
  obtain ⟨u, rfl, ru⟩ := rv.one
  obtain ⟨tk2, rfl⟩ := ru
  refine call_meets F.slot_str_split ((tyV_is (T := "str") (x := .str t) I ⟨tk, rfl⟩ rfl).1) F.entry_str_split (F.args_str_split_2 _ _) (meets_str_split_sep t sep tk tk2 h1 hy hf (Nat.le_of_lt (small1000 hz)) (Nat.le_of_lt (small1000 hn))) ?_
  refine ⟨.ref s.heap.objs.size, _, I.lnew (t' := _) (vals_strsFrom s.toks _) ?_, rfl, q _ I.fresh⟩
  rw [List.length_map]
  exact Nat.le_of_lt (small1000 hn)
/-- xs.count(x), flat items -/
def rCount : V → List V → Hp → VK → Prop := fun x vs H Q => ∃ l xs y, x = .ref l ∧ vs = [y] ∧ H l = some (.lst xs) ∧ flatV y = true ∧ xs.all flatV = true ∧ Q (.int ((xs.countP fun z => eqV z y : Nat) : Int)) H
theorem count_eqU {x : V} : ∀ {xs : List V} {us : List Value}, Vals xs us → xs.all flatV = true → us.countP (eqU x) = xs.countP fun z => eqV z x
  | _, _, .nil, _ => rfl
  | y :: xs, u :: us, .cons r t, f => by
    rw [List.all_cons, Bool.and_eq_true] at f
    rw [List.countP_cons, List.countP_cons, count_eqU t f.2, eqU_of r f.1]
theorem mt_count {X : Cx} : MtR X "list.count" rCount := by
  intro pins s σ H x vs v us Q I rx rv h
  obtain ⟨l, xs, y, rfl, rfl, hH, fy, fx, q⟩ := h
  cases rx
  obtain ⟨u, rfl, ru⟩ := rv.one
  obtain ⟨z, its, n, r, hl, e⟩ := I.lstM hH
  refine call_meets F.slot_list_count ⟨_, e, rfl⟩ F.entry_list_count (F.args_list_count_2 _ _) (SeqAt.list_countAt l its.toArray n none #[] u (eqU y)) ⟨e, fun w hw => mem_eqAt ru fy r fx w (by simpa using hw), ?_⟩
  refine ⟨.int _, H, I.tok _, ⟨_, rfl⟩, ?_⟩
  rw [show its.toArray.toList = its from rfl, count_eqU r fx]
  exact q
theorem pe_bmK {X : Cx} {K : PySem.W.Frag} {o e : Expr} {es : List Expr} {to : TE} {t : TA} {name : Str} {apos cpos : Pos} {T id : String} {r : V → List V → Hp → VK → Prop} (hK : X.K = K) (pa : PlainAttrs T) (slot : Slot T name id) (hty : typeOf (.builtin id) = pure (.type "method_descriptor")) (hm : MtR X id r) (ho : PE X o to) (ha : PA X (e :: es) t)
    (hbase : attributeBase o name X.env (eval o X.env) = eval o X.env := by rfl)
    (hfew : ((backTo cpos (starEach (e :: es) X.env)).all (fun x => !x.1) && (backToKw cpos (keywordEach [] X.env)).all (fun x => x.1.isSome)
      && decide ((e :: es).length + ([] : List Keyword).length + (if ([] : List Keyword).isEmpty then 0 else 1) < 30)) = true := by rfl)
    (hline : (apos.endLine == cpos.line) = true := by rfl) (hs : starEach (e :: es) X.env = (false, eval e X.env) :: starEach es X.env := by rfl) (hplain : (backTo cpos (starEach es X.env)).any (·.1) = false := by rfl) :
    PE X (.Call (.Attribute o name apos) (e :: es) [] cpos) (tBM K T r to t) := by subst hK; exact pe_bm pa slot hty hm ho ha hbase hfew hline hs hplain
theorem ix_ok {n : Nat} {i : Int} (h0 : 0 ≤ i) (h1 : i < n) : seqIndex? i n = some i.toNat := by
  have : ixN n i = some i.toNat := by
    unfold ixN
    rw [if_pos h0, if_pos h1]
  exact (ixN_seq this).1
end L2

set_option Elab.async false
set_option linter.all false
set_option maxRecDepth 100000
set_option maxHeartbeats 4000000
namespace HT
open PySem PyProof.Rows
section
variable {prog : Program} {w : World} {A : Around} {E : Value → Shared → Prop} {s : Shared}
theorem getItem_tuple_whole {t sl : Addr} {items : Array Value} {vl vu : Value} {lo hi : Option Int} {Q : Value → Shared → Prop} (ht : IsTup s.heap t items) (hs : s.heap.IsSliceOf sl vl vu .none) (pl : IsPart vl lo) (pu : IsPart vu hi)
    (h1 : sIx items.size 0 lo = 0) (h2 : sIx items.size items.size hi = items.size) (h : Q (.ref t) s) : wpAny (model prog w) A (getItem (.ref t) (.ref sl)) Q E s := by
  obtain ⟨os, hos, hcs, hds⟩ := id hs
  have hTs : s.TypeIs (.ref sl) "slice" := ⟨os, hos, hcs⟩
  unfold getItem
  try with_reducible refine wpAny_holding ?_
  first | refine wpAny_bind (wpAny_pure ?_) | skip
  refine wpAny_bind (wpAny_sequenceKey ht.typeIs (by decide) ?_)
  refine wpAny_bind (wpAny_callSpecial?_slot (name := Str.ofString "__getitem__") ht.typeIs PyProof.Rows.slot_tuple_getitem
    (wpAny_call_entry PyProof.Rows.slot_tuple_getitem ht.typeIs entry_tuple_getitem ?_ (args_tuple_getitem _ _)))
  show wpAny _ _ (Builtin.Tuple.tupleItemsOf (.ref t) >>= _) _ _ s
  refine wpAny_bind (tupleItemsOf_ ht ?_)
  refine wpAny_bind (wpAny_typeOf hTs ?_)
  rw [if_pos (by decide)]
  refine wpAny_bind (sliceApplied_gen hs pl pu ?_)
  have hyes : ((((sIx items.size 0 lo : Nat) : Int) == 0 && (1 : Int) == 1 && (sIx items.size items.size hi - sIx items.size 0 lo) == items.size) = true) := by
    rw [h1, h2]; simp
  show wpAny _ _ (if (((sIx items.size 0 lo : Nat) : Int) == 0 && (1 : Int) == 1 && (sIx items.size items.size hi - sIx items.size 0 lo) == items.size) = true then _ else _) _ _ s
  rw [if_pos hyes]
  unfold Builtin.Tuple.tupleIsExact
  refine wpAny_bind (wpAny_bind (wpAny_typeOf ht.typeIs (wpAny_pure ?_)))
  rw [if_pos (by decide)]
  first
    | exact wpAny_bind (wpAny_rule (wpAny_pure ⟨_, rfl, wpAny_pure h⟩))
    | exact wpAny_bind (wpAny_rule (wpAny_bind (wpAny_pure (wpAny_pure ⟨_, rfl, wpAny_pure h⟩))))
end
end HT
namespace L2
open PySem PySem.Spec PyProof.Rows
theorem op_isnotB {X : Cx} : OpR X (compareOp .IsNot) (fun x y H Q => ∃ a b, x = .bl a ∧ y = .bl b ∧ Q (.bl (a != b)) H) := by
  intro pins s σ H x y v u Q I rx ry h
  obtain ⟨a, b, rfl, rfl, q⟩ := h
  cases (show v = Value.bool a from rx)
  cases (show u = Value.bool b from ry)
  exact isnot_bool ⟨.bl _, H, I, rfl, q⟩
/-- t + u of tuples, the left one empty too -/
def rCatT2 (K : PySem.W.Frag) : R2 := fun x y H Q => ∃ a b xs ys, x = .ref a ∧ y = .ref b ∧ SqT K H a xs ∧ SqT K H b ys ∧ ys ≠ [] ∧ xs.length + ys.length ≤ sizeLine ∧
  (xs = [] → Q (.ref b) H) ∧ (xs ≠ [] → ∀ p, H p = none → Q (.ref p) (upd H p (.tup (xs ++ ys))))
theorem op_catT2 {X : Cx} : OpR X (binaryOp .Add) (rCatT2 X.K) := by
  intro pins s σ H x y v u Q I rx ry h
  obtain ⟨a, b, xs, ys, rfl, rfl, ha, hb, hy, hz, q1, q2⟩ := h
  by_cases hx : xs = []
  · cases rx
    cases ry
    obtain ⟨its, r1, p1, _⟩ := I.tuple ha
    obtain ⟨its2, r2, p2, _⟩ := I.tuple hb
    obtain ⟨⟨cls, dd, data, sl⟩, ho, hc, n, hd⟩ := id p1
    obtain ⟨⟨cls2, dd2, data2, sl2⟩, ho2, hc2, n2, hd2⟩ := id p2
    simp only at hc hd hc2 hd2
    subst hc hd hc2 hd2
    have he : its = [] := r1.nil_iff.mpr hx
    exact concat_meets ⟨_, ho, rfl⟩ ⟨_, ho2, rfl⟩ noFill_tuple_add seq_tuple_add PySem.F.slot_tuple_add PySem.F.entry_tuple_add (PySem.F.args_tuple_add_2 _ _)
      (tuple_addW0 a b its.toArray its2.toArray n n2 dd dd2 sl sl2 (by simp [he])) ⟨ho, ho2, ⟨.ref b, H, I, rfl, q1 hx⟩⟩
  · exact op_catT pins s σ H (.ref a) (.ref b) v u Q I rx ry ⟨a, b, xs, ys, rfl, rfl, ha, hb, hx, hz, fun z => absurd z hy, fun _ => q2 hx⟩
/-- t[a:b] of a tuple, the whole too -/
def rSlT2 (K : PySem.W.Frag) : V → Option Int → Option Int → Hp → VK → Prop := fun x lo hi H Q => ∃ a xs, x = .ref a ∧ SqT K H a xs ∧
  ((HT.sIx xs.length 0 lo = 0 ∧ HT.sIx xs.length xs.length hi = xs.length) → Q (.ref a) H) ∧ (¬ (HT.sIx xs.length 0 lo = 0 ∧ HT.sIx xs.length xs.length hi = xs.length) → ∀ p, H p = none → Q (.ref p) (upd H p (.tup (cutV xs lo hi))))
theorem sl_tup2 {X : Cx} : SlR X (rSlT2 X.K) := by
  intro pins s σ H x v vl vu lo hi sl Q I rx hs pl pu h
  obtain ⟨a, xs, rfl, hx, q1, q2⟩ := h
  by_cases hw : HT.sIx xs.length 0 lo = 0 ∧ HT.sIx xs.length xs.length hi = xs.length
  · cases rx
    obtain ⟨its, r, ht, hz⟩ := I.tuple hx
    have hlen : its.toArray.size = xs.length := by rw [List.size_toArray]; exact r.length.symm
    refine ⟨"tuple", _, PyProof.Rows.slot_tuple_getitem.lookup, ht.typeIs, ?_⟩
    exact HT.getItem_tuple_whole ht hs pl pu (by rw [hlen]; exact hw.1) (by rw [hlen]; exact hw.2) ⟨.ref a, H, I, rfl, q1 hw⟩
  · exact sl_tup pins s σ H (.ref a) v vl vu lo hi sl Q I rx hs pl pu ⟨a, xs, rfl, hx, hw, q2 hw⟩
end L2

set_option Elab.async false
set_option linter.all false
set_option maxRecDepth 100000
set_option maxHeartbeats 4000000
namespace Ro
open PySem L2
/-! ### fractions -/
def gsg (top below : Int) : Int := if below < 0 then -((Int.gcd top below : Nat) : Int) else ((Int.gcd top below : Nat) : Int)
def fr (top below : Int) : Int × Int := (top.fdiv (gsg top below), below.fdiv (gsg top below))
theorem gcd_pos {t b : Int} (h : b ≠ 0) : 0 < Int.gcd t b := Int.gcd_pos_of_ne_zero_right t h
theorem gsg_ne {t b : Int} (h : b ≠ 0) : gsg t b ≠ 0 := by
  have := gcd_pos (t := t) h
  unfold gsg
  split <;> omega
theorem gsg_natAbs (t b : Int) : (gsg t b).natAbs = Int.gcd t b := by
  unfold gsg
  split <;> omega
theorem gsg_dvd_l (t b : Int) : gsg t b ∣ t := by
  unfold gsg
  split
  · exact (Int.neg_dvd).mpr (Int.gcd_dvd_left ..)
  · exact Int.gcd_dvd_left ..
theorem gsg_dvd_r (t b : Int) : gsg t b ∣ b := by
  unfold gsg
  split
  · exact (Int.neg_dvd).mpr (Int.gcd_dvd_right ..)
  · exact Int.gcd_dvd_right ..
theorem fdiv_of_dvd {a g : Int} (h : g ∣ a) : a.fdiv g * g = a := Int.fdiv_mul_cancel h
theorem dvd_co {x y v : Int} (h : y ∣ x * v) (h2 : Int.gcd x y = 1) : y ∣ v := by
  have h1 : y.natAbs ∣ x.natAbs * v.natAbs := by rw [← Int.natAbs_mul]; exact Int.natAbs_dvd_natAbs.mpr h
  have hc : Nat.Coprime y.natAbs x.natAbs := by
    show Nat.gcd y.natAbs x.natAbs = 1
    rw [Nat.gcd_comm]
    exact h2
  exact Int.natAbs_dvd_natAbs.mp (hc.dvd_of_dvd_mul_left h1)
theorem fr_l (t b : Int) : (fr t b).1 * gsg t b = t := fdiv_of_dvd (gsg_dvd_l t b)
theorem fr_r (t b : Int) : (fr t b).2 * gsg t b = b := fdiv_of_dvd (gsg_dvd_r t b)
theorem fr_cross (t b : Int) (h : b ≠ 0) : (fr t b).1 * b = t * (fr t b).2 := by
  have h1 := fr_l t b
  have h2 := fr_r t b
  generalize (fr t b).1 = x at *
  generalize (fr t b).2 = y at *
  generalize gsg t b = g at *
  subst h1
  rw [← h2]
  rw [Int.mul_comm y g, ← Int.mul_assoc, Int.mul_right_comm]
theorem fr_pos (t b : Int) (h : b ≠ 0) : 1 ≤ (fr t b).2 := by
  have h2 := fr_r t b
  have hg := gcd_pos (t := t) h
  have hb : (gsg t b < 0 ∧ b < 0) ∨ (0 < gsg t b ∧ 0 < b) := by
    unfold gsg
    split
    · left; omega
    · right; omega
  generalize (fr t b).2 = y at *
  generalize gsg t b = g at *
  rcases hb with ⟨h3, h4⟩ | ⟨h3, h4⟩
  · refine Int.not_lt.mp fun hy => ?_
    have : 0 ≤ y * g := Int.mul_nonneg_of_nonpos_of_nonpos (by omega) (by omega)
    omega
  · refine Int.not_lt.mp fun hy => ?_
    have : y * g ≤ 0 := Int.mul_nonpos_of_nonpos_of_nonneg (by omega) (by omega)
    omega
theorem fr_gcd (t b : Int) (h : b ≠ 0) : Int.gcd (fr t b).1 (fr t b).2 = 1 := by
  have h1 := fr_l t b
  have h2 := fr_r t b
  have hg := gcd_pos (t := t) h
  have hn := gsg_natAbs t b
  have e : Int.gcd ((fr t b).1 * gsg t b) ((fr t b).2 * gsg t b) = Int.gcd (fr t b).1 (fr t b).2 * (gsg t b).natAbs := Int.gcd_mul_right ..
  rw [h1, h2, hn] at e
  have : 1 * Int.gcd t b = Int.gcd (fr t b).1 (fr t b).2 * Int.gcd t b := by rw [Nat.one_mul]; exact e
  exact (Nat.eq_of_mul_eq_mul_right hg this).symm
/-- two fractions in lowest terms that are crosswise alike are one -/
theorem fr_uniq {x y t b : Int} (hb : b ≠ 0) (h1 : 1 ≤ y) (h2 : Int.gcd x y = 1) (h3 : x * b = t * y) : fr t b = (x, y) := by
  have k1 := fr_pos t b hb
  have k2 := fr_gcd t b hb
  have k3 := fr_cross t b hb
  have e : x * (fr t b).2 = (fr t b).1 * y := by
    refine Int.eq_of_mul_eq_mul_right hb ?_
    have e1 : x * (fr t b).2 * b = x * b * (fr t b).2 := Int.mul_right_comm ..
    have e2 : (fr t b).1 * y * b = (fr t b).1 * b * y := Int.mul_right_comm ..
    rw [e1, e2, h3, k3, Int.mul_right_comm]
  generalize hx : (fr t b).1 = u at *
  generalize hy : (fr t b).2 = v at *
  have d1 : y ∣ v := by
    have : y ∣ x * v := ⟨u, by rw [e, Int.mul_comm]⟩
    exact dvd_co this h2
  have d2 : v ∣ y := by
    have : v ∣ u * y := ⟨x, by rw [← e, Int.mul_comm]⟩
    exact dvd_co this k2
  have ev : v = y := Int.dvd_antisymm (by omega) (by omega) d2 d1
  have eu : u = x := by
    rw [ev] at e
    exact (Int.eq_of_mul_eq_mul_right (by omega) e).symm
  rw [show fr t b = (u, v) from by rw [← hx, ← hy], eu, ev]
theorem fr_times {t b k : Int} (hb : b ≠ 0) (hk : k ≠ 0) : fr (t * k) (b * k) = fr t b := by
  refine fr_uniq (x := (fr t b).1) (y := (fr t b).2) (Int.mul_ne_zero hb hk) (fr_pos t b hb) (fr_gcd t b hb) ?_
  rw [← Int.mul_assoc, fr_cross t b hb, Int.mul_right_comm]
theorem fr_self {x y : Int} (h1 : 1 ≤ y) (h2 : Int.gcd x y = 1) : fr x y = (x, y) := fr_uniq (by omega) h1 h2 rfl
theorem fr_fit_l {n : Nat} {t b : Int} (hb : b ≠ 0) (h : Fit n t) : Fit n (fr t b).1 := by
  refine h.le ?_
  have h1 := congrArg Int.natAbs (fr_l t b)
  rw [Int.natAbs_mul, gsg_natAbs] at h1
  have := gcd_pos (t := t) hb
  rw [← h1]
  exact Nat.le_mul_of_pos_right _ this
theorem fr_fit_r {n : Nat} {t b : Int} (hb : b ≠ 0) (h : Fit n b) : Fit n (fr t b).2 := by
  refine h.le ?_
  have h1 := congrArg Int.natAbs (fr_r t b)
  rw [Int.natAbs_mul, gsg_natAbs] at h1
  have := gcd_pos (t := t) hb
  rw [← h1]
  exact Nat.le_mul_of_pos_right _ this
/-- the law's own way to lowest terms -/
def low (top below : Int) : Int × Int :=
  (((if below < 0 then -1 else 1) * top).fdiv ((Int.gcd top below : Nat) : Int), ((if below < 0 then -1 else 1) * below).fdiv ((Int.gcd top below : Nat) : Int))
theorem low_fr (t b : Int) (hb : b ≠ 0) : low t b = fr t b := by
  unfold low fr gsg
  by_cases h : b < 0
  · rw [if_pos h, if_pos h]
    have hg := gcd_pos (t := t) hb
    have key : ∀ a : Int, ((Int.gcd t b : Nat) : Int) ∣ a → (-1 * a).fdiv ((Int.gcd t b : Nat) : Int) = a.fdiv (-((Int.gcd t b : Nat) : Int)) := by
      intro a ⟨c, hc⟩
      rw [hc]
      have e1 : (-1 * (((Int.gcd t b : Nat) : Int) * c)) = (-c) * ((Int.gcd t b : Nat) : Int) := by
        rw [Int.neg_mul, Int.one_mul, Int.mul_comm, Int.neg_mul]
      have e2 : (((Int.gcd t b : Nat) : Int) * c) = (-c) * (-((Int.gcd t b : Nat) : Int)) := by
        rw [Int.neg_mul_neg, Int.mul_comm]
      rw [e1, Int.mul_fdiv_cancel _ (by omega), e2, Int.mul_fdiv_cancel _ (by omega)]
    rw [key t (Int.gcd_dvd_left ..), key b (Int.gcd_dvd_right ..)]
  · rw [if_neg h, if_neg h, Int.one_mul, Int.one_mul]
end Ro

set_option Elab.async false
set_option linter.all false
set_option maxRecDepth 100000
set_option maxHeartbeats 4000000
namespace Ro
open PySem L2
theorem boot_abs : bootBuiltins "abs" = some (.builtin "abs") := by decide +kernel
theorem boot_divmod : bootBuiltins "divmod" = some (.builtin "divmod") := by decide +kernel
theorem boot_list : bootBuiltins "list" = some (.type "list") := by decide +kernel
theorem boot_tuple : bootBuiltins "tuple" = some (.type "tuple") := by decide +kernel
theorem boot_int : bootBuiltins "int" = some (.type "int") := by decide +kernel
theorem boot_bool : bootBuiltins "bool" = some (.type "bool") := by decide +kernel
theorem boot_str : bootBuiltins "str" = some (.type "str") := by decide +kernel
theorem boot_isinstance : bootBuiltins "isinstance" = some (.builtin "isinstance") := by decide +kernel
theorem boot_all : bootBuiltins "all" = some (.builtin "all") := by decide +kernel
theorem boot_any : bootBuiltins "any" = some (.builtin "any") := by decide +kernel
/-- the built-in names that the text does not bind -/
def Free (mg : Str → Option Value) (l : List Str) : Prop := ∀ x ∈ l, mg x = none
/-! ### the state of the draws: a dict {cells, turn} and its list of cells -/
def AtS (p c : Addr) : Addr → Prop := fun a => a = p ∨ a = c
abbrev kCells : Key := Sum.inr "cells"
abbrev kTurn : Key := Sum.inr "turn"
theorem kne : ¬ (("cells" : Str) = "turn") := by decide +kernel
def kvsS (c : Addr) (t : Int) : List (Key × V) := [(kCells, .ref c), (kTurn, .int t)]
structure StAt (H : Hp) (p c : Addr) (n : Nat) : Prop where
  ex : ∃ (t : Int) (ns : List Int), H p = some (.dK (kvsS c t)) ∧ H c = some (.lst (ns.map V.int)) ∧ 0 < ns.length ∧ ns.length ≤ 63 ∧ 0 ≤ t ∧ t ≤ n
theorem val_cells (c : Addr) (t : Int) : valV (kvsS c t) kCells = some (.ref c) := by
  unfold kvsS
  exact valV_pos rfl
theorem knk : ¬ (kCells = kTurn) := fun z => kne (Sum.inr.inj z)
theorem val_turn (c : Addr) (t : Int) : valV (kvsS c t) kTurn = some (.int t) := by
  unfold kvsS
  rw [valV_neg (p := (kCells, V.ref c)) (k := kTurn) knk]
  exact valV_pos rfl
theorem put_turn (c : Addr) (t u : Int) : putK (kvsS c t) kTurn (.int u) = kvsS c u := by
  unfold putK kvsS
  have h : ¬ (kCells = kTurn) := knk
  have hd : decide (kCells = kTurn) = false := decide_eq_false h
  have hd2 : decide (kTurn = kTurn) = true := decide_eq_true rfl
  rw [if_pos (show (List.any [(kCells, V.ref c), (kTurn, V.int t)] fun kv => decide (kv.1 = kTurn)) = true by simp [List.any_cons])]
  show [if kCells = kTurn then (kCells, V.int u) else (kCells, V.ref c), if kTurn = kTurn then (kTurn, V.int u) else (kTurn, V.int t)] = [(kCells, V.ref c), (kTurn, V.int u)]
  rw [if_neg h, if_pos rfl]
theorem StAt.ne {H : Hp} {p c : Addr} {n : Nat} (S : StAt H p c n) : p ≠ c := by
  obtain ⟨t, ns, h1, h2, _⟩ := S.ex
  exact ne_of h1 h2 (by intro z; cases z)
theorem StAt.mono {H : Hp} {p c : Addr} {n m : Nat} (S : StAt H p c n) (h : n ≤ m) : StAt H p c m := by
  obtain ⟨t, ns, h1, h2, h3, h4, h5, h6⟩ := S.ex
  exact ⟨t, ns, h1, h2, h3, h4, h5, by omega⟩
/-- new things leave the state -/
theorem StAt.keep {H H' : Hp} {p c : Addr} {n : Nat} (S : StAt H p c n) (h : ∀ b o, H b = some o → H' b = some o) : StAt H' p c n := by
  obtain ⟨t, ns, h1, h2, h3⟩ := S.ex
  exact ⟨t, ns, h _ _ h1, h _ _ h2, h3⟩
theorem StAt.new {H : Hp} {p c q : Addr} {o : HO} {n : Nat} (S : StAt H p c n) (h : H q = none) : StAt (upd H q o) p c n :=
  S.keep fun b u e => by rw [upd_ne (ne_of_none e h)]; exact e
theorem StAt.not {H : Hp} {p c q : Addr} {n : Nat} (S : StAt H p c n) (h : H q = none) : ¬ AtS p c q := by
  obtain ⟨t, ns, h1, h2, _⟩ := S.ex
  rintro (rfl | rfl)
  · rw [h1] at h; cases h
  · rw [h2] at h; cases h
theorem StAt.notT {H : Hp} {p c q : Addr} {n : Nat} {xs : List V} (S : StAt H p c n) (h : H q = some (.tup xs)) : ¬ AtS p c q := by
  obtain ⟨t, ns, h1, h2, _⟩ := S.ex
  rintro (rfl | rfl)
  · rw [h1] at h; cases h
  · rw [h2] at h; cases h
/-- begin(script) -/
def spBegin (K : PySem.W.Frag) : Sp := fun vs H Q _ => ∃ (a : Addr) (ns : List Int), vs = [.ref a] ∧ SqL K H a (ns.map V.int) ∧ ns.length ≤ 63 ∧
  ∀ p c H', H p = none → StAt H' p c 0 → (∀ b o, H b = some o → H' b = some o) → Q (.ref p) H'
/-- take(state, many) -/
def spTake : Sp := fun vs H Q _ => ∃ (p c : Addr) (n : Nat) (many : Int), vs = [.ref p, .int many] ∧ StAt H p c n ∧ n < 1000000000 ∧ 0 < many ∧ Fit 9000 many ∧
  ∀ r H', 0 ≤ r → r < many → StAt H' p c (n + 1) → SameX (AtS p c) H H' → Q (.int r) H'
theorem pw18 : (10 : Int) ^ (18 : Int).toNat = 1000000000000000000 := by decide +kernel
end Ro

set_option Elab.async false
set_option linter.all false
set_option maxRecDepth 100000
set_option maxHeartbeats 4000000
namespace Ro
open PySem L2
def spGcd : Sp := fun vs H Q _ => ∃ a b : Int, vs = [.int a, .int b] ∧ Q (.int ((Int.gcd a b : Nat) : Int)) H
theorem abs_eq (a : Int) : (if a < 0 then -a else a) = ((a.natAbs : Nat) : Int) := by split <;> omega
def spLow : Sp := fun vs H Q _ => ∃ a b : Int, vs = [.int a, .int b] ∧ b ≠ 0 ∧ Fit 9000 a ∧ Fit 9000 b ∧ ∀ p, H p = none → Q (.ref p) (upd H p (.tup [.int (fr a b).1, .int (fr a b).2]))
def spFrac : Sp := fun vs H Q _ => ∃ a b : Int, vs = [.int a, .int b] ∧ b ≠ 0 ∧ Fit 9000 b ∧ ∀ p, H p = none → Q (.ref p) (upd H p (.tup [.int (fr a b).1, .int (fr a b).2]))
theorem gsg_fit {a b : Int} (h : b ≠ 0) (k : Fit 9000 b) : Fit 9000 (gsg a b) := by
  unfold Fit
  rw [gsg_natAbs]
  refine Nat.lt_of_le_of_lt (Nat.le_of_dvd (by omega) ?_) k
  have : ((Int.gcd a b : Nat) : Int) ∣ b := Int.gcd_dvd_right ..
  have h2 := Int.natAbs_dvd_natAbs.mpr this
  simpa using h2
def spWhole (K : PySem.W.Frag) : Sp := fun vs H Q _ => ∃ (q : Addr) (a b : Int), vs = [.ref q] ∧ SqT K H q [.int a, .int b] ∧ 1 ≤ b ∧ Fit 9000 b ∧ Q (.int (a / b)) H
theorem cut63 {ns : List Int} (h : ns.length ≤ 63) : cutV (ns.map V.int) none (some 63) = ns.map V.int := by
  unfold cutV
  rw [List.length_map]
  have e : HT.sIx ns.length ns.length (some 63) = ns.length := by
    show (if (63 : Int) < 0 then ((63 : Int) + (ns.length : Int)).toNat else min (63 : Int).toNat ns.length) = _
    rw [if_neg (by decide)]
    show min 63 ns.length = ns.length
    omega
  rw [e, HT.sIx_none, List.drop_zero, Nat.sub_zero, List.take_of_length_le (by rw [List.length_map]; exact Nat.le_refl _)]
theorem gcd_fit {a b : Int} (h : b ≠ 0) (k : Fit 9000 b) : Fit 9000 ((Int.gcd a b : Nat) : Int) := by
  have := gsg_fit (a := a) h k
  unfold Fit at this ⊢
  rw [gsg_natAbs] at this
  rw [Int.natAbs_natCast]
  exact this
def spNum : Sp := fun vs H Q _ => ∃ (p c : Addr) (n : Nat), vs = [.ref p] ∧ StAt H p c n ∧ n < 900000000 ∧ ∀ r H', Fit 101 r → StAt H' p c (n + 4) → SameX (AtS p c) H H' → Q (.int r) H'
theorem pick6 {r : Int} (h0 : 0 ≤ r) (h1 : r < 6) : ∃ v : Int, atI [V.int 12, V.int 12, V.int 60, V.int 1000, V.int (10 ^ (9 : Int).toNat), V.int (10 ^ (30 : Int).toNat)] r = some (.int v) ∧ 0 < v ∧ Fit 100 v := by
  have hr : r = 0 ∨ r = 1 ∨ r = 2 ∨ r = 3 ∨ r = 4 ∨ r = 5 := by omega
  rcases hr with rfl | rfl | rfl | rfl | rfl | rfl
  · exact ⟨12, rfl, by decide, by unfold Fit; decide⟩
  · exact ⟨12, rfl, by decide, by unfold Fit; decide⟩
  · exact ⟨60, rfl, by decide, by unfold Fit; decide⟩
  · exact ⟨1000, rfl, by decide, by unfold Fit; decide⟩
  · exact ⟨10 ^ (9 : Int).toNat, rfl, by decide +kernel, by unfold Fit; decide +kernel⟩
  · exact ⟨10 ^ (30 : Int).toNat, rfl, by decide +kernel, by unfold Fit; decide +kernel⟩
theorem pick2 {r : Int} (h0 : 0 ≤ r) (h1 : r < 2) : ∃ v : Int, atI [V.int 1, V.int (-1)] r = some (.int v) ∧ Fit 1 v := by
  have hr : r = 0 ∨ r = 1 := by omega
  rcases hr with rfl | rfl
  · exact ⟨1, rfl, by unfold Fit; decide⟩
  · exact ⟨-1, rfl, by unfold Fit; decide⟩
abbrev NoA : Addr → Prop := fun _ => False
theorem all_rep_true (n : Nat) : (List.replicate n true).all id = true := by induction n with | zero => rfl | succ n ih => simp [List.replicate_succ]
theorem any_rep_false (n : Nat) : (List.replicate n false).any id = false := by induction n with | zero => rfl | succ n ih => simp [List.replicate_succ]
end Ro
namespace L2
open PySem PySem.Spec PyProof.Rows
theorem if_eq_set {i j : Nat} {b z : Int} {v : V} {D : Ends} {σ : St} {H : Hp} (P : St → Prop) (hσ : σ[i]? = some (some (.int b))) (h1 : b = z → P (σ.set j (some v))) (h2 : b ≠ z → P σ) (h : ∀ σ', P σ' → D.nx σ' H) :
    tIfS (tTest (tOp rEq (tVar i) (tC (.int z)))) (tAsg (tC v) (gName j)) tNext D σ H := by
  refine ⟨_, hσ, rfl, _, rfl, ?_⟩
  by_cases hb : b = z
  · rw [show decide (V.int b = V.int z) = true from decide_eq_true (by rw [hb])]
    exact iteT (h _ (h1 hb))
  · rw [show decide (V.int b = V.int z) = false from decide_eq_false (by intro e; injection e with e; exact hb e)]
    exact iteF (h _ (h2 hb))
end L2

set_option Elab.async false
set_option linter.all false
set_option maxRecDepth 100000
set_option maxHeartbeats 4000000
namespace Ro
open PySem L2
def spFr : Sp := fun vs H Q _ => ∃ (p c : Addr) (n : Nat), vs = [.ref p] ∧ StAt H p c n ∧ n < 800000000 ∧ ∀ q x y H', H' q = some (.tup [.int x, .int y]) → ¬ AtS p c q → 1 ≤ y → Int.gcd x y = 1 → Fit 101 x → Fit 41 y → StAt H' p c (n + 8) → SameX (AtS p c) H H' → Q (.ref q) H'
theorem pick4 {r a b d : Int} (h0 : 0 ≤ r) (h1 : r < 4) (ha : 1 ≤ a) (hb : 1 ≤ b) (hd : 1 ≤ d) (fa : Fit 41 a) (fb : Fit 41 b) (fd : Fit 41 d) : ∃ v : Int, atI [V.int 1, V.int a, V.int b, V.int d] r = some (.int v) ∧ 1 ≤ v ∧ Fit 41 v := by
  have hr : r = 0 ∨ r = 1 ∨ r = 2 ∨ r = 3 := by omega
  rcases hr with rfl | rfl | rfl | rfl
  · exact ⟨1, rfl, by decide, by unfold Fit; decide⟩
  · exact ⟨a, rfl, ha, fa⟩
  · exact ⟨b, rfl, hb, fb⟩
  · exact ⟨d, rfl, hd, fd⟩
/-- two fractions handed in -/
def spTwo (K : PySem.W.Frag) (res : Int → Int → Int → Int → Int × Int) (ok : Int → Int → Int → Int → Prop) : Sp := fun vs H Q _ => ∃ (p q : Addr) (a b c d : Int), vs = [.ref p, .ref q] ∧ SqT K H p [.int a, .int b] ∧ SqT K H q [.int c, .int d] ∧ ok a b c d ∧
  Fit 4000 a ∧ Fit 4000 b ∧ Fit 4000 c ∧ Fit 4000 d ∧ ∀ r, H r = none → Q (.ref r) (upd H r (.tup [.int (res a b c d).1, .int (res a b c d).2]))
theorem lt_flip {a b c d : Int} (hb : 1 ≤ b) (hd : 1 ≤ d) (g1 : Int.gcd a b = 1) (g2 : Int.gcd c d = 1) : decide (c * b < a * d) = (!eqDL [Dt.int a, Dt.int b] [Dt.int c, Dt.int d] && !decide (a * d < c * b)) := by
  by_cases h1 : a * d < c * b
  · rw [decide_eq_true h1, decide_eq_false (by omega)]; simp
  · rw [decide_eq_false h1]
    by_cases h2 : c * b < a * d
    · rw [decide_eq_true h2]
      have : eqDL [Dt.int a, Dt.int b] [Dt.int c, Dt.int d] = false := by
        simp only [eqDL, eqD, Bool.and_true]
        by_cases e1 : a = c
        · by_cases e2 : b = d
          · subst e1 e2; omega
          · simp [e2]
        · simp [e1]
      rw [this]; rfl
    · have e : a * d = c * b := by omega
      have u1 := fr_uniq (t := c) (b := d) (by omega) hb g1 e
      have u2 := fr_self hd g2
      rw [u1] at u2
      injection u2 with e1 e2
      subst e1 e2
      rw [eqDL_self, decide_eq_false h2]; rfl
end Ro

set_option Elab.async false
set_option linter.all false
set_option maxRecDepth 100000
set_option maxHeartbeats 4000000
namespace Ro
open PySem L2
abbrev Fs := List (Int × Int)
def den : Fs → Int
  | [] => 1
  | f :: r => f.2 * den r
def num : Fs → Int
  | [] => 0
  | f :: r => f.1 * den r + f.2 * num r
theorem den_app : ∀ a b : Fs, den (a ++ b) = den a * den b
  | [], b => by simp [den]
  | f :: r, b => by show f.2 * den (r ++ b) = f.2 * den r * den b; rw [den_app r b, Int.mul_assoc]
theorem num_app : ∀ a b : Fs, num (a ++ b) = num a * den b + den a * num b
  | [], b => by simp [den, num]
  | f :: r, b => by
    show f.1 * den (r ++ b) + f.2 * num (r ++ b) = (f.1 * den r + f.2 * num r) * den b + f.2 * den r * num b
    rw [den_app, num_app r b, Int.mul_add, Int.add_mul, Int.mul_assoc, Int.mul_assoc, Int.mul_assoc, Int.add_assoc]
theorem den_one (f : Int × Int) : den [f] = f.2 := by simp [den]
theorem num_one (f : Int × Int) : num [f] = f.1 := by simp [den, num]
theorem den_rev : ∀ a : Fs, den a.reverse = den a
  | [] => rfl
  | f :: r => by rw [List.reverse_cons, den_app, den_rev r, den_one, Int.mul_comm]; rfl
theorem num_rev : ∀ a : Fs, num a.reverse = num a
  | [] => rfl
  | f :: r => by
    rw [List.reverse_cons, num_app, num_rev r, den_rev r, den_one, num_one]
    show num r * f.2 + den r * f.1 = f.1 * den r + f.2 * num r
    rw [Int.mul_comm (num r), Int.mul_comm (den r), Int.add_comm]
/-- every below is 1 or more -/
def Pos1 (fs : Fs) : Prop := ∀ f ∈ fs, 1 ≤ f.2
theorem den_pos : ∀ {fs : Fs}, Pos1 fs → 1 ≤ den fs
  | [], _ => by decide
  | f :: r, h => by
    have h1 : 1 ≤ f.2 := h f List.mem_cons_self
    have h2 := den_pos (fs := r) fun g hg => h g (List.mem_cons_of_mem _ hg)
    show 1 ≤ f.2 * den r
    have := Int.mul_pos (show 0 < f.2 by omega) (show 0 < den r by omega)
    omega
/-- the law's own sum, over one below -/
theorem sum_over : ∀ (fs : Fs) (k : Int), Pos1 fs → (fs.map fun f => f.1 * (k * den fs / f.2)).sum = k * num fs
  | [], k, _ => by simp [num]
  | f :: r, k, h => by
    have h1 : 1 ≤ f.2 := h f List.mem_cons_self
    have hr : Pos1 r := fun g hg => h g (List.mem_cons_of_mem _ hg)
    have ih := sum_over r (k * f.2) hr
    rw [List.map_cons, List.sum_cons]
    have e1 : k * den (f :: r) = (k * f.2) * den r := by show k * (f.2 * den r) = _; rw [Int.mul_assoc]
    rw [e1, ih]
    have e2 : k * f.2 * den r / f.2 = k * den r := by
      rw [Int.mul_right_comm]
      exact Int.mul_ediv_cancel _ (by omega)
    rw [e2]
    show f.1 * (k * den r) + k * f.2 * num r = k * (f.1 * den r + f.2 * num r)
    rw [Int.mul_add, Int.mul_left_comm f.1 k, Int.mul_assoc]
/-- one more summand -/
theorem fr_step {n d x y : Int} (hd : 1 ≤ d) (hy : 1 ≤ y) : fr ((fr n d).1 * y + x * (fr n d).2) ((fr n d).2 * y) = fr (n * y + d * x) (d * y) := by
  have hd0 : d ≠ 0 := by omega
  have p1 := fr_pos n d hd0
  have c1 := fr_cross n d hd0
  generalize (fr n d).1 = t at *
  generalize (fr n d).2 = b at *
  have hby : b * y ≠ 0 := Int.mul_ne_zero (by omega) (by omega)
  have hdy : d * y ≠ 0 := Int.mul_ne_zero hd0 (by omega)
  symm
  refine fr_uniq (x := (fr (t * y + x * b) (b * y)).1) (y := (fr (t * y + x * b) (b * y)).2) hdy (fr_pos _ _ hby) (fr_gcd _ _ hby) ?_
  have c2 := fr_cross (t * y + x * b) (b * y) hby
  generalize (fr (t * y + x * b) (b * y)).1 = u at *
  generalize (fr (t * y + x * b) (b * y)).2 = v at *
  refine Int.eq_of_mul_eq_mul_left (show b ≠ 0 by omega) ?_
  have e1 : b * (u * (d * y)) = d * (u * (b * y)) := by
    rw [Int.mul_left_comm b u, Int.mul_left_comm d u, Int.mul_left_comm b d]
  have e2 : d * ((t * y + x * b) * v) = b * ((n * y + d * x) * v) := by
    rw [← Int.mul_assoc, ← Int.mul_assoc, Int.mul_add, Int.mul_add]
    have g1 : d * (t * y) = b * (n * y) := by rw [← Int.mul_assoc, ← Int.mul_assoc, Int.mul_comm d t, c1, Int.mul_comm n b]
    have g2 : d * (x * b) = b * (d * x) := by rw [Int.mul_left_comm b d, Int.mul_comm x b]
    rw [g1, g2]
  rw [e1, c2, e2]
theorem fr_zero {b : Int} (hb : b ≠ 0) : fr 0 b = (0, 1) := fr_uniq hb (by decide) (by decide) (by simp)
/-- fits: n bits a below, m bits a top -/
def FitF (m n : Nat) (fs : Fs) : Prop := ∀ f ∈ fs, Fit m f.1 ∧ Fit n f.2
theorem den_fit {m n : Nat} : ∀ {fs : Fs}, FitF m n fs → Fit (n * fs.length + 1) (den fs)
  | [], _ => by unfold Fit; show 1 < 2 ^ (n * 0 + 1); simp
  | f :: r, h => by
    have h1 := (h f List.mem_cons_self).2
    have h2 := den_fit (fs := r) fun g hg => h g (List.mem_cons_of_mem _ hg)
    have := h1.mul h2
    refine this.mono ?_
    rw [List.length_cons, Nat.mul_add]
    omega
theorem num_fit {m n : Nat} : ∀ {fs : Fs}, FitF m n fs → Fit (m + (n + 1) * fs.length + 1) (num fs)
  | [], _ => by unfold Fit; show 0 < 2 ^ _; exact Nat.pow_pos (by decide)
  | f :: r, h => by
    have hf := h f List.mem_cons_self
    have hr : FitF m n r := fun g hg => h g (List.mem_cons_of_mem _ hg)
    have h1 := hf.1.mul (den_fit hr)
    have h2 := hf.2.mul (num_fit hr)
    have e : m + (n + 1) * (r.length + 1) = m + (n + 1) * r.length + n + 1 := by rw [Nat.mul_add]; omega
    have e3 : n * r.length ≤ (n + 1) * r.length := Nat.mul_le_mul_right _ (by omega)
    refine ((h1.mono ?_).add (h2.mono ?_)).mono (n := m + (n + 1) * r.length + n + 1 + 1) ?_
    · omega
    · omega
    · rw [List.length_cons]; omega
def D2 (f : Int × Int) : Dt := .tup [.int f.1, .int f.2]
theorem depL_D2 : ∀ fs : Fs, depL (fs.map D2) ≤ 1
  | [] => by simp [depL]
  | f :: r => by
    have := depL_D2 r
    show max (Dt.dep (D2 f)) (depL (r.map D2)) ≤ 1
    have : Dt.dep (D2 f) = 1 := by show max 0 (max 0 0) + 1 = 1; decide
    omega
/-- a fraction at r that is new -/
def NewF (H H' : Hp) (r : Addr) (f : Int × Int) : Prop := H r = none ∧ H' r = some (.tup [.int f.1, .int f.2]) ∧ ∀ b o, H b = some o → H' b = some o
end Ro

set_option Elab.async false
set_option linter.all false
set_option maxRecDepth 100000
set_option maxHeartbeats 4000000
namespace Ro
open PySem L2
theorem fdiv_fit {n : Nat} {a g : Int} (hd : g ∣ a) (hg : g ≠ 0) (h : Fit n a) : Fit n (a.fdiv g) := by
  have e := congrArg Int.natAbs (fdiv_of_dvd hd)
  rw [Int.natAbs_mul] at e
  refine h.le ?_
  rw [← e]
  exact Nat.le_mul_of_pos_right _ (Int.natAbs_pos.mpr hg)
abbrev ig (a b : Int) : Int := ((Int.gcd a b : Nat) : Int)
theorem ig_l (a b : Int) : ig a b ∣ a := Int.gcd_dvd_left ..
theorem ig_r (a b : Int) : ig a b ∣ b := Int.gcd_dvd_right ..
theorem co_iff {a b : Int} : Int.gcd a b = 1 ↔ Nat.Coprime a.natAbs b.natAbs := Iff.rfl
theorem co_mul_l {a b c : Int} (h1 : Int.gcd a c = 1) (h2 : Int.gcd b c = 1) : Int.gcd (a * b) c = 1 := by
  rw [co_iff] at *
  rw [Int.natAbs_mul]
  exact Nat.Coprime.mul_left h1 h2
theorem co_mul_r {a b c : Int} (h1 : Int.gcd a b = 1) (h2 : Int.gcd a c = 1) : Int.gcd a (b * c) = 1 := by
  rw [co_iff] at *
  rw [Int.natAbs_mul]
  exact Nat.Coprime.mul_right h1 h2
theorem co_dvd {a b x y : Int} (h : Int.gcd a b = 1) (h1 : x ∣ a) (h2 : y ∣ b) : Int.gcd x y = 1 := by
  rw [co_iff] at *
  have q : Nat.gcd x.natAbs y.natAbs ∣ Nat.gcd a.natAbs b.natAbs := Nat.dvd_gcd (Nat.dvd_trans (Nat.gcd_dvd_left ..) (Int.natAbs_dvd_natAbs.mpr h1)) (Nat.dvd_trans (Nat.gcd_dvd_right ..) (Int.natAbs_dvd_natAbs.mpr h2))
  rw [show Nat.gcd a.natAbs b.natAbs = 1 from h] at q
  exact Nat.dvd_one.mp q
theorem co_div {a b : Int} (hb : b ≠ 0) : Int.gcd (a.fdiv (ig a b)) (b.fdiv (ig a b)) = 1 := by
  have p := gcd_pos (t := a) hb
  have e1 := fdiv_of_dvd (ig_l a b)
  have e2 := fdiv_of_dvd (ig_r a b)
  have q : Int.gcd (a.fdiv (ig a b) * ig a b) (b.fdiv (ig a b) * ig a b) = Int.gcd a b := by rw [e1, e2]
  rw [Int.gcd_mul_right] at q
  have n : (ig a b).natAbs = Int.gcd a b := Int.natAbs_natCast _
  rw [n] at q
  exact Nat.eq_of_mul_eq_mul_right p (by rw [q, Nat.one_mul])
theorem fdiv_pos {a g : Int} (h : g ∣ a) (ha : 1 ≤ a) (hg : 1 ≤ g) : 1 ≤ a.fdiv g := by
  have e := fdiv_of_dvd h
  refine Int.not_lt.mp fun z => ?_
  have : a.fdiv g * g ≤ 0 := Int.mul_nonpos_of_nonpos_of_nonneg (by omega) (by omega)
  omega
theorem prod_fr {a b c d : Int} (hb : 1 ≤ b) (hd : 1 ≤ d) (h1 : Int.gcd a b = 1) (h2 : Int.gcd c d = 1) :
    fr (a * c) (b * d) = (a.fdiv (ig a d) * c.fdiv (ig c b), b.fdiv (ig c b) * d.fdiv (ig a d)) := by
  have hb0 : b ≠ 0 := by omega
  have hd0 : d ≠ 0 := by omega
  have p1 : 1 ≤ ig a d := by have := gcd_pos (t := a) hd0; show (1 : Int) ≤ ((Int.gcd a d : Nat) : Int); omega
  have p2 : 1 ≤ ig c b := by have := gcd_pos (t := c) hb0; show (1 : Int) ≤ ((Int.gcd c b : Nat) : Int); omega
  have ea := fdiv_of_dvd (ig_l a d)
  have ed := fdiv_of_dvd (ig_r a d)
  have ec := fdiv_of_dvd (ig_l c b)
  have eb := fdiv_of_dvd (ig_r c b)
  have c1 := co_div (a := a) hd0
  have c2 := co_div (a := c) hb0
  have d1 := fdiv_pos (ig_r a d) hd p1
  have d2 := fdiv_pos (ig_r c b) hb p2
  have da : a.fdiv (ig a d) ∣ a := ⟨_, ea.symm⟩
  have db : b.fdiv (ig c b) ∣ b := ⟨_, eb.symm⟩
  have dc : c.fdiv (ig c b) ∣ c := ⟨_, ec.symm⟩
  have dd : d.fdiv (ig a d) ∣ d := ⟨_, ed.symm⟩
  refine fr_uniq (Int.mul_ne_zero hb0 hd0) ?_ ?_ ?_
  · have := Int.mul_pos (show 0 < b.fdiv (ig c b) by omega) (show 0 < d.fdiv (ig a d) by omega)
    omega
  · exact co_mul_l (co_mul_r (co_dvd h1 da db) c1) (co_mul_r c2 (co_dvd h2 dc dd))
  · generalize a.fdiv (ig a d) = a' at *
    generalize d.fdiv (ig a d) = d' at *
    generalize c.fdiv (ig c b) = c' at *
    generalize b.fdiv (ig c b) = b' at *
    generalize ig a d = g at *
    generalize ig c b = k at *
    rw [← ea, ← ed, ← ec, ← eb]
    simp only [Int.mul_assoc, Int.mul_comm, Int.mul_left_comm]
theorem plus_fr {t b u d : Int} (hb : 1 ≤ b) (hd : 1 ≤ d) (h1 : Int.gcd t b = 1) (h2 : Int.gcd u d = 1) :
    fr (t * d + u * b) (b * d) = ((t * d.fdiv (ig b d) + u * b.fdiv (ig b d)).fdiv (ig (t * d.fdiv (ig b d) + u * b.fdiv (ig b d)) (ig b d)), b.fdiv (ig b d) * d.fdiv (ig (t * d.fdiv (ig b d) + u * b.fdiv (ig b d)) (ig b d))) := by
  have hb0 : b ≠ 0 := by omega
  have hd0 : d ≠ 0 := by omega
  have ps : 1 ≤ ig b d := by have := gcd_pos (t := b) hd0; show (1 : Int) ≤ ((Int.gcd b d : Nat) : Int); omega
  have eb := fdiv_of_dvd (ig_l b d)
  have ed := fdiv_of_dvd (ig_r b d)
  have cbd := co_div (a := b) hd0
  have db : b.fdiv (ig b d) ∣ b := ⟨_, eb.symm⟩
  have dd : d.fdiv (ig b d) ∣ d := ⟨_, ed.symm⟩
  have pb := fdiv_pos (ig_l b d) hb ps
  have pd := fdiv_pos (ig_r b d) hd ps
  have ctb := co_dvd h1 (Int.dvd_refl t) db
  have cud := co_dvd h2 (Int.dvd_refl u) dd
  generalize b.fdiv (ig b d) = b' at *
  generalize hd' : d.fdiv (ig b d) = d' at *
  generalize ig b d = s at *
  generalize hT : t * d' + u * b' = T at *
  have s0 : s ≠ 0 := by omega
  have pg : 1 ≤ ig T s := by have := gcd_pos (t := T) s0; show (1 : Int) ≤ ((Int.gcd T s : Nat) : Int); omega
  have eT := fdiv_of_dvd (ig_l T s)
  have es := fdiv_of_dvd (ig_r T s)
  have cTs := co_div (a := T) s0
  have psg := fdiv_pos (ig_r T s) ps pg
  have dT : T.fdiv (ig T s) ∣ T := ⟨_, eT.symm⟩
  have dg : d.fdiv (ig T s) = d' * s.fdiv (ig T s) := by
    have e : d = d' * s.fdiv (ig T s) * ig T s := by rw [Int.mul_assoc, es, ed]
    have g0 : ig T s ≠ 0 := by omega
    have e2 : d.fdiv (ig T s) * ig T s = d' * s.fdiv (ig T s) * ig T s := by
      rw [fdiv_of_dvd (⟨_, by rw [Int.mul_comm]; exact e⟩ : ig T s ∣ d)]
      exact e
    exact Int.eq_of_mul_eq_mul_right g0 e2
  have coT1 : Int.gcd T b' = 1 := by
    have q : Int.gcd (t * d') b' = 1 := co_mul_l ctb (by rw [Int.gcd_comm]; exact cbd)
    rw [← hT]
    rw [← q]
    exact Int.gcd_add_mul_right_left ..
  have coT2 : Int.gcd T d' = 1 := by
    have q : Int.gcd (u * b') d' = 1 := co_mul_l cud cbd
    rw [← hT, Int.add_comm, ← q]
    exact Int.gcd_add_mul_right_left ..
  rw [dg]
  refine fr_uniq (Int.mul_ne_zero hb0 hd0) ?_ ?_ ?_
  · have := Int.mul_pos (show 0 < d' by omega) (show 0 < s.fdiv (ig T s) by omega)
    have := Int.mul_pos (show 0 < b' by omega) this
    omega
  · exact co_mul_r (co_dvd coT1 dT (Int.dvd_refl _)) (co_mul_r (co_dvd coT2 dT (Int.dvd_refl _)) cTs)
  · generalize s.fdiv (ig T s) = k at *
    generalize T.fdiv (ig T s) = T' at *
    generalize ig T s = g at *
    have eN : t * d + u * b = T' * g * s := by
      rw [eT, ← hT, ← ed, ← eb, Int.add_mul, ← Int.mul_assoc, ← Int.mul_assoc]
    rw [eN, ← ed, ← eb, ← es]
    simp only [Int.mul_assoc, Int.mul_comm, Int.mul_left_comm]
end Ro

set_option Elab.async false
set_option linter.all false
set_option maxRecDepth 100000
set_option maxHeartbeats 4000000
namespace Ro
open PySem L2
theorem boot_sum : bootBuiltins "sum" = some (.builtin "sum") := by decide +kernel
theorem rep_D2 {K : PySem.W.Frag} {N : Addr → Prop} {H : Hp} {f : Int × Int} {v : V} (h : Rep K N H (D2 f) v) : ∃ q, v = .ref q ∧ ¬ N q ∧ SqT K H q [.int f.1, .int f.2] := by
  unfold D2 Rep at h
  obtain ⟨a, xs, rfl, n, hq, hr⟩ := h
  unfold RepL at hr
  obtain ⟨x, ys, rfl, h1, h2⟩ := hr
  unfold RepL at h2
  obtain ⟨y, zs, rfl, h3, h4⟩ := h2
  unfold RepL at h4
  unfold Rep at h1 h3
  subst h1 h3 h4
  exact ⟨a, rfl, n, hq⟩
theorem rep_of_D2 {K : PySem.W.Frag} {N : Addr → Prop} {H : Hp} {f : Int × Int} {q : Addr} (n : ¬ N q) (h : SqT K H q [.int f.1, .int f.2]) : Rep K N H (D2 f) (.ref q) := by
  unfold D2 Rep
  exact ⟨q, _, rfl, n, h, RepL.ints (ns := [f.1, f.2])⟩
def spSum (K : PySem.W.Frag) : Sp := fun vs H Q _ => ∃ (N : Addr → Prop) (fs : Fs) (v : V), vs = [v] ∧ Rep K N H (.lst (fs.map D2)) v ∧ Pos1 fs ∧ FitF 250 250 fs ∧ fs.length ≤ 13 ∧ ∀ r H', NewF H H' r (fr (num fs) (den fs)) → Q (.ref r) H'
end Ro

set_option Elab.async false
set_option linter.all false
set_option maxRecDepth 100000
set_option maxHeartbeats 4000000
namespace Ro
open PySem L2
theorem boot_range : bootBuiltins "range" = some (.type "range") := by decide +kernel
theorem boot_min : bootBuiltins "min" = some (.builtin "min") := by decide +kernel
/-- the law's own names -/
def names24 : List Str := ["b", "aa", "zebra", "c", "quartzes", "ab", "m", "knows", "d", "mm", "likes", "z", "ba", "abcdefgh", "y", "zz", "e", "x", "f", "g", "hh", "jj", "kk", "pave"]
def text24 : Str := "b aa zebra c quartzes ab m knows d mm likes z ba abcdefgh y zz e x f g hh jj kk pave"
open PySem.Builtin.Str in
theorem split24 : partsBetween text24 (occurrences text24 " " 0 text24.length (text24.length + 1)) (Str.length " ") = names24 := by decide +kernel
open PySem.Builtin.Str in
theorem split24a : (decide (text24.length < Str.length " ") || decide (strKind text24 < strKind " ")) = false := by decide +kernel
open PySem.Builtin.Str in
theorem split24b : (occurrences text24 " " 0 text24.length (text24.length + 1)).isEmpty = false := by decide +kernel
theorem len24 : text24.length = 84 := by decide +kernel
def spNames : Sp := fun vs H Q _ => ∃ (p c : Addr) (n : Nat) (m : Nat), vs = [.ref p, .int (m : Int)] ∧ StAt H p c n ∧ n < 900000000 ∧ m ≤ 20 ∧ ∀ (l : Addr) (nms : List Str) (H' : Hp), H l = none → H' l = some (.lst (nms.map V.str)) → nms.length = m → (∀ x ∈ nms, x ∈ names24) → StAt H' p c (n + m) → SameX (AtS p c) H H' → Q (.ref l) H'
theorem map_erase {α β : Type} (f : α → β) : ∀ (l : List α) (k : Nat), (l.map f).eraseIdx k = (l.eraseIdx k).map f
  | [], _ => by simp
  | a :: r, 0 => by simp
  | a :: r, k + 1 => by simp [map_erase f r k]
/-- what is new in Hk was not in H -/
theorem fresh {H Hk : Hp} {p c a : Addr} {m : Nat} (x : SameX (AtS p c) H Hk) (S : StAt Hk p c m) (h : Hk a = none) : ¬ (AtS p c a ∨ H a ≠ none) := by
  rintro (z | z)
  · exact S.not h z
  · cases e : H a with
    | none => exact z e
    | some o => rw [x a o e (S.not h)] at h; cases h
theorem fresh1 {H Hk : Hp} {p c a : Addr} {m : Nat} (x : SameX (AtS p c) H Hk) (S : StAt Hk p c m) (h : Hk a = none) : H a = none := by
  cases e : H a with
  | none => rfl
  | some o => exact absurd (.inr (by rw [e]; intro z; cases z)) (fresh x S h)
/-- a part: above 0, at most 1, its below at most 60 -/
structure PartOk (f : Int × Int) : Prop where
  lo : 1 ≤ f.1
  hi : f.1 ≤ f.2
  be : f.2 ≤ 60
  co : Int.gcd f.1 f.2 = 1
theorem fr_part {t b : Int} (h1 : 1 ≤ t) (h2 : t ≤ b) (h3 : b ≤ 60) : PartOk (fr t b) := by
  have hb : b ≠ 0 := by omega
  have p := fr_pos t b hb
  have c := fr_cross t b hb
  have f2 : (fr t b).2.natAbs ≤ b.natAbs := by
    have e := congrArg Int.natAbs (fr_r t b)
    rw [Int.natAbs_mul, gsg_natAbs] at e
    rw [← e]
    exact Nat.le_mul_of_pos_right _ (gcd_pos (t := t) hb)
  refine ⟨?_, ?_, by omega, fr_gcd t b hb⟩
  · refine Int.not_lt.mp fun h => ?_
    have g1 : (fr t b).1 * b ≤ 0 := Int.mul_nonpos_of_nonpos_of_nonneg (by omega) (by omega)
    have g2 : 0 < t * (fr t b).2 := Int.mul_pos (by omega) (by omega)
    omega
  · refine Int.not_lt.mp fun h => ?_
    have g1 : (fr t b).2 * b < (fr t b).1 * b := Int.mul_lt_mul_of_pos_right h (by omega)
    have g2 : t * (fr t b).2 ≤ b * (fr t b).2 := Int.mul_le_mul_of_nonneg_right h2 (by omega)
    rw [Int.mul_comm b] at g2
    omega
def spPart : Sp := fun vs H Q _ => ∃ (p c : Addr) (n : Nat), vs = [.ref p] ∧ StAt H p c n ∧ n < 900000000 ∧ ∀ q f H', H q = none → H' q = some (.tup [.int f.1, .int f.2]) → ¬ AtS p c q → PartOk f → StAt H' p c (n + 3) → SameX (AtS p c) H H' → Q (.ref q) H'
/-- a work's row -/
inductive Rw where
  | of (n : Str) (p : Int × Int)
  | left (n : Str) (p : Int × Int)
  | len (n : Str) (k : Int)
  | steps (n : Str) (rs : List (Int × (Int × Int))) (last : Int × Int)
def rateD (r : Int × (Int × Int)) : Dt := .tup [.int r.1, D2 r.2]
def Rw.toD : Rw → Dt
  | .of n p => .tup [.str "of", .str n, D2 p]
  | .left n p => .tup [.str "left", .str n, D2 p]
  | .len n k => .tup [.str "length", .str n, .int k]
  | .steps n rs last => .tup [.str "steps", .str n, .tup (rs.map rateD ++ [.tup [.non, D2 last]])]
def Rw.isLeft : Rw → Bool
  | .left _ _ => true
  | _ => false
/-- in sixtieths: what the row takes at most of a coin -/
def le60 (f : Int × Int) (m : Int) : Prop := f.1 * 60 ≤ m * f.2
structure Rising (lo : Int) (rs : List (Int × (Int × Int))) : Prop where
  ex : rs.Pairwise (fun a b => a.1 < b.1) ∧ ∀ r ∈ rs, lo < r.1 ∧ r.1 ≤ 1000000
def Rw.ok : Rw → Prop
  | .of n p => n ∈ names24 ∧ PartOk p
  | .left n p => n ∈ names24 ∧ PartOk p
  | .len n k => n ∈ names24 ∧ 1 ≤ k ∧ k ≤ 1000
  | .steps n rs last => n ∈ names24 ∧ 1 ≤ rs.length ∧ rs.length ≤ 3 ∧ (∀ r ∈ rs, PartOk r.2) ∧ PartOk last ∧ Rising 0 rs
/-- it takes at most m sixtieths -/
def Rw.takes (m : Int) : Rw → Prop
  | .of _ p => le60 p m
  | .steps _ rs last => (∀ r ∈ rs, le60 r.2 m) ∧ le60 last m
  | _ => True
end Ro

set_option Elab.async false
set_option linter.all false
set_option maxRecDepth 100000
set_option maxHeartbeats 4000000
namespace Ro
open PySem L2
section
variable {K : PySem.W.Frag} {N : Addr → Prop} {H : Hp}
theorem rep_tup3 {q : Addr} {a b : Str} {v : V} {d : Dt} (h : H q = some (.tup [.str a, .str b, v])) (n : ¬ N q) (r : Rep K N H d v) : Rep K N H (.tup [.str a, .str b, d]) (.ref q) := by
  unfold Rep
  refine ⟨q, _, rfl, n, SqT.of h, ?_⟩
  unfold RepL
  refine ⟨_, _, rfl, by unfold Rep; rfl, ?_⟩
  unfold RepL
  refine ⟨_, _, rfl, by unfold Rep; rfl, ?_⟩
  unfold RepL
  exact ⟨_, _, rfl, r, by unfold RepL; rfl⟩
theorem rep_pair {q : Addr} {v1 v2 : V} {d1 d2 : Dt} (h : H q = some (.tup [v1, v2])) (n : ¬ N q) (r1 : Rep K N H d1 v1) (r2 : Rep K N H d2 v2) : Rep K N H (.tup [d1, d2]) (.ref q) := by
  unfold Rep
  refine ⟨q, _, rfl, n, SqT.of h, ?_⟩
  unfold RepL
  refine ⟨_, _, rfl, r1, ?_⟩
  unfold RepL
  exact ⟨_, _, rfl, r2, by unfold RepL; rfl⟩
theorem rep_int {i : Int} : Rep K N H (.int i) (.int i) := by unfold Rep; rfl
theorem rep_non : Rep K N H .non .non := by unfold Rep; rfl
theorem rep_str {x : Str} : Rep K N H (.str x) (.str x) := by unfold Rep; rfl
end
theorem le60_fr {t m : Int} (h : t ≤ m) : le60 (fr t 60) m := by
  unfold le60
  rw [fr_cross t 60 (by decide)]
  exact Int.mul_le_mul_of_nonneg_right h (by have := fr_pos t 60 (by decide); omega)
/-- a row maker's promise -/
def spRow (K : PySem.W.Frag) : Sp := fun vs H Q _ => ∃ (p c : Addr) (n : Nat) (nm : Str) (rm : Int), vs = [.ref p, .str nm, .int rm] ∧ StAt H p c n ∧ n < 800000000 ∧ nm ∈ names24 ∧ 0 ≤ rm ∧ rm ≤ 60 ∧
  ∀ t q rw m H', H' t = some (.tup [.ref q, .int m]) → ¬ AtS p c t → Rep K (fun b => AtS p c b ∨ H b ≠ none) H' (Rw.toD rw) (.ref q) → rw.ok → rw.takes m → 0 ≤ m → m ≤ rm → StAt H' p c (n + 20) → SameX (AtS p c) H H' → Q (.ref t) H'
end Ro

set_option Elab.async false
set_option linter.all false
set_option maxRecDepth 100000
set_option maxHeartbeats 4000000
namespace Ro
open PySem L2
section
variable {K : PySem.W.Frag} {N : Addr → Prop} {H : Hp}
theorem rep_tup3_inv {a b : Str} {v : V} {d : Dt} (h : Rep K N H (.tup [.str a, .str b, d]) v) : ∃ q x, v = .ref q ∧ ¬ N q ∧ SqT K H q [.str a, .str b, x] ∧ Rep K N H d x := by
  unfold Rep at h
  obtain ⟨q, xs, rfl, nq, hq, rl⟩ := h
  unfold RepL at rl
  obtain ⟨x1, ys, rfl, h1, rl⟩ := rl
  unfold RepL at rl
  obtain ⟨x2, ys, rfl, h2, rl⟩ := rl
  unfold RepL at rl
  obtain ⟨x3, ys, rfl, h3, rl⟩ := rl
  unfold RepL at rl
  subst rl
  unfold Rep at h1 h2
  subst h1 h2
  exact ⟨q, x3, rfl, nq, hq, h3⟩
def Rw.kind : Rw → Str
  | .of _ _ => "of"
  | .left _ _ => "left"
  | .len _ _ => "length"
  | .steps _ _ _ => "steps"
theorem rep_row {rw : Rw} {v : V} (h : Rep K N H rw.toD v) : ∃ q nm x, v = .ref q ∧ ¬ N q ∧ SqT K H q [.str rw.kind, .str nm, x] := by
  cases rw with
  | of n p => obtain ⟨q, x, e, nq, s, _⟩ := rep_tup3_inv h; exact ⟨q, n, x, e, nq, s⟩
  | left n p => obtain ⟨q, x, e, nq, s, _⟩ := rep_tup3_inv h; exact ⟨q, n, x, e, nq, s⟩
  | len n p => obtain ⟨q, x, e, nq, s, _⟩ := rep_tup3_inv (d := .int p) h; exact ⟨q, n, x, e, nq, s⟩
  | steps n p l => obtain ⟨q, x, e, nq, s, _⟩ := rep_tup3_inv h; exact ⟨q, n, x, e, nq, s⟩
end
theorem kind_left (rw : Rw) : decide (rw.kind = "left") = rw.isLeft := by
  cases rw with
  | of n p => exact decide_eq_false (by show ¬ (("of" : Str) = "left"); decide +kernel)
  | left n p => exact decide_eq_true rfl
  | len n p => exact decide_eq_false (by show ¬ (("length" : Str) = "left"); decide +kernel)
  | steps n p l => exact decide_eq_false (by show ¬ (("steps" : Str) = "left"); decide +kernel)
abbrev Rms := List (Rw × Int)
structure RowsOk (rms : Rms) : Prop where
  each : ∀ x ∈ rms, x.1.ok ∧ x.1.takes x.2 ∧ 0 ≤ x.2
  room : (rms.map (·.2)).sum ≤ 60
  left : (rms.filter (·.1.isLeft)).length ≤ 3
theorem count_left : ∀ rms : Rms, (rms.map fun x => V.str x.1.kind).countP (fun z => eqV z (.str "left")) = (rms.filter (·.1.isLeft)).length
  | [] => rfl
  | x :: r => by
    rw [List.map_cons, List.countP_cons, count_left r]
    have e : eqV (.str x.1.kind) (.str "left") = x.1.isLeft := by
      rw [← kind_left]
      show (x.1.kind == "left") = _
      exact Bool.beq_eq_decide_eq _ _
    rw [e]
    cases q : x.1.isLeft with
    | true => rw [List.filter_cons_of_pos (by exact q)]; simp
    | false => rw [List.filter_cons_of_neg (by rw [q]; decide)]; simp
def rowsD (rms : Rms) : List Dt := rms.map fun x => x.1.toD
def spRows (K : PySem.W.Frag) : Sp := fun vs H Q _ => ∃ (p c l : Addr) (n : Nat) (nms : List Str) (m : Nat), vs = [.ref p, .ref l, .int (m : Int)] ∧ StAt H p c n ∧ n < 700000000 ∧ H l = some (.lst (nms.map V.str)) ∧ ¬ AtS p c l ∧ 1 ≤ nms.length ∧ nms.length ≤ 100 ∧ (∀ x ∈ nms, x ∈ names24) ∧ m ≤ 8 ∧
  ∀ t rms H', Rep K (fun b => AtS p c b ∨ H b ≠ none) H' (.tup (rowsD rms)) (.ref t) → RowsOk rms → rms.length ≤ m → StAt H' p c (n + 200) → SameX (AtS p c) H H' → Q (.ref t) H'
end Ro

set_option Elab.async false
set_option linter.all false
set_option maxRecDepth 100000
set_option maxHeartbeats 4000000
namespace Ro
open PySem L2
def top (i : Nat) : Stmt := PySem.Challenge.pw_royaltree_k07_rows_that_part_too_much.main.body.getD i (.Pass ⟨0, 0, 0, 0⟩)
abbrev sGcd : Stmt := top 3
abbrev sPlus : Stmt := top 4
abbrev sSum : Stmt := top 5
abbrev sLess : Stmt := top 6
abbrev sMuch : Stmt := top 9
abbrev sGreat : Stmt := top 10
abbrev sBegin : Stmt := top 12
abbrev sTake : Stmt := top 13
abbrev sLow : Stmt := top 14
abbrev sLSum : Stmt := top 15
abbrev sNames : Stmt := top 17
abbrev sPart : Stmt := top 18
abbrev sRow : Stmt := top 19
abbrev sRows : Stmt := top 20
abbrev sSome : Stmt := top 21
abbrev sCut : Stmt := top 22
abbrev sStepped : Stmt := top 23
abbrev sTight : Stmt := top 24
abbrev sDue : Stmt := top 25
abbrev sLaw : Stmt := top 26
section
variable {P : Program} {w : World} {K : PySem.W.Frag} {mg : Str → Option Value} {base : Heap}
theorem scGcd : FnScope ["one", "other"] ["one", "other"] (defScope sGcd) := ⟨rfl, rfl, rfl, by decide +kernel, rfl, by decide +kernel, by decide +kernel⟩
theorem ok_gcd {f : Addr} {fd : FuncData} (F : Fun K "greatest_divisor" "greatest_divisor" sGcd f fd) (hab : mg "abs" = none) : FnOk P w K mg base CX0 1 f fd ["one", "other"] spGcd := by
  refine F.ok scGcd (fun vs H Q E h => ?_) (fun cdv A outer s H vs Q E hr h => ?_)
  · obtain ⟨a, b, rfl, _⟩ := h
    rfl
  · obtain ⟨a, b, rfl, k⟩ := h
    refine ⟨_, pss_cons (ps_par (i := 0) (j := 1) rfl scGcd.nd rfl rfl (by decide) rfl rfl (pa_cons (pe_callB call_abs (by rfl) hab boot_abs (pa_cons (pv 0) pa_nil)) (pa_cons (pe_callB call_abs (by rfl) hab boot_abs (pa_cons (pv 1) pa_nil)) pa_nil)) rfl)
      (pss_cons (ps_while PassesOwn.never (pt_cmpR op_ne (pv 1) pe_int (nomark _)) (pss_one (ps_par (i := 0) (j := 1) rfl scGcd.nd rfl rfl (by decide) rfl rfl (pa_cons (pv 1) (pa_cons (pe_op op_modN (pv 0) (pv 1)) pa_nil)) rfl)))
      (pss_one (ps_ret (pv 0)))), ?_⟩
    refine ⟨_, rfl, a, rfl, _, rfl, b, rfl, _, _, rfl, ?_⟩
    rw [abs_eq, abs_eq]
    refine ⟨fun m σ H' => ∃ x y : Nat, σ = [some (.int x), some (.int y)] ∧ H' = H ∧ m = y ∧ Nat.gcd x y = Int.gcd a b, ⟨_, a.natAbs, b.natAbs, rfl, rfl, rfl, rfl⟩, ?_⟩
    rintro m σ H' ⟨x, y, rfl, rfl, rfl, hg⟩
    refine ⟨_, rfl, rfl, _, rfl, ?_⟩
    by_cases hy : m = 0
    · subst hy
      rw [show (!decide (V.int ((0 : Nat) : Int) = V.int 0)) = false from by decide]
      refine iteF ?_
      refine ⟨_, rfl, ?_⟩
      rw [Nat.gcd_zero_right] at hg
      rw [hg]
      exact k
    · have hd : (!decide (V.int ((m : Nat) : Int) = V.int 0)) = true := by
        have : ¬ (V.int ((m : Nat) : Int) = V.int 0) := by intro z; injection z with z; omega
        rw [decide_eq_false this]
        rfl
      rw [hd]
      refine iteT ?_
      refine ⟨fun σ' H'' => σ' = [some (.int m), some (.int ((x % m : Nat) : Int))] ∧ H'' = H', ?_, ?_⟩
      · rintro σ' H'' ⟨rfl, rfl⟩
        refine ⟨x % m, Nat.mod_lt _ (by omega), m, x % m, rfl, rfl, rfl, ?_⟩
        rw [← hg, Nat.gcd_comm x m, Nat.gcd_rec m x, Nat.gcd_comm]
      · refine ⟨_, rfl, _, rfl, _, rfl, _, _, rfl, rfl, by omega, _, _, rfl, ?_, rfl⟩
        show [some (V.int (m : Int)), some (V.int (((x : Int)).fmod (m : Int)))] = _
        rw [Int.fmod_eq_emod_of_nonneg _ (by omega)]
        rfl

theorem scBegin : FnScope ["_law_script", "_law_cells"] ["_law_script"] (defScope sBegin) := ⟨rfl, rfl, rfl, by decide +kernel, rfl, by decide +kernel, by decide +kernel⟩
theorem ok_begin {f : Addr} {fd : FuncData} (F : Fun K "_law_begin" "_law_begin" sBegin f fd) (hli : mg "list" = none) : FnOk P w K mg base CX0 1 f fd ["_law_script"] (spBegin K) := by
  refine F.ok scBegin (fun vs H Q E h => ?_) (fun cdv A outer s H vs Q E hr h => ?_)
  · obtain ⟨a, ns, rfl, _⟩ := h
    rfl
  · obtain ⟨a, ns, rfl, hS, hl, k⟩ := h
    have hu30 : (cxOf CX0 P w K mg base ["_law_script", "_law_cells"] "_law_begin" (defScope sBegin) f cdv A outer s H E).nox.A.units + 30 < cLine := Nat.lt_of_le_of_lt (Nat.add_le_add_left (by decide : 30 ≤ 64) _) hr.units
    refine ⟨_, pss_cons (ps_set (i := 1) scBegin.nd rfl (Or.inl rfl) (pe_callTy call_list_of (by rfl) hli boot_list (pa_cons (pe_slice sl_list (pv 0) po_none (po_some pe_int)) pa_nil)))
      (pss_cons (ps_if (pt_cmpR (op_eqD hu30) (pv 1) (pe_lst pa_nil) (nomark _)) (pss_one (ps_set (i := 1) scBegin.nd rfl (Or.inl rfl) (pe_lst (pa_cons pe_int pa_nil)))) pss_nil)
      (pss_one (ps_ret (pe_disp (pps_cons pe_str (pv 1) (pps_cons pe_str pe_int pps_nil)) rfl rfl (by decide) (by decide))))), ?_⟩
    refine ⟨_, rfl, _, rfl, a, _, rfl, hS, fun q hq => ?_⟩
    rw [show cutV (ns.map V.int) none (some 63) = ns.map V.int from cut63 hl]
    refine ⟨q, _, rfl, .inl (SqL.of upd_same), fun c hc => ?_⟩
    have hc1 : upd H q (.lst (ns.map V.int)) c = none := hc
    generalize hH1 : upd (upd H q (.lst (ns.map V.int))) c (.lst (ns.map V.int)) = H1
    have e1 : H1 c = some (.lst (ns.map V.int)) := by rw [← hH1]; exact upd_same
    have s1 : ∀ b o, H b = some o → H1 b = some o := fun b o e => by
      have e2 : upd H q (.lst (ns.map V.int)) b = some o := by rw [upd_ne (ne_of_none e hq)]; exact e
      rw [← hH1, upd_ne (ne_of_none e2 hc1)]
      exact e2
    refine ⟨_, rfl, Nat.zero_le _, fun d hd => ?_⟩
    have e1' : upd H1 d (.lst []) c = some (.lst (ns.map V.int)) := by rw [upd_ne (ne_of_none e1 hd)]; exact e1
    refine ⟨fun _ => False, fun _ => False, ns.map Dt.int, [], false, ⟨?_, ?_⟩, ?_, _, rfl, ?_⟩
    · unfold Rep
      exact ⟨c, _, rfl, fun z => z, SqL.of e1', RepL.ints⟩
    · unfold Rep
      exact ⟨d, [], rfl, fun z => z, SqL.of upd_same, by unfold RepL; rfl⟩
    · have : ∀ ms : List Int, depL (ms.map Dt.int) = 0 := by
        intro ms
        induction ms with
        | nil => rfl
        | cons n r ih => simp only [List.map_cons, depL, Dt.dep, ih, Nat.max_self]
      rw [this]
      exact Nat.zero_le _
    have fin : ∀ (H2 : Hp) (c2 : Addr) (ms : List Int), 0 < ms.length → ms.length ≤ 63 → H2 c2 = some (.lst (ms.map V.int)) → (∀ b o, H b = some o → H2 b = some o) →
        tDisp [(tC (.str "cells"), tVar 1), (tC (.str "turn"), tC (.int 0))] [some (.ref a), some (.ref c2)] H2 Q := by
      intro H2 c2 ms h1 h2 h3 h4 p hp
      refine ⟨_, rfl, upd_same, [(kCells, .ref c2), (kTurn, .int 0)], rfl, (by show 2 ≤ 15; decide), ?_⟩
      have e : mergeK [] [(kCells, V.ref c2), (kTurn, V.int 0)] = kvsS c2 0 := by
        show putK (putK [] kCells (.ref c2)) kTurn (.int 0) = _
        unfold putK
        have hd' : decide (kCells = kTurn) = false := decide_eq_false knk
        simp [hd']
        rfl
      rw [e, upd_upd]
      have hpn : H p = none := by
        cases q' : H p with
        | none => rfl
        | some o => rw [h4 p o q'] at hp; cases hp
      refine k p c2 _ hpn ⟨0, ms, upd_same, by rw [upd_ne (ne_of_none h3 hp)]; exact h3, h1, h2, by decide, by decide⟩ fun b o e => ?_
      rw [upd_ne (ne_of_none e hpn)]
      exact h4 b o e
    have s2 : ∀ b o, H b = some o → upd H1 d (.lst []) b = some o := fun b o e => by rw [upd_ne (ne_of_none (s1 b o e) hd)]; exact s1 b o e
    cases ns with
    | nil =>
      refine iteT ?_
      refine ⟨by show 1 ≤ sizeLine; decide, fun g hg => ?_⟩
      exact fin _ g [7] (by decide) (by decide) upd_same fun b o e => by rw [upd_ne (ne_of_none (s2 b o e) hg)]; exact s2 b o e
    | cons n r =>
      refine iteF ?_
      exact fin _ c (n :: r) (by simp) hl e1' s2

theorem scTake : FnScope ["_law_state", "_law_many", "_law_turn", "_law_place", "_law_cell", "_law_mixed", "_law_digit"] ["_law_state", "_law_many"] (defScope sTake) := ⟨rfl, rfl, rfl, by decide +kernel, rfl, by decide +kernel, by decide +kernel⟩
theorem ok_take {f : Addr} {fd : FuncData} (F : Fun K "_law_take" "_law_take" sTake f fd) (hle : mg "len" = none) (hdm : mg "divmod" = none) : FnOk P w K mg base CX0 1 f fd ["_law_state", "_law_many"] spTake := by
  refine F.ok scTake (fun vs H Q E h => ?_) (fun cdv A outer s H vs Q E hr h => ?_)
  · obtain ⟨p, c, n, many, rfl, _⟩ := h
    rfl
  · obtain ⟨p, c, n, many, rfl, S, hn, hm, hmf, k⟩ := h
    have hu := hu_of hr
    obtain ⟨t, ns, h1, h2, h3, h4, h5, h6⟩ := S.ex
    have npc := S.ne
    refine ⟨_, pss_cons (ps_set (i := 2) scTake.nd rfl (Or.inl rfl) (pe_op op_add (pe_dget hu (pv 0) pe_str (fun _ _ => rfl)) pe_int))
      (pss_cons (ps_dput hu (pv 0) pe_str (pv 2) rfl)
      (pss_cons (ps_set (i := 3) scTake.nd rfl (Or.inl rfl) (pe_op op_mod (pv 2) (pe_callB call_len_seq (by rfl) hle PySem.boot_len (pa_cons (pe_dget hu (pv 0) pe_str (fun _ _ => rfl)) pa_nil))))
      (pss_cons (ps_set (i := 4) scTake.nd rfl (Or.inl rfl) (pe_ix ix_list (pe_dget hu (pv 0) pe_str (fun _ _ => rfl)) (pv 3) (fun _ _ => rfl)))
      (pss_cons (ps_if (pt_cmpR op_ge (pv 4) (pe_op op_pow pe_int pe_int) (nomark _))
        (pss_cons (ps_asg (pe_callB call_divmodP (by rfl) hdm boot_divmod (pa_cons (pv 4) (pa_cons (pv 1) pa_nil))) (pg_tup rfl (pgs_cons (pg_sub (pe_dget hu (pv 0) pe_str (fun _ _ => rfl)) (pv 3) set_list) (pgs_cons (pg_name (i := 6) scTake.nd rfl (Or.inl rfl)) pgs_nil))))
          (pss_one (ps_ret (pv 6)))) pss_nil)
      (pss_cons (ps_set (i := 5) scTake.nd rfl (Or.inl rfl) (pe_op op_mod (pe_op op_mulG (pe_op op_add (pe_op op_add (pe_op op_mod (pv 4) pe_int) (pe_op op_mulG (pe_op op_mulG (pv 2) (pv 2)) pe_int)) pe_int) pe_int) pe_int))
      (pss_cons (ps_set (i := 5) scTake.nd rfl (Or.inl rfl) (pe_op op_mod (pe_op op_mulG (pv 5) (pv 5)) pe_int))
      (pss_one (ps_ret (pe_op op_mod (pe_op op_fdiv (pe_op op_mod (pe_op op_mulG (pe_op op_add (pv 5) (pe_op op_mulG (pv 2) pe_int)) pe_int) pe_int) pe_int) (pv 1)))))))))), ?_⟩
    have g1 : ∀ {H' : Hp} {t' : Int}, H' p = some (.dK (kvsS c t')) → DGet H' p (.str "cells") (some (.ref c)) := fun {H' t'} e => by
      have := DGet.k (k := kCells) e
      rw [val_cells] at this
      exact this
    have g2 : DGet H p (.str "turn") (some (.int t)) := by
      have := DGet.k (k := kTurn) h1
      rw [val_turn] at this
      exact this
    have p2 : DPut H p (.str "turn") (.int (t + 1)) (upd H p (.dK (kvsS c (t + 1)))) := by
      have := DPut.k (k := kTurn) (v := .int (t + 1)) h1 (by show 2 < sizeLine; decide)
      rw [put_turn] at this
      exact this
    -- turn
    refine ⟨_, rfl, p, _, rfl, g2, _, _, rfl, rfl, ?_⟩
    refine ⟨_, rfl, _, rfl, p, _, rfl, p2, ?_⟩
    generalize hH1 : upd H p (.dK (kvsS c (t + 1))) = H1
    have e1 : H1 p = some (.dK (kvsS c (t + 1))) := by rw [← hH1]; exact upd_same
    have e2 : H1 c = some (.lst (ns.map V.int)) := by rw [← hH1, upd_ne npc.symm]; exact h2
    have sx : SameX (AtS p c) H H1 := by rw [← hH1]; exact SameX.at (.inl rfl)
    have hln : ((ns.map V.int).length : Int) = (ns.length : Int) := by rw [List.length_map]
    -- place
    refine ⟨_, rfl, _, rfl, p, _, rfl, g1 e1, c, _, rfl, .inl (SqL.of e2), _, _, rfl, rfl, (by rw [hln]; omega), ?_⟩
    rw [hln]
    have hp0 : 0 ≤ (t + 1) % (ns.length : Int) := Int.emod_nonneg _ (by omega)
    have hp1 : (t + 1) % (ns.length : Int) < (ns.length : Int) := Int.emod_lt_of_pos _ (by omega)
    obtain ⟨pl, epl⟩ := Int.eq_ofNat_of_zero_le hp0
    have hpl : pl < ns.length := by omega
    -- cell
    have ecell : (ns.map V.int)[pl]? = some (.int ns[pl]) := by rw [List.getElem?_map, List.getElem?_eq_getElem hpl]; rfl
    generalize ns[pl] = cell at ecell
    have hat : atI (ns.map V.int) ((t + 1) % (ns.length : Int)) = some (.int cell) := by rw [epl]; exact atI_nat ecell
    refine ⟨_, rfl, p, _, rfl, g1 e1, _, rfl, c, _, _, _, rfl, rfl, SqL.of e2, hat, ?_⟩
    -- if cell >= 10 ** 18
    refine ⟨_, rfl, _, _, rfl, rfl, (by refine ⟨by decide, by decide, by decide⟩), _, _, rfl, rfl, _, rfl, ?_⟩
    refine ite2 (fun hge => ?_) (fun hge => ?_)
    · -- the digit
      refine ⟨_, rfl, _, rfl, _, _, rfl, ⟨hm, hmf⟩, fun q hq => ?_⟩
      refine ⟨q, _, rfl, SqT.of upd_same, rfl, ?_⟩
      have npq : p ≠ q := ne_of_none e1 hq
      have ncq : c ≠ q := ne_of_none e2 hq
      have e1' : upd H1 q (.tup [.int (cell / many), .int (cell % many)]) p = some (.dK (kvsS c (t + 1))) := by rw [upd_ne npq]; exact e1
      have e2' : upd H1 q (.tup [.int (cell / many), .int (cell % many)]) c = some (.lst (ns.map V.int)) := by rw [upd_ne ncq]; exact e2
      refine ⟨_, _, rfl, _, rfl, p, _, rfl, g1 e1', _, rfl, c, _, _, pl, rfl, rfl, e2', ?_, _, _, rfl, rfl, ?_⟩
      · show ixN (ns.map V.int).length ((t + 1) % (ns.length : Int)) = some pl
        rw [epl]
        unfold ixN
        rw [if_pos (by omega), if_pos (by rw [List.length_map]; omega)]
        simp
      refine ⟨_, rfl, ?_⟩
      refine k (cell % many) _ (Int.emod_nonneg _ (by omega)) (Int.emod_lt_of_pos _ hm) ⟨t + 1, ns.set pl (cell / many), ?_, ?_, ?_, ?_, by omega, by omega⟩ ?_
      · rw [upd_ne npc]; exact e1'
      · rw [upd_same, List.map_set]
      · rw [List.length_set]; exact h3
      · rw [List.length_set]; exact h4
      · exact (sx.trans (SameX.new hq)).trans (SameX.at (.inr rfl))
    · have a1 : 0 ≤ cell % 2147483629 ∧ cell % 2147483629 < 2147483629 := ⟨Int.emod_nonneg _ (by decide), Int.emod_lt_of_pos _ (by decide)⟩
      have ft : Fit 31 (t + 1) := fit_of_lt (by omega) (by omega)
      have f1 : Fit 62 ((t + 1) * (t + 1)) := ft.mul ft
      have f2 : Fit 14 (7919 : Int) := fit_of_lt (by decide) (by decide)
      have f3 := f1.mul f2
      have f4 : Fit 76 (cell % 2147483629) := (fit_of_lt (n := 31) (by omega) (by omega) : Fit 31 (cell % 2147483629)).mono (by decide)
      have f5 := f4.add f3
      have f6 : Fit 78 (cell % 2147483629 + (t + 1) * (t + 1) * 7919 + 11) := f5.add ((fit_of_lt (n := 4) (by decide) (by decide) : Fit 4 (11 : Int)).mono (by decide))
      have f7 : Fit 16 (48271 : Int) := fit_of_lt (by decide) (by decide)
      refine ⟨_, rfl, _, _, rfl, rfl, (by show (0 : Int) < 2147483629; decide), _, rfl, _, rfl, _, _, rfl, rfl, ⟨ft.mono (by decide), ft.mono (by decide)⟩, _, _, rfl, rfl, ⟨f1.mono (by decide), f2.mono (by decide)⟩, _, _, rfl, rfl, _, _, rfl, rfl,
        _, _, rfl, rfl, ⟨f6.mono (by decide), f7.mono (by decide)⟩, _, _, rfl, rfl, (by show (0 : Int) < 2147483647; decide), ?_⟩
      have hx1 : 0 ≤ (cell % 2147483629 + (t + 1) * (t + 1) * 7919 + 11) * 48271 % 2147483647 ∧ (cell % 2147483629 + (t + 1) * (t + 1) * 7919 + 11) * 48271 % 2147483647 < 2147483647 := ⟨Int.emod_nonneg _ (by decide), Int.emod_lt_of_pos _ (by decide)⟩
      have fx6 : Fit 60000000 ((cell % 2147483629 + (t + 1) * (t + 1) * 7919 + 11) * 48271 % 2147483647) := (fit_of_lt (n := 31) (by omega) (by omega) : Fit 31 ((cell % 2147483629 + (t + 1) * (t + 1) * 7919 + 11) * 48271 % 2147483647)).mono (by decide)
      refine ⟨_, rfl, _, rfl, _, _, rfl, rfl, ⟨fx6, fx6⟩, _, _, rfl, rfl, (by show (0 : Int) < 2147483587; decide), ?_⟩
      have hy : ∃ y, y = (cell % 2147483629 + (t + 1) * (t + 1) * 7919 + 11) * 48271 % 2147483647 * ((cell % 2147483629 + (t + 1) * (t + 1) * 7919 + 11) * 48271 % 2147483647) % 2147483587 := ⟨_, rfl⟩
      obtain ⟨y, hy⟩ := hy
      have hy1 : 0 ≤ y ∧ y < 2147483587 := by rw [hy]; exact ⟨Int.emod_nonneg _ (by decide), Int.emod_lt_of_pos _ (by decide)⟩
      have fy : Fit 31 y := fit_of_lt (by omega) (by omega)
      have f8 : Fit 17 (104729 : Int) := fit_of_lt (by decide) (by decide)
      have f9 := ft.mul f8
      have f10 : Fit 60000000 (y + (t + 1) * 104729) := ((fy.mono (by decide)).add f9).mono (by decide)
      have f11 : Fit 60000000 (39373 : Int) := (fit_of_lt (n := 16) (by decide) (by decide) : Fit 16 (39373 : Int)).mono (by decide)
      have ft6 : Fit 60000000 (t + 1) := ft.mono (by decide)
      have f86 : Fit 60000000 (104729 : Int) := f8.mono (by decide)
      rw [hy] at f10
      refine ⟨_, rfl, _, rfl, _, _, rfl, rfl, ⟨ft6, f86⟩, _, _, rfl, rfl, _, _, rfl, rfl, ⟨f10, f11⟩, _, _, rfl, rfl, (by show (0 : Int) < 2147483629; decide),
        _, _, rfl, rfl, ⟨by decide, by decide⟩, _, rfl, _, _, rfl, rfl, hm, ?_⟩
      exact k _ H1 (Int.emod_nonneg _ (by omega)) (Int.emod_lt_of_pos _ hm) ⟨t + 1, ns, e1, e2, h3, h4, by omega, by omega⟩ sx
theorem scLow : FnScope ["_law_top", "_law_below", "_law_sign", "_law_one", "_law_other"] ["_law_top", "_law_below"] (defScope sLow) := ⟨rfl, rfl, rfl, by decide +kernel, rfl, by decide +kernel, by decide +kernel⟩
theorem ok_low {f : Addr} {fd : FuncData} (F : Fun K "_law_lowest" "_law_lowest" sLow f fd) (hab : mg "abs" = none) : FnOk P w K mg base CX0 1 f fd ["_law_top", "_law_below"] spLow := by
  refine F.ok scLow (fun vs H Q E h => ?_) (fun cdv A outer s H vs Q E hr h => ?_)
  · obtain ⟨a, b, rfl, _⟩ := h
    rfl
  · obtain ⟨a, b, rfl, hb, hfa, hfb, k⟩ := h
    refine ⟨_, pss_cons (ps_par (i := 3) (j := 4) rfl scLow.nd rfl rfl (by decide) rfl rfl (pa_cons (pe_callB call_abs (by rfl) hab boot_abs (pa_cons (pv 0) pa_nil)) (pa_cons (pe_callB call_abs (by rfl) hab boot_abs (pa_cons (pv 1) pa_nil)) pa_nil)) rfl)
      (pss_cons (ps_while PassesOwn.never (pt_cmpR op_gt (pv 4) pe_int (nomark _)) (pss_one (ps_par (i := 3) (j := 4) rfl scLow.nd rfl rfl (by decide) rfl rfl (pa_cons (pv 4) (pa_cons (pe_op op_modN (pv 3) (pv 4)) pa_nil)) rfl)))
      (pss_cons (ps_set (i := 2) scLow.nd rfl (Or.inl rfl) (pe_ifExp (pt_cmpR op_lt (pv 1) pe_int (nomark _)) (pe_un un_neg pe_int) pe_int))
      (pss_one (ps_ret (pe_tup (pa_cons (pe_op op_fdivG (pe_op op_mulG (pv 2) (pv 0)) (pv 3)) (pa_cons (pe_op op_fdivG (pe_op op_mulG (pv 2) (pv 1)) (pv 3)) pa_nil))))))), ?_⟩
    refine ⟨_, rfl, a, rfl, _, rfl, b, rfl, _, _, rfl, ?_⟩
    rw [abs_eq, abs_eq]
    refine ⟨fun m σ H' => ∃ x y : Nat, σ = [some (.int a), some (.int b), none, some (.int x), some (.int y)] ∧ H' = H ∧ m = y ∧ Nat.gcd x y = Int.gcd a b, ⟨_, a.natAbs, b.natAbs, rfl, rfl, rfl, rfl⟩, ?_⟩
    rintro m σ H' ⟨x, y, rfl, rfl, rfl, hg⟩
    refine ⟨_, rfl, _, _, rfl, rfl, _, rfl, ?_⟩
    have hgn : ((Int.gcd a b : Nat) : Int) ≠ 0 := by have := gcd_pos (t := a) hb; omega
    have hgf := gcd_fit (a := a) hb hfb
    by_cases hy : m = 0
    · subst hy
      rw [show decide ((0 : Int) < ((0 : Nat) : Int)) = false from by decide]
      refine iteF ?_
      rw [Nat.gcd_zero_right] at hg
      subst hg
      have kk : ∀ p, H' p = none → Q (.ref p) (upd H' p (.tup [.int (low a b).1, .int (low a b).2])) := by rw [low_fr a b hb]; exact k
      unfold low at kk
      have fin : ∀ sg : Int, sg = (if b < 0 then -1 else 1) → Fit 1 sg → tRet (tTup (tCons (tOp (rI (fun x j => j ≠ 0 ∧ Fit 9000 j) fun i j => V.int (i.fdiv j)) (tOp (rI (fun i j => Fit 60000000 i ∧ Fit 60000000 j) fun i j => V.int (i * j)) (tVar 2) (tVar 0)) (tVar 3))
          (tCons (tOp (rI (fun x j => j ≠ 0 ∧ Fit 9000 j) fun i j => V.int (i.fdiv j)) (tOp (rI (fun i j => Fit 60000000 i ∧ Fit 60000000 j) fun i j => V.int (i * j)) (tVar 2) (tVar 1)) (tVar 3)) tNil)))
          { nx := fun _ H' => Q .non H', rt := Q } [some (.int a), some (.int b), some (.int sg), some (.int ((Int.gcd a b : Nat) : Int)), some (.int ((0 : Nat) : Int))] H' := by
        intro sg es fs
        refine ⟨_, rfl, _, rfl, _, _, rfl, rfl, ⟨fs.mono (by decide), hfa.mono (by decide)⟩, _, rfl, _, _, rfl, rfl, ⟨hgn, hgf⟩, _, rfl, _, rfl, _, _, rfl, rfl, ⟨fs.mono (by decide), hfb.mono (by decide)⟩, _, rfl, _, _, rfl, rfl, ⟨hgn, hgf⟩, (by show 2 ≤ sizeLine; decide), fun p hp => ?_⟩
        subst es
        exact kk p hp
      refine ⟨_, rfl, _, _, rfl, rfl, _, rfl, ?_⟩
      refine ite2 (fun hlt => ?_) (fun hlt => ?_)
      · refine ⟨_, rfl, ?_⟩
        exact fin (-1) (if_pos (of_decide_eq_true hlt)).symm (by unfold Fit; decide)
      · exact fin 1 (if_neg (fun z => hlt (decide_eq_true z))).symm (by unfold Fit; decide)
    · rw [show decide ((0 : Int) < ((m : Nat) : Int)) = true from decide_eq_true (by omega)]
      refine iteT ?_
      refine ⟨fun σ' H'' => σ' = [some (.int a), some (.int b), none, some (.int m), some (.int ((x % m : Nat) : Int))] ∧ H'' = H', ?_, ?_⟩
      · rintro σ' H'' ⟨rfl, rfl⟩
        refine ⟨x % m, Nat.mod_lt _ (by omega), m, x % m, rfl, rfl, rfl, ?_⟩
        rw [← hg, Nat.gcd_comm x m, Nat.gcd_rec m x, Nat.gcd_comm]
      · refine ⟨_, rfl, _, rfl, _, rfl, _, _, rfl, rfl, by omega, _, _, rfl, ?_, rfl⟩
        show [some (V.int a), some (V.int b), none, some (V.int (m : Int)), some (V.int (((x : Int)).fmod (m : Int)))] = _
        rw [Int.fmod_eq_emod_of_nonneg _ (by omega)]
        rfl
theorem scNames : FnScope ["_law_state", "_law_many", "_law_some"] ["_law_state", "_law_many"] (defScope sNames) := ⟨rfl, rfl, rfl, by decide +kernel, rfl, by decide +kernel, by decide +kernel⟩
theorem ok_names {f g : Addr} {fd gd : FuncData} (F : Fun K "_law_names" "_law_names" sNames f fd) (G : FnOk P w K mg base CX0 1 g gd ["_law_state", "_law_many"] spTake) (bG : Binds K gd ["_law_state", "_law_many"] []) (mG : mg "_law_take" = some (.ref g)) (kG : PySem.W.keepIn K (.ref g) = true)
    (z0 : mg "range" = none) (z1 : mg "len" = none) : FnOk P w K mg base CX0 2 f fd ["_law_state", "_law_many"] spNames := by
  refine F.ok scNames (fun vs H Q E h => ?_) (fun cdv A outer s H vs Q E hr h => ?_)
  · obtain ⟨p, c, n, m, rfl, _⟩ := h
    rfl
  · obtain ⟨p, c, n, m, rfl, S, hn, hm, k⟩ := h
    refine ⟨_, pss_cons (ps_set (i := 2) scNames.nd rfl (Or.inr rfl) (pe_bm PySem.F.plainAttrs_str PySem.F.slot_str_split PySem.F.type_str_split mt_split pe_str (pa_cons pe_str pa_nil)))
      (pss_one (ps_ret (pe_comp [("_law_turn", none), ("_law_some", some 2), ("_law_state", some 0)] (CompScope.of rfl (by decide +kernel) (by decide +kernel) (by decide +kernel) ⟨⟨rfl, rfl, .inl rfl⟩, ⟨rfl, rfl, .inl rfl⟩, trivial⟩) rfl (pi_range1 rfl z0 (pa_cons (pv 1) pa_nil))
        (fun _ _ _ _ _ => pg_name (i := 0) (by show List.Nodup [("_law_turn" : Str), "_law_some", "_law_state"]; decide +kernel) rfl (Or.inl rfl)) (fun _ _ _ _ _ => pif_nil)
        (fun _ _ _ _ _ => pe_bmK (K := K) rfl PySem.F.plainAttrs_list PySem.F.slot_list_pop PySem.F.type_list_pop mt_popAt (pv 1) (pa_cons (pe_call G hr rfl mG kG bG .nil pass0 (pa_cons (pv 2) (pa_cons (pe_callB (call_len_seqK (K := K) rfl) (by rfl) z1 PySem.boot_len (pa_cons (pv 1) pa_nil)) pa_nil))) pa_nil))))), ?_⟩
    refine ⟨rfl, text24, _, rfl, rfl, split24a, (by decide), split24b, (by rw [len24]; decide), (by rw [split24]; decide), fun b hb => ?_⟩
    rw [split24]
    have S1 := S.new (o := .lst (names24.map V.str)) hb
    have nb : ¬ AtS p c b := S.not hb
    refine ⟨_, rfl, (m : Int), rfl, by omega, by omega, ?_⟩
    rw [Int.toNat_natCast]
    refine comp_rg 0 (fun D i ys σ H' => (∃ v, σ = [v, some (.ref b), some (.ref p)]) ∧ H' D = some (.lst ys) ∧ D ≠ b ∧ (∃ rest : List Str, H' b = some (.lst (rest.map V.str)) ∧ rest.length + i = 24 ∧ ∀ x ∈ rest, x ∈ names24) ∧ (∃ nms : List Str, ys = nms.map V.str ∧ nms.length = i ∧ ∀ x ∈ nms, x ∈ names24) ∧ StAt H' p c (n + i) ∧ SameX (AtS p c) H H') ?_ ?_ ?_
    · intro D hD
      have e1 : upd H b (.lst (names24.map V.str)) b = some (.lst (names24.map V.str)) := upd_same
      have nD : b ≠ D := ne_of_none e1 hD
      refine ⟨⟨none, rfl⟩, upd_same, nD.symm, ⟨names24, by rw [upd_ne nD]; exact e1, rfl, fun _ h => h⟩, ⟨[], rfl, rfl, (fun _ h => nomatch h)⟩, S1.new hD, (SameX.new hb).trans (SameX.new hD)⟩
    · rintro D i ys σ H' hD hi ⟨⟨v, rfl⟩, eD, nDb, ⟨rest, eb, hlen, hrest⟩, ⟨nms, rfl, hnl, hnm⟩, SS, sx⟩
      have nDS : ¬ AtS p c D := S1.not hD
      have hD0 : H D = none := by
        cases q : H D with
        | none => rfl
        | some o => rw [upd_ne nDb, q] at hD; cases hD
      refine ⟨_, rfl, .inl ⟨rfl, _, SqL.of eb⟩, _, rfl, _, rfl, b, _, rfl, .inl (SqL.of eb), p, c, _, _, rfl, SS, by omega, (by rw [List.length_map]; omega), (by rw [List.length_map]; exact fit9 (fit_of_lt (by omega) (by omega))), fun r H6 h0 h1 S6 x6 => ?_⟩
      rw [List.length_map] at h1
      have eb6 : H6 b = some (.lst (rest.map V.str)) := x6 _ _ eb nb
      have eD6 : H6 D = some (.lst (nms.map V.str)) := x6 _ _ eD nDS
      have hrn : r.toNat < rest.length := by omega
      refine ⟨b, _, r, r.toNat, .str rest[r.toNat], rfl, rfl, eb6, by omega, by omega, ix_ok h0 (by rw [List.length_map]; exact h1), (by rw [List.getElem?_map, List.getElem?_eq_getElem hrn]; rfl), ?_⟩
      refine ⟨by rw [upd_ne nDb]; exact eD6, (by rw [List.length_map, hnl]; exact small1000 (by omega)), CN.mk hi ⟨⟨_, rfl⟩, upd_same, nDb, ⟨rest.eraseIdx r.toNat, ?_, ?_, fun x hx => hrest x (List.mem_of_mem_eraseIdx hx)⟩, ⟨nms ++ [rest[r.toNat]], ?_, ?_, ?_⟩, ?_, ?_⟩⟩
      · rw [upd_ne nDb.symm, upd_same, map_erase]
      · rw [List.length_eraseIdx_of_lt hrn]; omega
      · rw [List.map_append]; rfl
      · rw [List.length_append, hnl]; rfl
      · intro x hx
        rcases List.mem_append.mp hx with h | h
        · exact hnm x h
        · rw [List.mem_singleton.mp h]; exact hrest _ (List.getElem_mem hrn)
      · obtain ⟨t, ns', g1, g2, g3, g4, g5, g6⟩ := S6.ex
        have n1 : p ≠ D := fun z => nDS (.inl z.symm)
        have n2 : c ≠ D := fun z => nDS (.inr z.symm)
        have n3 : p ≠ b := fun z => nb (.inl z.symm)
        have n4 : c ≠ b := fun z => nb (.inr z.symm)
        exact ⟨t, ns', by rw [upd_ne n1, upd_ne n3]; exact g1, by rw [upd_ne n2, upd_ne n4]; exact g2, g3, g4, g5, by omega⟩
      · intro q o e nq
        have e1 := x6 _ _ (sx q o e nq) nq
        rw [upd_ne (ne_of_none e hD0), upd_ne (ne_of_none e hb)]
        exact e1
    · rintro D ys σ H' hD ⟨_, eD, nDb, _, ⟨nms, rfl, hnl, hnm⟩, SS, sx⟩
      have hD0 : H D = none := by
        cases q : H D with
        | none => rfl
        | some o => rw [upd_ne nDb, q] at hD; cases hD
      exact k D nms H' hD0 eD hnl hnm SS sx
theorem scPart : FnScope ["_law_state", "_law_below"] ["_law_state"] (defScope sPart) := ⟨rfl, rfl, rfl, by decide +kernel, rfl, by decide +kernel, by decide +kernel⟩
theorem pickB {r a : Int} (h0 : 0 ≤ r) (h1 : r < 6) (ha : 1 ≤ a ∧ a ≤ 60) : ∃ v : Int, atI [V.int 2, V.int 3, V.int 4, V.int 5, V.int 10, V.int a] r = some (.int v) ∧ 1 ≤ v ∧ v ≤ 60 := by
  have hr : r = 0 ∨ r = 1 ∨ r = 2 ∨ r = 3 ∨ r = 4 ∨ r = 5 := by omega
  rcases hr with rfl | rfl | rfl | rfl | rfl | rfl
  · exact ⟨2, rfl, by decide, by decide⟩
  · exact ⟨3, rfl, by decide, by decide⟩
  · exact ⟨4, rfl, by decide, by decide⟩
  · exact ⟨5, rfl, by decide, by decide⟩
  · exact ⟨10, rfl, by decide, by decide⟩
  · exact ⟨a, rfl, ha.1, ha.2⟩
theorem ok_part {f g gl : Addr} {fd gd dl : FuncData} (F : Fun K "_law_part" "_law_part" sPart f fd) (G : FnOk P w K mg base CX0 1 g gd ["_law_state", "_law_many"] spTake) (bG : Binds K gd ["_law_state", "_law_many"] []) (mG : mg "_law_take" = some (.ref g)) (kG : PySem.W.keepIn K (.ref g) = true)
    (GL : FnOk P w K mg base CX0 1 gl dl ["_law_top", "_law_below"] spLow) (bL : Binds K dl ["_law_top", "_law_below"] []) (mL : mg "_law_lowest" = some (.ref gl)) (kL : PySem.W.keepIn K (.ref gl) = true) :
    FnOk P w K mg base CX0 2 f fd ["_law_state"] spPart := by
  refine F.ok scPart (fun vs H Q E h => ?_) (fun cdv A outer s H vs Q E hr h => ?_)
  · obtain ⟨p, c, n, rfl, _⟩ := h
    rfl
  · obtain ⟨p, c, n, rfl, S, hn, k⟩ := h
    refine ⟨_, pss_cons (ps_set (i := 1) scPart.nd rfl (Or.inl rfl) (pe_ix ix_list (pe_lst (pa_cons pe_int (pa_cons pe_int (pa_cons pe_int (pa_cons pe_int (pa_cons pe_int (pa_cons (pe_op op_add pe_int (pe_call G hr rfl mG kG bG .nil pass0 (pa_cons (pv 0) (pa_cons pe_int pa_nil)))) pa_nil)))))))
        (pe_call G hr rfl mG kG bG .nil pass0 (pa_cons (pv 0) (pa_cons pe_int pa_nil))) (fun _ _ => rfl)))
      (pss_one (ps_ret (pe_call GL hr rfl mL kL bL .nil pass0 (pa_cons (pe_op op_add pe_int (pe_call G hr rfl mG kG bG .nil pass0 (pa_cons (pv 0) (pa_cons (pv 1) pa_nil)))) (pa_cons (pv 1) pa_nil))))), ?_⟩
    refine ⟨_, rfl, p, c, n, 60, rfl, S, by omega, by decide, fit9 (by unfold Fit; decide), fun r1 H1 h10 h11 S1 x1 => ?_⟩
    refine ⟨_, _, rfl, rfl, (by show 6 ≤ sizeLine; decide), fun l hl => ?_⟩
    refine ⟨_, rfl, p, c, n + 1, 6, rfl, S1.new hl, by omega, by decide, fit9 (by unfold Fit; decide), fun r2 H2 h20 h21 S2 x2 => ?_⟩
    obtain ⟨v, ev, hv1, hv2⟩ := pickB h20 h21 (show 1 ≤ 1 + r1 ∧ 1 + r1 ≤ 60 by omega)
    refine ⟨l, _, r2, _, rfl, rfl, SqL.of (x2 l _ upd_same (S1.not hl)), ev, ?_⟩
    have fv : Fit 64 v := fit_of_lt (by omega) (by omega)
    refine ⟨_, rfl, _, rfl, p, c, n + 1 + 1, v, rfl, S2, by omega, by omega, fit9 fv, fun r3 H3 h30 h31 S3 x3 => ?_⟩
    refine ⟨_, _, rfl, rfl, _, rfl, 1 + r3, v, rfl, by omega, fit9 (fit_of_lt (by omega) (by omega)), fit9 fv, fun q hq => ?_⟩
    refine k q _ _ (fresh1 ((x1.trans ((SameX.new hl).trans x2)).trans x3) S3 hq) upd_same (S3.not hq) (fr_part (by omega) (by omega) hv2) (S3.new hq) ?_
    exact ((x1.trans ((SameX.new hl).trans x2)).trans x3).trans (SameX.new hq)
end
end Ro

set_option Elab.async false
set_option linter.all false
set_option maxRecDepth 100000
set_option maxHeartbeats 4000000
namespace Ro
open PySem L2
section
variable {P : Program} {w : World} {K : PySem.W.Frag} {mg : Str → Option Value} {base : Heap}
theorem scRow : FnScope ["_law_state", "_law_name", "_law_room", "_law_way", "_law_most", "_law_rates", "_law_upto", "_law_turn"] ["_law_state", "_law_name", "_law_room"] (defScope sRow) := ⟨rfl, rfl, rfl, by decide +kernel, rfl, by decide +kernel, by decide +kernel⟩
theorem pick2v {r a b : Int} (h0 : 0 ≤ r) (h1 : r < 2) : ∃ v : Int, atI [V.int a, V.int b] r = some (.int v) ∧ (v = a ∨ v = b) := by
  have hr' : r = 0 ∨ r = 1 := by omega
  rcases hr' with rfl | rfl
  · exact ⟨a, rfl, .inl rfl⟩
  · exact ⟨b, rfl, .inr rfl⟩
theorem ok_row {f g gl gp : Addr} {fd gd dl dp : FuncData} (F : Fun K "_law_row" "_law_row" sRow f fd) (G : FnOk P w K mg base CX0 1 g gd ["_law_state", "_law_many"] spTake) (bG : Binds K gd ["_law_state", "_law_many"] []) (mG : mg "_law_take" = some (.ref g)) (kG : PySem.W.keepIn K (.ref g) = true)
    (GL : FnOk P w K mg base CX0 1 gl dl ["_law_top", "_law_below"] spLow) (bL : Binds K dl ["_law_top", "_law_below"] []) (mL : mg "_law_lowest" = some (.ref gl)) (kL : PySem.W.keepIn K (.ref gl) = true)
    (GP : FnOk P w K mg base CX0 2 gp dp ["_law_state"] spPart) (bP : Binds K dp ["_law_state"] []) (mP : mg "_law_part" = some (.ref gp)) (kP : PySem.W.keepIn K (.ref gp) = true)
    (z0 : mg "range" = none) (z1 : mg "min" = none) (z2 : mg "tuple" = none) : FnOk P w K mg base CX0 3 f fd ["_law_state", "_law_name", "_law_room"] (spRow K) := by
  refine F.ok scRow (fun vs H Q E h => ?_) (fun cdv A outer s H vs Q E hr h => ?_)
  · obtain ⟨p, c, n, nm, rm, rfl, _⟩ := h
    rfl
  · obtain ⟨p, c, n, nm, rm, rfl, S, hn, hnm, hrm0, hrm1, k⟩ := h
    have hr1 : Room 1 _ := hr.mono (by decide)
    refine ⟨_, pss_cons (ps_set (i := 3) scRow.nd rfl (Or.inl rfl) (pe_call G hr1 rfl mG kG bG .nil pass0 (pa_cons (pv 0) (pa_cons pe_int pa_nil))))
      (pss_cons (ps_if (pt_cmpR op_gt (pv 3) pe_int (nomark _)) (pss_one (ps_ret (pe_tup (pa_cons (pe_tup (pa_cons pe_str (pa_cons (pv 1) (pa_cons (pe_op op_add pe_int (pe_call G hr1 rfl mG kG bG .nil pass0 (pa_cons (pv 0) (pa_cons (pe_ix ix_list (pe_lst (pa_cons pe_int (pa_cons pe_int pa_nil))) (pe_call G hr1 rfl mG kG bG .nil pass0 (pa_cons (pv 0) (pa_cons pe_int pa_nil))) (fun _ _ => rfl)) pa_nil)))) pa_nil)))) (pa_cons pe_int pa_nil))))) pss_nil)
      (pss_cons (ps_if (PW.pt (pw_or (pt_cmpR op_gt (pv 3) pe_int (nomark _)) (pw_or1 (pt_cmpR op_eq (pv 2) pe_int (nomark _))))) (pss_one (ps_ret (pe_tup (pa_cons (pe_tup (pa_cons pe_str (pa_cons (pv 1) (pa_cons (pe_call GP hr rfl mP kP bP .nil pass0 (pa_cons (pv 0) pa_nil)) pa_nil)))) (pa_cons pe_int pa_nil))))) pss_nil)
      (pss_cons (ps_set (i := 4) scRow.nd rfl (Or.inl rfl) (pe_op op_add pe_int (pe_call G hr1 rfl mG kG bG .nil pass0 (pa_cons (pv 0) (pa_cons (pe_callB (call_min2 rfl) (by rfl) z1 boot_min (pa_cons (pv 2) (pa_cons (pe_ix ix_list (pe_lst (pa_cons pe_int (pa_cons pe_int pa_nil))) (pe_op op_fdiv (pe_call G hr1 rfl mG kG bG .nil pass0 (pa_cons (pv 0) (pa_cons pe_int pa_nil))) pe_int) (fun _ _ => rfl)) pa_nil))) pa_nil)))))
      (pss_cons (ps_if (pt_cmpR op_gt (pv 3) pe_int (nomark _)) (pss_one (ps_ret (pe_tup (pa_cons (pe_tup (pa_cons pe_str (pa_cons (pv 1) (pa_cons (pe_call GL hr1 rfl mL kL bL .nil pass0 (pa_cons (pv 4) (pa_cons pe_int pa_nil))) pa_nil)))) (pa_cons (pv 4) pa_nil))))) pss_nil)
      (pss_cons (ps_set (i := 5) scRow.nd rfl (Or.inl rfl) (pe_lst pa_nil))
      (pss_cons (ps_set (i := 6) scRow.nd rfl (Or.inl rfl) pe_int)
      (pss_cons (ps_for PassesOwn.never rfl (pi_range1 rfl z0 (pa_cons (pe_op op_add pe_int (pe_call G hr1 rfl mG kG bG .nil pass0 (pa_cons (pv 0) (pa_cons pe_int pa_nil)))) pa_nil)) (pg_name (i := 7) scRow.nd rfl (Or.inl rfl))
        (pss_cons (ps_set (i := 6) scRow.nd rfl (Or.inl rfl) (pe_op op_add (pe_op op_add (pv 6) pe_int) (pe_call G hr1 rfl mG kG bG .nil pass0 (pa_cons (pv 0) (pa_cons (pe_ix ix_list (pe_lst (pa_cons pe_int (pa_cons pe_int pa_nil))) (pe_call G hr1 rfl mG kG bG .nil pass0 (pa_cons (pv 0) (pa_cons pe_int pa_nil))) (fun _ _ => rfl)) pa_nil)))))
        (pss_one (ps_expr (pe_bm PySem.F.plainAttrs_list PySem.F.slot_list_append PySem.F.type_list_append mt_append (pv 5) (pa_cons (pe_tup (pa_cons (pv 6) (pa_cons (pe_call GL hr1 rfl mL kL bL .nil pass0 (pa_cons (pe_op op_add pe_int (pe_call G hr1 rfl mG kG bG .nil pass0 (pa_cons (pv 0) (pa_cons (pv 4) pa_nil)))) (pa_cons pe_int pa_nil))) pa_nil))) pa_nil))))))
      (pss_cons (ps_expr (pe_bm PySem.F.plainAttrs_list PySem.F.slot_list_append PySem.F.type_list_append mt_append (pv 5) (pa_cons (pe_tup (pa_cons pe_non (pa_cons (pe_call GL hr1 rfl mL kL bL .nil pass0 (pa_cons (pe_op op_add pe_int (pe_call G hr1 rfl mG kG bG .nil pass0 (pa_cons (pv 0) (pa_cons (pv 4) pa_nil)))) (pa_cons pe_int pa_nil))) pa_nil))) pa_nil)))
      (pss_one (ps_ret (pe_tup (pa_cons (pe_tup (pa_cons pe_str (pa_cons (pv 1) (pa_cons (pe_callTy call_tuple_of (by rfl) z2 boot_tuple (pa_cons (pv 5) pa_nil)) pa_nil)))) (pa_cons (pv 4) pa_nil))))))))))))), ?_⟩
    refine ⟨_, rfl, p, c, n, 8, rfl, S, by omega, by decide, fit9 (by unfold Fit; decide), fun way H1 _ _ S1 x1 => ?_⟩
    refine ⟨_, rfl, _, _, rfl, rfl, _, rfl, ?_⟩
    refine ite2 (fun _ => ?_) (fun _ => ?_)
    · -- length
      refine ⟨_, rfl, _, rfl, (by show 2 ≤ sizeLine; decide), fun l hl => ?_⟩
      refine ⟨_, rfl, p, c, n + 1, 2, rfl, S1.new hl, by omega, by decide, fit9 (by unfold Fit; decide), fun r2 H2 h20 h21 S2 x2 => ?_⟩
      obtain ⟨v, ev, hv⟩ := pick2v (a := 5) (b := 1000) h20 h21
      refine ⟨l, _, r2, _, rfl, rfl, SqL.of (x2 l _ upd_same (S1.not hl)), ev, ?_⟩
      refine ⟨p, c, n + 1 + 1, v, rfl, S2, by omega, by omega, fit9 (fit_of_lt (by omega) (by omega)), fun r3 H3 h30 h31 S3 x3 => ?_⟩
      refine ⟨_, _, rfl, rfl, (by show 3 ≤ sizeLine; decide), fun q hq => ⟨(by show 2 ≤ sizeLine; decide), fun t ht => ?_⟩⟩
      have S4 := S3.new (o := .tup [.str "length", .str nm, .int (1 + r3)]) hq
      have e4 : upd H3 q (.tup [.str "length", .str nm, .int (1 + r3)]) q = some (.tup [.str "length", .str nm, .int (1 + r3)]) := upd_same
      have nq := fresh ((x1.trans ((SameX.new hl).trans x2)).trans x3) S3 hq
      have k4 : SameX (AtS p c) H3 (upd H3 q (.tup [.str "length", .str nm, .int (1 + r3)])) := SameX.new hq
      generalize upd H3 q (.tup [.str "length", .str nm, .int (1 + r3)]) = H4 at *
      refine k t q (.len nm (1 + r3)) 0 _ upd_same (S4.not ht) (rep_tup3 (by rw [upd_ne (ne_of_none e4 ht)]; exact e4) nq rep_int) ⟨hnm, by omega, by omega⟩ trivial (by decide) hrm0 ((S4.new ht).mono (by omega)) ?_
      exact (((x1.trans ((SameX.new hl).trans x2)).trans x3).trans k4).trans (SameX.new ht)
    · refine ⟨_, rfl, _, _, rfl, rfl, _, rfl, ?_⟩
      refine ite2 (fun _ => iteT ?_) (fun _ => ⟨_, rfl, rfl, _, rfl, ite2 (fun _ => ?_) (fun hz => ?_)⟩)
      · -- left
        refine ⟨_, rfl, _, rfl, p, c, n + 1, rfl, S1, by omega, fun q f H2 hqn e2 _ hf S2 x2 => ⟨(by show 3 ≤ sizeLine; decide), fun q3 hq3 => ⟨(by show 2 ≤ sizeLine; decide), fun t ht => ?_⟩⟩⟩
        have S3 := S2.new (o := .tup [.str "left", .str nm, .ref q]) hq3
        have e3 : upd H2 q3 (.tup [.str "left", .str nm, .ref q]) q3 = some (.tup [.str "left", .str nm, .ref q]) := upd_same
        have e32 : upd H2 q3 (.tup [.str "left", .str nm, .ref q]) q = some (.tup [.int f.1, .int f.2]) := by rw [upd_ne (ne_of_none e2 hq3)]; exact e2
        have k3 : SameX (AtS p c) H2 (upd H2 q3 (.tup [.str "left", .str nm, .ref q])) := SameX.new hq3
        have nq3 := fresh (x1.trans x2) S2 hq3
        have nq := fresh x1 S1 hqn
        generalize upd H2 q3 (.tup [.str "left", .str nm, .ref q]) = H3 at *
        refine k t q3 (.left nm f) 0 _ upd_same (S3.not ht) (rep_tup3 (by rw [upd_ne (ne_of_none e3 ht)]; exact e3) nq3 (rep_of_D2 nq (SqT.of (by rw [upd_ne (ne_of_none e32 ht)]; exact e32)))) ⟨hnm, hf⟩ trivial (by decide) hrm0 ((S3.new ht).mono (by omega)) ?_
        exact ((x1.trans x2).trans k3).trans (SameX.new ht)
      · -- left, no room
        refine ⟨_, rfl, _, rfl, p, c, n + 1, rfl, S1, by omega, fun q f H2 hqn e2 _ hf S2 x2 => ⟨(by show 3 ≤ sizeLine; decide), fun q3 hq3 => ⟨(by show 2 ≤ sizeLine; decide), fun t ht => ?_⟩⟩⟩
        have S3 := S2.new (o := .tup [.str "left", .str nm, .ref q]) hq3
        have e3 : upd H2 q3 (.tup [.str "left", .str nm, .ref q]) q3 = some (.tup [.str "left", .str nm, .ref q]) := upd_same
        have e32 : upd H2 q3 (.tup [.str "left", .str nm, .ref q]) q = some (.tup [.int f.1, .int f.2]) := by rw [upd_ne (ne_of_none e2 hq3)]; exact e2
        have k3 : SameX (AtS p c) H2 (upd H2 q3 (.tup [.str "left", .str nm, .ref q])) := SameX.new hq3
        have nq3 := fresh (x1.trans x2) S2 hq3
        have nq := fresh x1 S1 hqn
        generalize upd H2 q3 (.tup [.str "left", .str nm, .ref q]) = H3 at *
        refine k t q3 (.left nm f) 0 _ upd_same (S3.not ht) (rep_tup3 (by rw [upd_ne (ne_of_none e3 ht)]; exact e3) nq3 (rep_of_D2 nq (SqT.of (by rw [upd_ne (ne_of_none e32 ht)]; exact e32)))) ⟨hnm, hf⟩ trivial (by decide) hrm0 ((S3.new ht).mono (by omega)) ?_
        exact ((x1.trans x2).trans k3).trans (SameX.new ht)
      · have hrm : 1 ≤ rm := by
          have : rm ≠ 0 := fun z => hz (decide_eq_true (by rw [z]))
          omega
        refine ⟨_, rfl, _, rfl, (by show 2 ≤ sizeLine; decide), fun l hl => ?_⟩
        refine ⟨_, rfl, p, c, n + 1, 3, rfl, S1.new hl, by omega, by decide, fit9 (by unfold Fit; decide), fun r2 H2 h20 h21 S2 x2 => ?_⟩
        obtain ⟨v, ev, hv⟩ := pick2v (a := 12) (b := 60) (r := r2 / 2) (by omega) (by omega)
        refine ⟨_, _, rfl, rfl, ⟨by decide, by decide⟩, l, _, _, _, rfl, rfl, SqL.of (x2 l _ upd_same (S1.not hl)), ev, ?_⟩
        have x12 : SameX (AtS p c) H H2 := x1.trans ((SameX.new hl).trans x2)
        have hmn : 1 ≤ (if v < rm then v else rm) ∧ (if v < rm then v else rm) ≤ rm ∧ (if v < rm then v else rm) ≤ 60 := by split <;> omega
        refine ⟨_, _, rfl, p, c, n + 1 + 1, _, rfl, S2, by omega, (by have := hmn.1; omega), fit9 (fit_of_lt (by have := hmn.1; omega) (by have := hmn.2.2; omega)), fun r3 H3 h30 h31 S3 x3 => ?_⟩
        generalize (if v < rm then v else rm) = mn at *
        obtain ⟨hm1, hm2, hm3⟩ := hmn
        refine ⟨_, _, rfl, rfl, ?_⟩
        have hms : 1 ≤ 1 + r3 ∧ 1 + r3 ≤ rm ∧ 1 + r3 ≤ 60 := by omega
        have x13 : SameX (AtS p c) H H3 := x12.trans x3
        clear x12 x3 x2 ev
        refine ⟨_, rfl, _, _, rfl, rfl, _, rfl, ?_⟩
        refine ite2 (fun _ => ?_) (fun _ => ?_)
        · -- of
          refine ⟨_, rfl, _, rfl, (1 + r3), 60, rfl, by decide, fit9 (fit_of_lt (by omega) (by omega)), fit9 (by unfold Fit; decide), fun q hq => ⟨(by show 3 ≤ sizeLine; decide), fun q3 hq3 => ⟨_, rfl, (by show 2 ≤ sizeLine; decide), fun t ht => ?_⟩⟩⟩
          have S4 := S3.new (o := .tup [.int (fr (1 + r3) 60).1, .int (fr (1 + r3) 60).2]) hq
          have e4 : upd H3 q (.tup [.int (fr (1 + r3) 60).1, .int (fr (1 + r3) 60).2]) q = some (.tup [.int (fr (1 + r3) 60).1, .int (fr (1 + r3) 60).2]) := upd_same
          have k4 : SameX (AtS p c) H3 (upd H3 q (.tup [.int (fr (1 + r3) 60).1, .int (fr (1 + r3) 60).2])) := SameX.new hq
          have nq := fresh x13 S3 hq
          generalize upd H3 q (.tup [.int (fr (1 + r3) 60).1, .int (fr (1 + r3) 60).2]) = H4 at *
          have S5 := S4.new (o := .tup [.str "of", .str nm, .ref q]) hq3
          have e5 : upd H4 q3 (.tup [.str "of", .str nm, .ref q]) q3 = some (.tup [.str "of", .str nm, .ref q]) := upd_same
          have e52 : upd H4 q3 (.tup [.str "of", .str nm, .ref q]) q = some (.tup [.int (fr (1 + r3) 60).1, .int (fr (1 + r3) 60).2]) := by rw [upd_ne (ne_of_none e4 hq3)]; exact e4
          have k5 : SameX (AtS p c) H4 (upd H4 q3 (.tup [.str "of", .str nm, .ref q])) := SameX.new hq3
          have nq3 := fresh (x13.trans k4) S4 hq3
          generalize upd H4 q3 (.tup [.str "of", .str nm, .ref q]) = H5 at *
          refine k t q3 (.of nm (fr (1 + r3) 60)) (1 + r3) _ upd_same (S5.not ht) (rep_tup3 (by rw [upd_ne (ne_of_none e5 ht)]; exact e5) nq3 (rep_of_D2 nq (SqT.of (by rw [upd_ne (ne_of_none e52 ht)]; exact e52)))) ⟨hnm, fr_part hms.1 (by omega) (by decide)⟩ (le60_fr (Int.le_refl _)) (by omega) hms.2.1 ((S5.new ht).mono (by omega)) ?_
          exact ((x13.trans k4).trans k5).trans (SameX.new ht)
        · -- steps
          refine ⟨(by show 0 ≤ sizeLine; decide), fun D hD => ?_⟩
          have nD := S3.not hD
          have S4 := S3.new (o := .lst []) hD
          have e4 : upd H3 D (.lst []) D = some (.lst []) := upd_same
          have k4 : SameX (AtS p c) H3 (upd H3 D (.lst [])) := SameX.new hD
          have hDH : H D = none := by
            cases z : H D with
            | none => rfl
            | some o => rw [x13 _ _ z nD] at hD; cases hD
          generalize upd H3 D (.lst []) = H4 at *
          have x14 : SameX (AtS p c) H H4 := x13.trans k4
          clear k4 x13 hD
          refine ⟨_, rfl, p, c, n + 1 + 1 + 1, 3, rfl, S4, by omega, by decide, fit9 (by unfold Fit; decide), fun r4 H5 h40 h41 S5 x5 => ?_⟩
          have e5 : H5 D = some (.lst []) := x5 _ _ e4 nD
          have x15 : SameX (AtS p c) H H5 := x14.trans x5
          clear x14 x5 e4 S4
          obtain ⟨m4, rfl⟩ := Int.eq_ofNat_of_zero_le h40
          refine ⟨_, _, rfl, rfl, 1 + (m4 : Int), rfl, by omega, by omega, for_range (n := (1 + (m4 : Int)).toNat) (fun i σ H' => ∃ (rs : List (Int × (Int × Int))) (ys : List V) (u : Int) (v7 : Option V), σ = [some (.ref p), some (.str nm), some (.int rm), some (.int way), some (.int (1 + r3)), some (.ref D), some (.int u), v7] ∧ H' D = some (.lst ys) ∧ rs.length = i ∧ 0 ≤ u ∧ u ≤ 100000 * i ∧ (∀ r ∈ rs, r.1 ≤ u ∧ PartOk r.2 ∧ le60 r.2 (1 + r3)) ∧ Rising 0 rs ∧ RepL K (fun b => (AtS p c b ∨ H b ≠ none) ∨ b = D) H' (rs.map rateD) ys ∧ StAt H' p c (n + 4 + 3 * i) ∧ SameX (AtS p c) H H') ⟨[], [], 0, none, rfl, e5, rfl, by decide, by decide, (fun _ h => nomatch h), ⟨List.Pairwise.nil, (fun _ h => nomatch h)⟩, by show RepL K _ _ [] []; unfold RepL; rfl, S5.mono (by omega), x15⟩ ?_ ?_⟩
          · clear e5 S5 x15
            rintro i σ H6 hi ⟨rs, ys, u, v7, rfl, eD, hrl, hu0, hu1, hrs, hri, hrep, S6, x6⟩
            have hi3 : i < 3 := by omega
            -- upto
            refine ⟨_, rfl, _, _, rfl, rfl, _, rfl, (by show 2 ≤ sizeLine; decide), fun l2 hl2 => ?_⟩
            have S7 := S6.new (o := .lst [.int 3, .int 9]) hl2
            refine ⟨_, rfl, p, c, _, 2, rfl, S7, by omega, by decide, fit9 (by unfold Fit; decide), fun r6 H7 h60 h61 S8 x7 => ?_⟩
            obtain ⟨v2, ev2, hv2⟩ := pick2v (a := 3) (b := 9) h60 h61
            refine ⟨l2, _, r6, _, rfl, rfl, SqL.of (x7 l2 _ upd_same (S6.not hl2)), ev2, ?_⟩
            refine ⟨p, c, _, v2, rfl, S8, by omega, by omega, fit9 (fit_of_lt (by omega) (by omega)), fun r7 H8 h70 h71 S9 x8 => ?_⟩
            refine ⟨_, _, rfl, rfl, ?_⟩
            have n2 := S6.not hl2
            have eD7 : H7 D = some (.lst ys) := x7 _ _ (by rw [upd_ne (ne_of_none eD hl2)]; exact eD) nD
            have eD8 : H8 D = some (.lst ys) := x8 _ _ eD7 nD
            have x68 : SameX (AtS p c) H6 H8 := ((SameX.new hl2).trans x7).trans x8
            clear x7 x8 S7 S8 eD7
            -- append
            refine ⟨_, rfl, .inl ⟨rfl, _, SqL.of eD8⟩, _, rfl, _, rfl, _, rfl, p, c, _, 1 + r3, rfl, S9, by omega, by omega, fit9 (fit_of_lt (by omega) (by omega)), fun r8 H9 h80 h81 S10 x9 => ?_⟩
            refine ⟨_, _, rfl, rfl, 1 + r8, 60, rfl, by decide, fit9 (fit_of_lt (by omega) (by omega)), fit9 (by unfold Fit; decide), fun q hq => ⟨(by show 2 ≤ sizeLine; decide), fun t ht => ?_⟩⟩
            have eD9 : H9 D = some (.lst ys) := x9 _ _ eD8 nD
            have x69 : SameX (AtS p c) H6 H9 := x68.trans x9
            have nq := fresh (x6.trans x69) S10 hq
            have qD : q ≠ D := (ne_of_none eD9 hq).symm
            have SA := S10.new (o := .tup [.int (fr (1 + r8) 60).1, .int (fr (1 + r8) 60).2]) hq
            have eq : upd H9 q (.tup [.int (fr (1 + r8) 60).1, .int (fr (1 + r8) 60).2]) q = some (.tup [.int (fr (1 + r8) 60).1, .int (fr (1 + r8) 60).2]) := upd_same
            have eDA : upd H9 q (.tup [.int (fr (1 + r8) 60).1, .int (fr (1 + r8) 60).2]) D = some (.lst ys) := by rw [upd_ne (ne_of_none eD9 hq)]; exact eD9
            have x6A : SameX (AtS p c) H6 (upd H9 q (.tup [.int (fr (1 + r8) 60).1, .int (fr (1 + r8) 60).2])) := x69.trans (SameX.new hq)
            generalize upd H9 q (.tup [.int (fr (1 + r8) 60).1, .int (fr (1 + r8) 60).2]) = HA at *
            have nt := fresh (x6.trans x6A) SA ht
            have tD : t ≠ D := (ne_of_none eDA ht).symm
            have SB := SA.new (o := .tup [.int (u + 1 + r7), .ref q]) ht
            have et : upd HA t (.tup [.int (u + 1 + r7), .ref q]) t = some (.tup [.int (u + 1 + r7), .ref q]) := upd_same
            have eqB : upd HA t (.tup [.int (u + 1 + r7), .ref q]) q = some (.tup [.int (fr (1 + r8) 60).1, .int (fr (1 + r8) 60).2]) := by rw [upd_ne (ne_of_none eq ht)]; exact eq
            have eDB : upd HA t (.tup [.int (u + 1 + r7), .ref q]) D = some (.lst ys) := by rw [upd_ne (ne_of_none eDA ht)]; exact eDA
            have x6B : SameX (AtS p c) H6 (upd HA t (.tup [.int (u + 1 + r7), .ref q])) := x6A.trans (SameX.new ht)
            generalize upd HA t (.tup [.int (u + 1 + r7), .ref q]) = HB at *
            have hyl : ys.length = i := by rw [← hrep.length, List.length_map]; exact hrl
            refine ⟨D, ys, _, rfl, rfl, eDB, (by rw [hyl]; exact small1000 (by omega)), ?_⟩
            have sxD : SameX (fun b => (AtS p c b ∨ H b ≠ none) ∨ b = D) H6 (upd HB D (.lst (ys ++ [.ref t]))) := (x6B.weak fun b h => .inl (.inl h)).trans (SameX.at (.inr rfl))
            refine ⟨rs ++ [(u + 1 + r7, fr (1 + r8) 60)], ys ++ [.ref t], u + 1 + r7, _, rfl, upd_same, by rw [List.length_append, hrl]; rfl, by omega, by omega, ?_, ?_, ?_, ?_, ?_⟩
            · intro r hr
              rcases List.mem_append.mp hr with h | h
              · obtain ⟨z1, z2, z3⟩ := hrs r h
                exact ⟨by omega, z2, z3⟩
              · rw [List.mem_singleton.mp h]
                exact ⟨Int.le_refl _, fr_part (by omega) (by omega) (by decide), le60_fr (by omega)⟩
            · refine ⟨List.pairwise_append.mpr ⟨hri.ex.1, List.pairwise_singleton _ _, fun r hr y hy => ?_⟩, fun r hr => ?_⟩
              · rw [List.mem_singleton.mp hy]
                have := (hrs r hr).1
                show r.1 < u + 1 + r7
                omega
              · rcases List.mem_append.mp hr with h | h
                · exact hri.ex.2 r h
                · rw [List.mem_singleton.mp h]
                  show 0 < u + 1 + r7 ∧ u + 1 + r7 ≤ 1000000
                  omega
            · rw [List.map_append]
              refine RepL.snoc (hrep.same sxD) ?_
              refine rep_pair (by rw [upd_ne tD]; exact et) (fun z => z.elim nt tD) rep_int (rep_of_D2 (fun z => z.elim nq qD) (SqT.of (by rw [upd_ne qD]; exact eqB)))
            · obtain ⟨tt, ns', g1, g2, g3, g4, g5, g6⟩ := SB.ex
              have m1 : p ≠ D := fun z => nD (.inl z.symm)
              have m2 : c ≠ D := fun z => nD (.inr z.symm)
              exact ⟨tt, ns', by rw [upd_ne m1]; exact g1, by rw [upd_ne m2]; exact g2, g3, g4, g5, by omega⟩
            · intro b o e nb
              have e1 := x6B _ _ (x6 b o e nb) nb
              rw [upd_ne (ne_of_none e hDH)]
              exact e1
          · clear e5 S5 x15
            rintro σ H6 ⟨rs, ys, u, v7, rfl, eD, hrl, hu0, hu1, hrs, hri, hrep, S6, x6⟩
            refine ⟨_, rfl, .inl ⟨rfl, _, SqL.of eD⟩, _, rfl, _, rfl, p, c, _, 1 + r3, rfl, S6, by omega, by omega, fit9 (fit_of_lt (by omega) (by omega)), fun r8 H9 h80 h81 S10 x9 => ?_⟩
            refine ⟨_, _, rfl, rfl, 1 + r8, 60, rfl, by decide, fit9 (fit_of_lt (by omega) (by omega)), fit9 (by unfold Fit; decide), fun q hq => ⟨(by show 2 ≤ sizeLine; decide), fun t ht => ?_⟩⟩
            have eD9 : H9 D = some (.lst ys) := x9 _ _ eD nD
            have nq := fresh (x6.trans x9) S10 hq
            have qD : q ≠ D := (ne_of_none eD9 hq).symm
            have SA := S10.new (o := .tup [.int (fr (1 + r8) 60).1, .int (fr (1 + r8) 60).2]) hq
            have eq : upd H9 q (.tup [.int (fr (1 + r8) 60).1, .int (fr (1 + r8) 60).2]) q = some (.tup [.int (fr (1 + r8) 60).1, .int (fr (1 + r8) 60).2]) := upd_same
            have eDA : upd H9 q (.tup [.int (fr (1 + r8) 60).1, .int (fr (1 + r8) 60).2]) D = some (.lst ys) := by rw [upd_ne (ne_of_none eD9 hq)]; exact eD9
            have x6A : SameX (AtS p c) H6 (upd H9 q (.tup [.int (fr (1 + r8) 60).1, .int (fr (1 + r8) 60).2])) := x9.trans (SameX.new hq)
            generalize upd H9 q (.tup [.int (fr (1 + r8) 60).1, .int (fr (1 + r8) 60).2]) = HA at *
            have nt := fresh (x6.trans x6A) SA ht
            have tD : t ≠ D := (ne_of_none eDA ht).symm
            have SB := SA.new (o := .tup [.non, .ref q]) ht
            have et : upd HA t (.tup [.non, .ref q]) t = some (.tup [.non, .ref q]) := upd_same
            have eqB : upd HA t (.tup [.non, .ref q]) q = some (.tup [.int (fr (1 + r8) 60).1, .int (fr (1 + r8) 60).2]) := by rw [upd_ne (ne_of_none eq ht)]; exact eq
            have eDB : upd HA t (.tup [.non, .ref q]) D = some (.lst ys) := by rw [upd_ne (ne_of_none eDA ht)]; exact eDA
            have x6B : SameX (AtS p c) H6 (upd HA t (.tup [.non, .ref q])) := x6A.trans (SameX.new ht)
            generalize upd HA t (.tup [.non, .ref q]) = HB at *
            have hyl : ys.length = rs.length := by rw [← hrep.length, List.length_map]
            have hr3 : 1 ≤ rs.length ∧ rs.length ≤ 3 := by rw [hrl]; omega
            refine ⟨D, ys, _, rfl, rfl, eDB, (by rw [hyl]; exact small1000 (by omega)), ?_⟩
            have sxD : SameX (fun b => (AtS p c b ∨ H b ≠ none) ∨ b = D) H6 (upd HB D (.lst (ys ++ [.ref t]))) := (x6B.weak fun b h => .inl (.inl h)).trans (SameX.at (.inr rfl))
            have hrepC : RepL K (fun b => (AtS p c b ∨ H b ≠ none) ∨ b = D) (upd HB D (.lst (ys ++ [.ref t]))) (rs.map rateD ++ [.tup [.non, D2 (fr (1 + r8) 60)]]) (ys ++ [.ref t]) := by
              refine RepL.snoc (hrep.same sxD) ?_
              exact rep_pair (by rw [upd_ne tD]; exact et) (fun z => z.elim nt tD) rep_non (rep_of_D2 (fun z => z.elim nq qD) (SqT.of (by rw [upd_ne qD]; exact eqB)))
            have SC : StAt (upd HB D (.lst (ys ++ [.ref t]))) p c (n + 14) := by
              obtain ⟨tt, ns', g1, g2, g3, g4, g5, g6⟩ := SB.ex
              have m1 : p ≠ D := fun z => nD (.inl z.symm)
              have m2 : c ≠ D := fun z => nD (.inr z.symm)
              exact ⟨tt, ns', by rw [upd_ne m1]; exact g1, by rw [upd_ne m2]; exact g2, g3, g4, g5, by omega⟩
            have xC : SameX (AtS p c) H (upd HB D (.lst (ys ++ [.ref t]))) := fun b o e nb => by
              have e1 := x6B _ _ (x6 b o e nb) nb
              rw [upd_ne (ne_of_none e hDH)]
              exact e1
            have eC : upd HB D (.lst (ys ++ [.ref t])) D = some (.lst (ys ++ [.ref t])) := upd_same
            have hrepC' := hrepC.wk (N' := fun b => AtS p c b ∨ H b ≠ none) fun b h => .inl h
            generalize upd HB D (.lst (ys ++ [.ref t])) = HC at *
            -- the row
            refine ⟨_, rfl, _, rfl, D, _, rfl, .inl ⟨SqL.of eC, fun tu htu => ?_⟩⟩
            refine ⟨(by show 3 ≤ sizeLine; decide), fun q3 hq3 => ⟨_, rfl, (by show 2 ≤ sizeLine; decide), fun t4 ht4 => ?_⟩⟩
            have ntu := fresh xC SC htu
            have SD := SC.new (o := .tup (ys ++ [.ref t])) htu
            have eTU : upd HC tu (.tup (ys ++ [.ref t])) tu = some (.tup (ys ++ [.ref t])) := upd_same
            have kD : SameX (AtS p c) HC (upd HC tu (.tup (ys ++ [.ref t]))) := SameX.new htu
            generalize upd HC tu (.tup (ys ++ [.ref t])) = HD at *
            have nq3 := fresh (xC.trans kD) SD hq3
            have SE := SD.new (o := .tup [.str "steps", .str nm, .ref tu]) hq3
            have eQ3 : upd HD q3 (.tup [.str "steps", .str nm, .ref tu]) q3 = some (.tup [.str "steps", .str nm, .ref tu]) := upd_same
            have eTU2 : upd HD q3 (.tup [.str "steps", .str nm, .ref tu]) tu = some (.tup (ys ++ [.ref t])) := by rw [upd_ne (ne_of_none eTU hq3)]; exact eTU
            have kE : SameX (AtS p c) HD (upd HD q3 (.tup [.str "steps", .str nm, .ref tu])) := SameX.new hq3
            generalize upd HD q3 (.tup [.str "steps", .str nm, .ref tu]) = HE at *
            have kF : SameX (AtS p c) HE (upd HE t4 (.tup [.ref q3, .int (1 + r3)])) := SameX.new ht4
            have rT : Rep K (fun b => AtS p c b ∨ H b ≠ none) (upd HE t4 (.tup [.ref q3, .int (1 + r3)])) (.tup (rs.map rateD ++ [.tup [.non, D2 (fr (1 + r8) 60)]])) (.ref tu) := by
              unfold Rep
              exact ⟨tu, _, rfl, ntu, SqT.of (kF _ _ eTU2 (fun z => ntu (.inl z))), hrepC'.same (((kD.trans kE).trans kF).weak fun b h => .inl h)⟩
            refine k t4 q3 (.steps nm rs (fr (1 + r8) 60)) (1 + r3) _ upd_same (SE.not ht4) (rep_tup3 (kF _ _ eQ3 (fun z => nq3 (.inl z))) nq3 rT) ⟨hnm, hr3.1, hr3.2, fun r hr => (hrs r hr).2.1, fr_part (by omega) (by omega) (by decide), hri⟩ ⟨fun r hr => (hrs r hr).2.2, le60_fr (by omega)⟩ (by omega) (by omega) ((SE.new ht4).mono (by omega)) ?_
            exact ((xC.trans kD).trans kE).trans kF
end
end Ro

set_option Elab.async false
set_option linter.all false
set_option maxRecDepth 100000
set_option maxHeartbeats 4000000
namespace Ro
open PySem L2
section
variable {P : Program} {w : World} {K : PySem.W.Frag} {mg : Str → Option Value} {base : Heap}
theorem RepL.strs {N : Addr → Prop} {H : Hp} : ∀ {bs : List Str}, RepL K N H (bs.map Dt.str) (bs.map V.str)
  | [] => by unfold RepL; rfl
  | b :: r => by unfold RepL; exact ⟨_, _, rfl, by unfold Rep; rfl, RepL.strs⟩
theorem dep_strs : ∀ {bs : List Str}, depL (bs.map Dt.str) = 0
  | [] => rfl
  | b :: r => by show max (Dt.dep (.str b)) (depL (r.map Dt.str)) = 0; rw [dep_strs]; rfl
theorem scRows : FnScope ["_law_state", "_law_names_here", "_law_many", "_law_room", "_law_found", "_law_turn", "_law_row_here", "_law_taken"] ["_law_state", "_law_names_here", "_law_many"] (defScope sRows) := ⟨rfl, rfl, rfl, by decide +kernel, rfl, by decide +kernel, by decide +kernel⟩
theorem ok_rows {f g gr : Addr} {fd gd dr : FuncData} (F : Fun K "_law_rows" "_law_rows" sRows f fd) (G : FnOk P w K mg base CX0 1 g gd ["_law_state", "_law_many"] spTake) (bG : Binds K gd ["_law_state", "_law_many"] []) (mG : mg "_law_take" = some (.ref g)) (kG : PySem.W.keepIn K (.ref g) = true)
    (GR : FnOk P w K mg base CX0 3 gr dr ["_law_state", "_law_name", "_law_room"] (spRow K)) (bR : Binds K dr ["_law_state", "_law_name", "_law_room"] []) (mR : mg "_law_row" = some (.ref gr)) (kR : PySem.W.keepIn K (.ref gr) = true)
    (z0 : mg "range" = none) (z1 : mg "len" = none) (z2 : mg "tuple" = none) (z3 : mg "int" = none) : FnOk P w K mg base CX0 4 f fd ["_law_state", "_law_names_here", "_law_many"] (spRows K) := by
  refine F.ok scRows (fun vs H Q E h => ?_) (fun cdv A outer s H vs Q E hr h => ?_)
  · obtain ⟨p, c, l, n, nms, m, rfl, _⟩ := h
    rfl
  · obtain ⟨p, c, l, n, nms, m, rfl, S, hn, el, nl, hl1, hl2, hnm, hm, k⟩ := h
    have hr1 : Room 1 _ := hr.mono (by decide)
    have hu30 : (cxOf CX0 P w K mg base ["_law_state", "_law_names_here", "_law_many", "_law_room", "_law_found", "_law_turn", "_law_row_here", "_law_taken"] "_law_rows" (defScope sRows) f cdv A outer s H E).nox.A.units + 30 < cLine := Nat.lt_of_le_of_lt (Nat.add_le_add_left (by decide : 30 ≤ 64) _) hr.units
    refine ⟨_, pss_cons (ps_set (i := 3) scRows.nd rfl (Or.inl rfl) pe_int)
      (pss_cons (ps_set (i := 4) scRows.nd rfl (Or.inl rfl) (pe_lst pa_nil))
      (pss_cons (ps_for PassesOwn.never rfl (pi_range1 rfl z0 (pa_cons (pe_op op_mulG (pv 2) (pe_callTy call_int1 (by rfl) z3 boot_int (pa_cons (pe_cmpR (op_neD hu30) (pv 1) (pe_lst pa_nil) (nomark _)) pa_nil))) pa_nil)) (pg_name (i := 5) scRows.nd rfl (Or.inl rfl))
        (pss_cons (ps_asg (pe_call GR hr rfl mR kR bR .nil pass0 (pa_cons (pv 0) (pa_cons (pe_ix ix_list (pv 1) (pe_call G hr1 rfl mG kG bG .nil pass0 (pa_cons (pv 0) (pa_cons (pe_callB call_len_seq (by rfl) z1 PySem.boot_len (pa_cons (pv 1) pa_nil)) pa_nil))) (fun _ _ => rfl)) (pa_cons (pv 3) pa_nil)))) (pg_tup (n := 2) rfl (pgs_cons (pg_name (i := 6) scRows.nd rfl (Or.inl rfl)) (pgs_cons (pg_name (i := 7) scRows.nd rfl (Or.inl rfl)) pgs_nil))))
        (pss_cons (ps_set (i := 3) scRows.nd rfl (Or.inl rfl) (pe_op op_sub (pv 3) (pv 7)))
        (pss_one (ps_if (PW.pt (pw_or (pt_cmpR op_ne (pe_ix ix_tup (pv 6) pe_int (fun _ _ => rfl)) pe_str (nomark _))
            (pw_or1 (pt_cmpR op_lt (pe_bm PySem.F.plainAttrs_list PySem.F.slot_list_count PySem.F.type_list_count mt_count (pe_comp [("_law_one", none)] (CompScope.of rfl (by decide +kernel) (by decide +kernel) (by decide +kernel) trivial) rfl (pi_list (pv 4)) (fun _ _ _ _ _ => pg_name (i := 0) (by show List.Nodup [("_law_one" : Str)]; decide +kernel) rfl (Or.inl rfl)) (fun _ _ _ _ _ => pif_nil) (fun _ _ _ _ _ => pe_ix (ix_tupK (K := K) rfl) (pv 0) pe_int (fun _ _ => rfl))) (pa_cons pe_str pa_nil)) pe_int (nomark _)))))
          (pss_one (ps_expr (pe_bm PySem.F.plainAttrs_list PySem.F.slot_list_append PySem.F.type_list_append mt_append (pv 4) (pa_cons (pv 6) pa_nil)))) pss_nil)))))
      (pss_one (ps_ret (pe_callTy call_tuple_of (by rfl) z2 boot_tuple (pa_cons (pv 4) pa_nil)))))), ?_⟩
    refine ⟨(by show 0 ≤ sizeLine; decide), fun D hD => ?_⟩
    have nD := S.not hD
    have hDH : H D = none := hD
    have S1 := S.new (o := .lst []) hD
    have x1 : SameX (AtS p c) H (upd H D (.lst [])) := SameX.new hD
    have eD1 : upd H D (.lst []) D = some (.lst []) := upd_same
    have el1 : upd H D (.lst []) l = some (.lst (nms.map V.str)) := by rw [upd_ne (ne_of_none el hD)]; exact el
    generalize upd H D (.lst []) = H1 at *
    refine ⟨_, rfl, _, rfl, (by show 0 ≤ sizeLine; decide), fun l0 hl0 => ?_⟩
    have S2 := S1.new (o := .lst []) hl0
    have x2 : SameX (AtS p c) H (upd H1 l0 (.lst [])) := x1.trans (SameX.new hl0)
    have eD2 : upd H1 l0 (.lst []) D = some (.lst []) := by rw [upd_ne (ne_of_none eD1 hl0)]; exact eD1
    have el2 : upd H1 l0 (.lst []) l = some (.lst (nms.map V.str)) := by rw [upd_ne (ne_of_none el1 hl0)]; exact el1
    have e0 : upd H1 l0 (.lst []) l0 = some (.lst []) := upd_same
    generalize upd H1 l0 (.lst []) = H2 at *
    have hk0 : (!eqDL (nms.map Dt.str) []) = true := by rw [eqDL_len (by rw [List.length_map]; show nms.length ≠ 0; omega)]; rfl
    refine ⟨NoA, NoA, nms.map Dt.str, [], false, ⟨?_, ?_⟩, (by rw [dep_strs]; decide), ?_⟩
    · show Rep K NoA H2 (.lst _) (.ref l)
      unfold Rep
      exact ⟨l, _, rfl, fun z => z, SqL.of el2, RepL.strs⟩
    · show Rep K NoA H2 (.lst []) (.ref l0)
      unfold Rep
      exact ⟨l0, _, rfl, fun z => z, SqL.of e0, by unfold RepL; rfl⟩
    refine .inr ⟨true, congrArg (fun b => [V.bl b]) hk0, ?_⟩
    refine ⟨_, _, rfl, rfl, ⟨(fit_of_lt (n := 64) (by omega) (by omega)).mono (by decide), (show Fit 1 1 by unfold Fit; decide).mono (by decide)⟩, (m : Int), congrArg (fun z => [V.int z]) (Int.mul_one _), by omega, by omega, ?_⟩
    refine for_range (n := (m : Int).toNat) (fun i σ H' => ∃ (rms : Rms) (ys : List V) (room : Int) (v5 v6 v7 : Option V), σ = [some (.ref p), some (.ref l), some (.int (m : Int)), some (.int room), some (.ref D), v5, v6, v7] ∧ H' D = some (.lst ys) ∧ rms.length ≤ i ∧ 0 ≤ room ∧ room ≤ 60 ∧ (∀ x ∈ rms, x.1.ok ∧ x.1.takes x.2 ∧ 0 ≤ x.2) ∧ (rms.map (·.2)).sum ≤ 60 - room ∧ (rms.filter (·.1.isLeft)).length ≤ 3 ∧ RepL K (fun b => (AtS p c b ∨ H b ≠ none) ∨ b = D) H' (rowsD rms) ys ∧ StAt H' p c (n + 24 * i) ∧ SameX (AtS p c) H H')
      ⟨[], [], 60, none, none, none, rfl, eD2, Nat.le_refl _, by decide, by decide, (fun _ h => nomatch h), by decide, by decide, by show RepL K _ _ [] []; unfold RepL; rfl, S2.mono (by omega), x2⟩ ?_ ?_
    · clear S2 x2 eD2 el2 e0 S1 x1 eD1 el1 hl0 hD
      rintro i σ H6 hi ⟨rms, ys, room, v5, v6, v7, rfl, eD, hrl, hr0, hr1', hea, hsum, hle, hrep, S6, x6⟩
      have hi8 : i < 8 := by omega
      have el6 : H6 l = some (.lst (nms.map V.str)) := x6 _ _ el nl
      refine ⟨_, rfl, _, rfl, _, rfl, _, rfl, l, _, rfl, .inl (SqL.of el6), p, c, _, _, rfl, S6, by omega, (by rw [List.length_map]; omega), (by rw [List.length_map]; exact fit9 (fit_of_lt (by omega) (by omega))), fun r1 H7 h10 h11 S7 x7 => ?_⟩
      rw [List.length_map] at h11
      obtain ⟨k1, rfl⟩ := Int.eq_ofNat_of_zero_le h10
      have hrn : k1 < nms.length := by omega
      have hat : atI (nms.map V.str) (k1 : Int) = some (.str nms[k1]) := atI_nat (by rw [List.getElem?_map, List.getElem?_eq_getElem hrn]; rfl)
      refine ⟨l, _, (k1 : Int), _, rfl, rfl, SqL.of (x7 _ _ el6 nl), hat, _, rfl, p, c, _, _, room, rfl, S7, by omega, hnm _ (List.getElem_mem hrn), hr0, hr1', fun t q rw m2 H9 et nt hq hok htk hm0 hm1 S9 x79 => ?_⟩
      refine ⟨t, _, rfl, SqT.of et, rfl, _, _, rfl, _, _, rfl, rfl, ?_⟩
      have x69 : SameX (AtS p c) H6 H9 := x7.trans x79
      have eD9 : H9 D = some (.lst ys) := x69 _ _ eD nD
      have x9 : SameX (AtS p c) H H9 := x6.trans x69
      have hyl : ys.length = rms.length := by rw [← hrep.length]; show (List.map _ rms).length = _; rw [List.length_map]
      have hrep9 := hrep.same (x69.weak fun b h => .inl (.inl h))
      have hq9 : Rep K (fun b => (AtS p c b ∨ H b ≠ none) ∨ b = D) H9 rw.toD (.ref q) := hq.wk fun b h => by
        rcases h with (h | h) | h
        · exact .inl h
        · refine .inr fun z => ?_
          by_cases ha : AtS p c b
          · exact (S7.not z) ha
          · cases e : H b with
            | none => exact h e
            | some o => rw [x7 b o (x6 b o e ha) ha] at z; cases z
        · refine .inr fun z => ?_
          rw [h, x7 _ _ eD nD] at z
          cases z
      refine ⟨_, rfl, _, rfl, _, _, rfl, rfl, ?_⟩
      obtain ⟨q', nmq, xq, eqq, nqq, sqq⟩ := rep_row hq9
      cases eqq
      refine ⟨_, rfl, q, _, _, _, rfl, rfl, sqq, rfl, rfl, _, rfl, ?_⟩
      refine ite2 (fun hne => ?_) (fun hne => ?_)
      · have hk : ¬ rw.kind = "left" := fun z => by
          rw [z] at hne
          rw [decide_eq_true rfl] at hne
          cases hne
        refine iteT ?_
        refine ⟨_, rfl, .inl ⟨rfl, _, SqL.of eD9⟩, _, rfl, D, ys, _, rfl, rfl, eD9, (by rw [hyl]; exact small1000 (by omega)), ?_⟩
        have sxD : SameX (fun b => (AtS p c b ∨ H b ≠ none) ∨ b = D) H9 (upd H9 D (.lst (ys ++ [.ref q]))) := SameX.at (.inr rfl)
        refine ⟨rms ++ [(rw, m2)], ys ++ [.ref q], room - m2, _, _, _, rfl, upd_same, (by rw [List.length_append]; show rms.length + 1 ≤ i + 1; omega), by omega, by omega, ?_, ?_, ?_, ?_, ?_, ?_⟩
        · intro x hx
          rcases List.mem_append.mp hx with h | h
          · exact hea x h
          · rw [List.mem_singleton.mp h]; exact ⟨hok, htk, hm0⟩
        · rw [List.map_append, List.sum_append]
          show _ + (m2 + 0) ≤ _
          omega
        · rw [List.filter_append, List.length_append]
          rw [show List.filter (fun x : Rw × Int => x.1.isLeft) [(rw, m2)] = [] from by rw [List.filter_cons_of_neg (by show ¬ rw.isLeft = true; rw [← kind_left, decide_eq_false hk]; decide)]; rfl]; exact hle
        · show RepL K _ _ (List.map _ (rms ++ [(rw, m2)])) _
          rw [List.map_append]
          exact RepL.snoc (hrep9.same sxD) (hq9.same sxD)
        · obtain ⟨tt, ns', g1, g2, g3, g4, g5, g6⟩ := S9.ex
          have m1 : p ≠ D := fun z => nD (.inl z.symm)
          have m2' : c ≠ D := fun z => nD (.inr z.symm)
          exact ⟨tt, ns', by rw [upd_ne m1]; exact g1, by rw [upd_ne m2']; exact g2, g3, g4, g5, by omega⟩
        · intro b o e nb
          rw [upd_ne (ne_of_none e hDH)]
          exact x9 b o e nb
      · refine ⟨_, rfl, D, rfl, ⟨_, SqL.of eD9⟩, ?_⟩
        refine comp_nm 0 (wk_list K D ys) (fun D2 j zs σ H' => (∃ v, σ = [v]) ∧ H' = upd H9 D2 (.lst zs) ∧ zs = (rms.take j).map fun x => V.str x.1.kind) ?_ ?_ ?_ ?_
        · intro D2 hD2
          exact ⟨⟨none, rfl⟩, rfl, rfl⟩
        · rintro D2 j zs σ H' hD2 ⟨_, rfl, _⟩
          exact SqL.of (by rw [upd_ne (ne_of_none eD9 hD2)]; exact eD9)
        · rintro D2 j x zs σ H' hD2 hx hj ⟨⟨v, rfl⟩, rfl, rfl⟩
          have hjr : j < rms.length := by rw [← hyl]; exact hj
          obtain ⟨x', ex, rx⟩ := hrep9.get (d := rms[j].1.toD) (by show (List.map _ rms)[j]? = _; rw [List.getElem?_map, List.getElem?_eq_getElem hjr]; rfl)
          rw [hx] at ex
          cases ex
          obtain ⟨qj, nj, xj, rfl, nqj, sj⟩ := rep_row rx
          refine ⟨_, rfl, qj, _, _, _, rfl, rfl, SameX.sqT (N := NoA) (fun b o e _ => by rw [upd_ne (ne_of_none e hD2)]; exact e) (fun z => z) sj, rfl, ?_⟩
          refine ⟨upd_same, (by rw [List.length_map, List.length_take]; exact small1000 (by omega)), CN.mk hj ⟨⟨_, rfl⟩, upd_upd, ?_⟩⟩
          rw [List.take_succ, List.getElem?_eq_getElem hjr, List.map_append]
          rfl
        · rintro D2 zs σ H' hD2 ⟨_, rfl, rfl⟩
          rw [hyl, List.take_length]
          have kC : ∀ b o, H9 b = some o → upd H9 D2 (.lst (rms.map fun x => V.str x.1.kind)) b = some o := fun b o e => by rw [upd_ne (ne_of_none e hD2)]; exact e
          have eC2 : upd H9 D2 (.lst (rms.map fun x => V.str x.1.kind)) D2 = some (.lst (rms.map fun x => V.str x.1.kind)) := upd_same
          generalize upd H9 D2 (.lst (rms.map fun x => V.str x.1.kind)) = HC at *
          refine ⟨.inl ⟨rfl, _, SqL.of eC2⟩, D2, _, _, rfl, rfl, eC2, rfl, (by rw [List.all_map]; exact List.all_eq_true.mpr fun _ _ => rfl), _, _, rfl, rfl, _, rfl, ?_⟩
          rw [count_left]
          have eDC := kC _ _ eD9
          have SC := S9.keep kC
          have xC : SameX (AtS p c) H HC := x9.trans fun b o e _ => kC b o e
          have hrepC := hrep9.same (fun b o e _ => kC b o e)
          have hqC := hq9.same (fun b o e _ => kC b o e)
          refine ite2 (fun hlt => ?_) (fun _ => ?_)
          · have hlt3 : (rms.filter (·.1.isLeft)).length < 3 := by have := of_decide_eq_true hlt; omega
            refine ⟨_, rfl, .inl ⟨rfl, _, SqL.of eDC⟩, _, rfl, D, ys, _, rfl, rfl, eDC, (by rw [hyl]; exact small1000 (by omega)), ?_⟩
            have sxD : SameX (fun b => (AtS p c b ∨ H b ≠ none) ∨ b = D) HC (upd HC D (.lst (ys ++ [.ref q]))) := SameX.at (.inr rfl)
            refine ⟨rms ++ [(rw, m2)], ys ++ [.ref q], room - m2, _, _, _, rfl, upd_same, (by rw [List.length_append]; show rms.length + 1 ≤ i + 1; omega), by omega, by omega, ?_, ?_, ?_, ?_, ?_, ?_⟩
            · intro x hx
              rcases List.mem_append.mp hx with h | h
              · exact hea x h
              · rw [List.mem_singleton.mp h]; exact ⟨hok, htk, hm0⟩
            · rw [List.map_append, List.sum_append]
              show _ + (m2 + 0) ≤ _
              omega
            · rw [List.filter_append, List.length_append]
              have : (List.filter (fun x : Rw × Int => x.1.isLeft) [(rw, m2)]).length ≤ 1 := List.length_filter_le _ _; omega
            · show RepL K _ _ (List.map _ (rms ++ [(rw, m2)])) _
              rw [List.map_append]
              exact RepL.snoc (hrepC.same sxD) (hqC.same sxD)
            · obtain ⟨tt, ns', g1, g2, g3, g4, g5, g6⟩ := SC.ex
              have m1 : p ≠ D := fun z => nD (.inl z.symm)
              have m2' : c ≠ D := fun z => nD (.inr z.symm)
              exact ⟨tt, ns', by rw [upd_ne m1]; exact g1, by rw [upd_ne m2']; exact g2, g3, g4, g5, by omega⟩
            · intro b o e nb
              rw [upd_ne (ne_of_none e hDH)]
              exact xC b o e nb
          · exact ⟨rms, ys, room - m2, _, _, _, rfl, eDC, by omega, by omega, by omega, hea, by omega, hle, hrepC, SC.mono (by omega), xC⟩
    · clear S2 x2 eD2 el2 e0 S1 x1 eD1 el1 hl0 hD
      rintro σ H6 ⟨rms, ys, room, v5, v6, v7, rfl, eD, hrl, hr0, hr1', hea, hsum, hle, hrep, S6, x6⟩
      refine ⟨_, rfl, D, _, rfl, .inl ⟨SqL.of eD, fun t ht => ?_⟩⟩
      refine k t rms _ ?_ ⟨hea, by omega, hle⟩ (by omega) ((S6.new ht).mono (by omega)) (x6.trans (SameX.new ht))
      unfold Rep
      refine ⟨t, _, rfl, fresh x6 S6 ht, SqT.of upd_same, ?_⟩
      exact (hrep.same (SameX.new ht)).wk fun b h => .inl h
end
end Ro

set_option Elab.async false
set_option linter.all false
set_option maxRecDepth 100000
set_option maxHeartbeats 4000000
namespace Ro
open PySem L2
section
variable {P : Program} {w : World} {K : PySem.W.Frag} {mg : Str → Option Value} {base : Heap}
/-- what is new behind Hk is new behind H -/
theorem newA {H Hk : Hp} {p c b : Addr} {m : Nat} (x : SameX (AtS p c) H Hk) (h : AtS p c b ∨ H b ≠ none) : AtS p c b ∨ Hk b ≠ none := by
  by_cases ha : AtS p c b
  · exact .inl ha
  · rcases h with h | h
    · exact absurd h ha
    · refine .inr fun z => ?_
      cases e : H b with
      | none => exact h e
      | some o => rw [x b o e ha] at z; cases z
def spSome (K : PySem.W.Frag) : Sp := fun vs H Q _ => ∃ (p c : Addr) (n : Nat), vs = [.ref p] ∧ StAt H p c n ∧ n < 600000000 ∧
  ∀ t rms H', Rep K (fun b => AtS p c b ∨ H b ≠ none) H' (.tup (rowsD rms)) (.ref t) → RowsOk rms → rms.length ≤ 8 → StAt H' p c (n + 300) → SameX (AtS p c) H H' → Q (.ref t) H'
theorem scSome : FnScope ["_law_state", "_law_many"] ["_law_state"] (defScope sSome) := ⟨rfl, rfl, rfl, by decide +kernel, rfl, by decide +kernel, by decide +kernel⟩
theorem ok_some {f g gn gr : Addr} {fd gd dn dr : FuncData} (F : Fun K "_law_some_rows" "_law_some_rows" sSome f fd) (G : FnOk P w K mg base CX0 1 g gd ["_law_state", "_law_many"] spTake) (bG : Binds K gd ["_law_state", "_law_many"] []) (mG : mg "_law_take" = some (.ref g)) (kG : PySem.W.keepIn K (.ref g) = true)
    (GN : FnOk P w K mg base CX0 2 gn dn ["_law_state", "_law_many"] spNames) (bN : Binds K dn ["_law_state", "_law_many"] []) (mN : mg "_law_names" = some (.ref gn)) (kN : PySem.W.keepIn K (.ref gn) = true)
    (GR : FnOk P w K mg base CX0 4 gr dr ["_law_state", "_law_names_here", "_law_many"] (spRows K)) (bR : Binds K dr ["_law_state", "_law_names_here", "_law_many"] []) (mR : mg "_law_rows" = some (.ref gr)) (kR : PySem.W.keepIn K (.ref gr) = true)
    (z3 : mg "int" = none) : FnOk P w K mg base CX0 5 f fd ["_law_state"] (spSome K) := by
  refine F.ok scSome (fun vs H Q E h => ?_) (fun cdv A outer s H vs Q E hr h => ?_)
  · obtain ⟨p, c, n, rfl, _⟩ := h
    rfl
  · obtain ⟨p, c, n, rfl, S, hn, k⟩ := h
    have hr1 : Room 1 _ := hr.mono (by decide)
    have hr2 : Room 2 _ := hr.mono (by decide)
    refine ⟨_, pss_cons (ps_set (i := 1) scSome.nd rfl (Or.inl rfl) (pe_ix ix_list (pe_lst (pa_cons (pe_call G hr1 rfl mG kG bG .nil pass0 (pa_cons (pv 0) (pa_cons pe_int pa_nil))) (pa_cons (pe_call G hr1 rfl mG kG bG .nil pass0 (pa_cons (pv 0) (pa_cons pe_int pa_nil))) pa_nil))) (pe_callTy call_int1 (by rfl) z3 boot_int (pa_cons (pe_cmpR op_eq (pe_call G hr1 rfl mG kG bG .nil pass0 (pa_cons (pv 0) (pa_cons pe_int pa_nil))) pe_int (nomark _)) pa_nil)) (fun _ _ => rfl)))
      (pss_one (ps_ret (pe_call GR hr rfl mR kR bR .nil pass0 (pa_cons (pv 0) (pa_cons (pe_call GN hr2 rfl mN kN bN .nil pass0 (pa_cons (pv 0) (pa_cons (pe_op op_add pe_int (pe_call G hr1 rfl mG kG bG .nil pass0 (pa_cons (pv 0) (pa_cons pe_int pa_nil)))) pa_nil))) (pa_cons (pv 1) pa_nil)))))), ?_⟩
    refine ⟨_, rfl, p, c, n, 5, rfl, S, by omega, by decide, fit9 (by unfold Fit; decide), fun r1 H1 h10 h11 S1 x1 => ?_⟩
    refine ⟨_, rfl, p, c, n + 1, 9, rfl, S1, by omega, by decide, fit9 (by unfold Fit; decide), fun r2 H2 h20 h21 S2 x2 => ?_⟩
    refine ⟨(by show 2 ≤ sizeLine; decide), fun l hl => ?_⟩
    refine ⟨_, rfl, p, c, n + 1 + 1, 6, rfl, S2.new hl, by omega, by decide, fit9 (by unfold Fit; decide), fun r3 H3 h30 h31 S3 x3 => ?_⟩
    refine ⟨rfl, .inr ⟨_, rfl, ?_⟩⟩
    obtain ⟨m, em, hm⟩ : ∃ m : Nat, atI [V.int r1, V.int r2] (if decide (V.int r3 = V.int 0) = true then 1 else 0) = some (.int (m : Int)) ∧ m ≤ 8 := by
      by_cases q : decide (V.int r3 = V.int 0) = true
      · rw [if_pos q]; exact ⟨r2.toNat, by show some (V.int r2) = _; rw [Int.toNat_of_nonneg h20], by omega⟩
      · rw [if_neg q]; exact ⟨r1.toNat, by show some (V.int r1) = _; rw [Int.toNat_of_nonneg h10], by omega⟩
    refine ⟨l, _, _, _, rfl, rfl, SqL.of (x3 l _ upd_same (S2.not hl)), em, ?_⟩
    have x03 : SameX (AtS p c) H H3 := (x1.trans x2).trans ((SameX.new hl).trans x3)
    refine ⟨_, rfl, _, rfl, _, rfl, p, c, n + 1 + 1 + 1, 5, rfl, S3, by omega, by decide, fit9 (by unfold Fit; decide), fun r4 H4 h40 h41 S4 x4 => ?_⟩
    obtain ⟨m4, rfl⟩ := Int.eq_ofNat_of_zero_le h40
    refine ⟨_, _, rfl, rfl, p, c, n + 1 + 1 + 1 + 1, 1 + m4, congrArg (fun z => [V.ref p, V.int z]) (by omega), S4, by omega, by omega, fun ln nms H5 hln eln hnl hnm S5 x5 => ?_⟩
    refine ⟨_, rfl, p, c, ln, _, nms, m, rfl, S5, by omega, eln, S4.not hln, by omega, by omega, hnm, hm, fun t rms H6 rp ok hlen S6 x6 => ?_⟩
    have x05 : SameX (AtS p c) H H5 := (x03.trans x4).trans x5
    exact k t rms H6 (rp.wk fun b h => newA (m := 0) x05 h) ok (by omega) (S6.mono (by omega)) (x05.trans x6)
end
end Ro

set_option Elab.async false
set_option linter.all false
set_option maxRecDepth 100000
set_option maxHeartbeats 4000000
namespace Ro
open PySem L2
section
variable {P : Program} {w : World} {K : PySem.W.Frag} {mg : Str → Option Value} {base : Heap}
theorem scPlus : FnScope ["one", "other", "top", "below", "other_top", "other_below", "shared", "together", "divisor"] ["one", "other"] (defScope sPlus) := ⟨rfl, rfl, rfl, by decide +kernel, rfl, by decide +kernel, by decide +kernel⟩
abbrev spPlus (K : PySem.W.Frag) : Sp := spTwo K (fun a b c d => fr (a * d + c * b) (b * d)) (fun a b c d => 1 ≤ b ∧ 1 ≤ d ∧ Int.gcd a b = 1 ∧ Int.gcd c d = 1)
theorem ok_plus {f g : Addr} {fd gd : FuncData} (F : Fun K "plus" "plus" sPlus f fd) (G : FnOk P w K mg base CX0 1 g gd ["one", "other"] spGcd) (bG : Binds K gd ["one", "other"] []) (mG : mg "greatest_divisor" = some (.ref g)) (kG : PySem.W.keepIn K (.ref g) = true) :
    FnOk P w K mg base CX0 2 f fd ["one", "other"] (spPlus K) := by
  refine F.ok scPlus (fun vs H Q E h => ?_) (fun cdv A outer s H vs Q E hr h => ?_)
  · obtain ⟨p, q, a, b, c, d, rfl, _⟩ := h
    rfl
  · obtain ⟨p, q, a, b, c, d, rfl, hp, hq, ⟨hb, hd, h1, h2⟩, fa, fb, fc, fd', k⟩ := h
    refine ⟨_, pss_cons (ps_asg (pv 0) (pg_tup (n := 2) rfl (pgs_cons (pg_name (i := 2) scPlus.nd rfl (Or.inl rfl)) (pgs_cons (pg_name (i := 3) scPlus.nd rfl (Or.inl rfl)) pgs_nil))))
      (pss_cons (ps_asg (pv 1) (pg_tup (n := 2) rfl (pgs_cons (pg_name (i := 4) scPlus.nd rfl (Or.inl rfl)) (pgs_cons (pg_name (i := 5) scPlus.nd rfl (Or.inl rfl)) pgs_nil))))
      (pss_cons (ps_set (i := 6) scPlus.nd rfl (Or.inl rfl) (pe_call G hr rfl mG kG bG .nil pass0 (pa_cons (pv 3) (pa_cons (pv 5) pa_nil))))
      (pss_cons (ps_set (i := 7) scPlus.nd rfl (Or.inl rfl) (pe_op op_add (pe_op op_mulG (pv 2) (pe_op op_fdivG (pv 5) (pv 6))) (pe_op op_mulG (pv 4) (pe_op op_fdivG (pv 3) (pv 6)))))
      (pss_cons (ps_set (i := 8) scPlus.nd rfl (Or.inl rfl) (pe_call G hr rfl mG kG bG .nil pass0 (pa_cons (pv 7) (pa_cons (pv 6) pa_nil))))
      (pss_one (ps_ret (pe_tup (pa_cons (pe_op op_fdivG (pv 7) (pv 8)) (pa_cons (pe_op op_mulG (pe_op op_fdivG (pv 3) (pv 6)) (pe_op op_fdivG (pv 5) (pv 8))) pa_nil))))))))), ?_⟩
    have hd0 : d ≠ 0 := by omega
    have n1 : ig b d ≠ 0 := by have := gcd_pos (t := b) hd0; show ((Int.gcd b d : Nat) : Int) ≠ 0; omega
    have f1 : Fit 9000 (ig b d) := gcd_fit hd0 (fd'.mono (by decide))
    refine ⟨_, rfl, p, _, rfl, hp, rfl, _, _, rfl, _, _, rfl, rfl, ?_⟩
    refine ⟨_, rfl, q, _, rfl, hq, rfl, _, _, rfl, _, _, rfl, rfl, ?_⟩
    refine ⟨_, rfl, _, rfl, b, d, rfl, ?_⟩
    have fq1 := fdiv_fit (ig_r b d) n1 fd'
    have fq2 := fdiv_fit (ig_l b d) n1 fb
    refine ⟨_, rfl, _, rfl, _, rfl, _, _, rfl, rfl, ⟨n1, f1⟩, _, _, rfl, rfl, ⟨fa.mono (by decide), fq1.mono (by decide)⟩, _, rfl, _, rfl, _, rfl, _, _, rfl, rfl, ⟨n1, f1⟩, _, _, rfl, rfl, ⟨fc.mono (by decide), fq2.mono (by decide)⟩, _, _, rfl, rfl, ?_⟩
    refine ⟨_, rfl, _, rfl, _, ig b d, rfl, ?_⟩
    have kk := fun r hr => k r hr
    dsimp only at kk
    rw [plus_fr hb hd h1 h2] at kk
    have gen : ∀ T : Int, ig T (ig b d) ≠ 0 ∧ Fit 9000 (ig T (ig b d)) ∧ ig T (ig b d) ∣ d := fun T => ⟨by have := gcd_pos (t := T) n1; show ((Int.gcd T (ig b d) : Nat) : Int) ≠ 0; omega, gcd_fit n1 f1, Int.dvd_trans (ig_r T (ig b d)) (ig_r b d)⟩
    refine ⟨_, rfl, _, rfl, _, _, rfl, rfl, ⟨(gen _).1, (gen _).2.1⟩, _, rfl, _, rfl, _, _, rfl, rfl, ⟨n1, f1⟩, _, rfl, _, rfl, _, _, rfl, rfl, ⟨(gen _).1, (gen _).2.1⟩, _, _, rfl, rfl, ⟨fq2.mono (by decide), (fdiv_fit (gen _).2.2 (gen _).1 fd').mono (by decide)⟩, (by show 2 ≤ sizeLine; decide), fun r hr => ?_⟩
    exact kk r hr
def Co1 (fs : Fs) : Prop := ∀ f ∈ fs, Int.gcd f.1 f.2 = 1
def spSumN (K : PySem.W.Frag) : Sp := fun vs H Q _ => ∃ (N : Addr → Prop) (fs : Fs) (v : V), vs = [v] ∧ Rep K N H (.lst (fs.map D2)) v ∧ Pos1 fs ∧ Co1 fs ∧ FitF 250 250 fs ∧ fs.length ≤ 13 ∧ ∀ r H', SqT K H' r [.int (fr (num fs) (den fs)).1, .int (fr (num fs) (den fs)).2] ∧ (∀ b o, H b = some o → H' b = some o) → Q (.ref r) H'
theorem scSum : FnScope ["parts", "together", "part"] ["parts"] (defScope sSum) := ⟨rfl, rfl, rfl, by decide +kernel, rfl, by decide +kernel, by decide +kernel⟩
theorem ok_sum {f g aN : Addr} {fd gd : FuncData} (F : Fun K "sum_of" "sum_of" sSum f fd) (G : FnOk P w K mg base CX0 2 g gd ["one", "other"] (spPlus K)) (bG : Binds K gd ["one", "other"] []) (mG : mg "plus" = some (.ref g)) (kG : PySem.W.keepIn K (.ref g) = true)
    (mN : mg "NOTHING" = some (.ref aN)) (hN : ∀ H : Hp, SqT K H aN [.int 0, .int 1]) : FnOk P w K mg base CX0 3 f fd ["parts"] (spSumN K) := by
  refine F.ok scSum (fun vs H Q E h => ?_) (fun cdv A outer s H vs Q E hr h => ?_)
  · obtain ⟨N, fs, v, rfl, _⟩ := h
    rfl
  · obtain ⟨N, fs, v, rfl, hv, hp, hco, hf, hl, k⟩ := h
    refine ⟨_, pss_cons (ps_set (i := 1) scSum.nd rfl (Or.inl rfl) (pe_glob (v := .ref aN) rfl mN rfl))
      (pss_cons (ps_for PassesOwn.never rfl (pi_list (pv 0)) (pg_name (i := 2) scSum.nd rfl (Or.inl rfl))
        (pss_one (ps_set (i := 1) scSum.nd rfl (Or.inl rfl) (pe_call G hr rfl mG kG bG .nil pass0 (pa_cons (pv 1) (pa_cons (pv 2) pa_nil))))))
      (pss_one (ps_ret (pv 1)))), ?_⟩
    unfold Rep at hv
    obtain ⟨a, xs, rfl, na, hx, hr'⟩ := hv
    have hxl : xs.length = fs.length := by rw [← hr'.length, List.length_map]
    refine ⟨_, rfl, a, rfl, ⟨xs, hx⟩, ?_⟩
    refine for_by (wk_list K a xs) (fun i σ H' => (∃ r v2, σ = [some (.ref a), some (.ref r), v2] ∧ SqT K H' r [.int (fr (num (fs.take i)) (den (fs.take i))).1, .int (fr (num (fs.take i)) (den (fs.take i))).2]) ∧ ∀ b o, H b = some o → H' b = some o) ?_ ?_ ?_ ?_
    · refine ⟨⟨aN, none, rfl, ?_⟩, fun _ _ e => e⟩
      rw [List.take_zero, show fr (num []) (den []) = (0, 1) from fr_zero (by decide)]
      exact hN H
    · rintro i σ H' _ ⟨_, hs⟩
      exact SameX.sqL (N := fun _ => False) (fun b o e _ => hs b o e) (fun z => z) hx
    · rintro i x σ H' hx' hi ⟨⟨r0, v2, rfl, hr0⟩, hs⟩
      have hif : i < fs.length := by rw [← hxl]; exact hi
      obtain ⟨x', ex, rx⟩ := hr'.get (d := D2 fs[i]) (by rw [List.getElem?_map, List.getElem?_eq_getElem hif]; rfl)
      rw [hx'] at ex
      cases ex
      obtain ⟨q, rfl, _, hq⟩ := rep_D2 (rx.sub hs)
      have hm : fs[i] ∈ fs := List.getElem_mem hif
      have hpre : Pos1 (fs.take i) := fun g hg => hp g (List.mem_of_mem_take hg)
      have fpre : FitF 250 250 (fs.take i) := fun g hg => hf g (List.mem_of_mem_take hg)
      have hd1 := den_pos hpre
      have hy1 := hp _ hm
      have hfi := hf _ hm
      have lt : (fs.take i).length ≤ 13 := by rw [List.length_take]; omega
      have fn : Fit 4000 (fr (num (fs.take i)) (den (fs.take i))).1 := (fr_fit_l (by omega) (num_fit fpre)).mono (by have : 251 * (fs.take i).length ≤ 251 * 13 := Nat.mul_le_mul_left _ lt; omega)
      have fdn : Fit 4000 (fr (num (fs.take i)) (den (fs.take i))).2 := (fr_fit_r (by omega) (den_fit fpre)).mono (by have : 250 * (fs.take i).length ≤ 250 * 13 := Nat.mul_le_mul_left _ lt; omega)
      have hb0 := fr_pos (num (fs.take i)) (den (fs.take i)) (by omega)
      have e1 : num (fs.take (i + 1)) = num (fs.take i) * fs[i].2 + den (fs.take i) * fs[i].1 := by
        rw [List.take_succ, List.getElem?_eq_getElem hif]
        show num (fs.take i ++ [fs[i]]) = _
        rw [num_app, den_one, num_one]
      have e2 : den (fs.take (i + 1)) = den (fs.take i) * fs[i].2 := by
        rw [List.take_succ, List.getElem?_eq_getElem hif]
        show den (fs.take i ++ [fs[i]]) = _
        rw [den_app, den_one]
      have st := fr_step (n := num (fs.take i)) (d := den (fs.take i)) (x := fs[i].1) (y := fs[i].2) hd1 hy1
      refine ⟨_, rfl, _, rfl, r0, q, _, _, fs[i].1, fs[i].2, rfl, hr0, hq, ⟨hb0, hy1, fr_gcd _ _ (by omega), hco _ hm⟩, fn, fdn, hfi.1.mono (by decide), hfi.2.mono (by decide), fun r hr2 => ?_⟩
      refine ⟨⟨r, some (.ref q), rfl, ?_⟩, fun b o e => ?_⟩
      · refine SqT.of ?_
        rw [upd_same, e1, e2, ← st]
      · rw [upd_ne (ne_of_none (hs b o e) hr2)]
        exact hs b o e
    · rintro σ H' ⟨⟨r0, v2, rfl, hr0⟩, hs⟩
      rw [hxl, List.take_length] at hr0
      exact ⟨_, rfl, k r0 H' ⟨hr0, hs⟩⟩
theorem scLess : FnScope ["one", "other"] ["one", "other"] (defScope sLess) := ⟨rfl, rfl, rfl, by decide +kernel, rfl, by decide +kernel, by decide +kernel⟩
def spLess (K : PySem.W.Frag) : Sp := fun vs H Q _ => ∃ (p q : Addr) (a b c d : Int), vs = [.ref p, .ref q] ∧ SqT K H p [.int a, .int b] ∧ SqT K H q [.int c, .int d] ∧ Fit 4000 a ∧ Fit 4000 b ∧ Fit 4000 c ∧ Fit 4000 d ∧ Q (.bl (decide (a * d < c * b))) H
theorem ok_less {f : Addr} {fd : FuncData} (F : Fun K "is_less" "is_less" sLess f fd) : FnOk P w K mg base CX0 1 f fd ["one", "other"] (spLess K) := by
  refine F.ok scLess (fun vs H Q E h => ?_) (fun cdv A outer s H vs Q E hr h => ?_)
  · obtain ⟨p, q, a, b, c, d, rfl, _⟩ := h
    rfl
  · obtain ⟨p, q, a, b, c, d, rfl, hp, hq, fa, fb, fc, fd', k⟩ := h
    refine ⟨_, pss_one (ps_ret (pe_cmpR op_lt (pe_op op_mulG (pe_ix ix_tup (pv 0) pe_int (fun _ _ => rfl)) (pe_ix ix_tup (pv 1) pe_int (fun _ _ => rfl))) (pe_op op_mulG (pe_ix ix_tup (pv 1) pe_int (fun _ _ => rfl)) (pe_ix ix_tup (pv 0) pe_int (fun _ _ => rfl))) (nomark _))), ?_⟩
    exact ⟨_, rfl, p, _, _, _, rfl, rfl, hp, rfl, _, rfl, q, _, _, _, rfl, rfl, hq, rfl, _, _, rfl, rfl, ⟨fa.mono (by decide), fd'.mono (by decide)⟩, _, rfl, q, _, _, _, rfl, rfl, hq, rfl, _, rfl, p, _, _, _, rfl, rfl, hp, rfl, _, _, rfl, rfl, ⟨fc.mono (by decide), fb.mono (by decide)⟩, _, _, rfl, rfl, k⟩

theorem scGreat : FnScope ["row", "kind", "name", "told", "greatest", "upto", "part"] ["row"] (defScope sGreat) := ⟨rfl, rfl, rfl, by decide +kernel, rfl, by decide +kernel, by decide +kernel⟩
/-- the greater one, the first of alike ones -/
def gmax (g p : Int × Int) : Int × Int := if g.1 * p.2 < p.1 * g.2 then p else g
def gpart (l : Fs) : Int × Int := l.foldl gmax (0, 1)
def Rw.parts : Rw → Fs
  | .steps _ rs last => rs.map (·.2) ++ [last]
  | _ => []
def Rw.gp : Rw → Int × Int
  | .of _ p => p
  | .steps n rs last => gpart (rs.map (·.2) ++ [last])
  | _ => (0, 1)
def Rw.whole : Rw → Bool
  | .of _ _ => true
  | .steps _ _ _ => true
  | _ => false
/-- what of and steps rows tell are parts -/
def Rw.fin : Rw → Prop
  | .of _ p => PartOk p
  | .steps _ rs last => (∀ r ∈ rs, PartOk r.2) ∧ PartOk last ∧ rs.length ≤ 4
  | _ => True
theorem Rw.ok.fin {rw : Rw} (h : rw.ok) : rw.fin := by
  cases rw with
  | of n p => exact h.2
  | left n p => trivial
  | len n k => trivial
  | steps n rs l => exact ⟨h.2.2.2.1, h.2.2.2.2.1, by have := h.2.2.1; omega⟩
theorem PartOk.fit {f : Int × Int} (h : PartOk f) : Fit 10 f.1 ∧ Fit 10 f.2 := ⟨fit_of_lt (by have := h.lo; omega) (by have := h.hi; have := h.be; show f.1 < 2 ^ 10; omega), fit_of_lt (by have := h.lo; have := h.hi; omega) (by have := h.be; show f.2 < 2 ^ 10; omega)⟩
def Good (f : Int × Int) : Prop := 1 ≤ f.2 ∧ Int.gcd f.1 f.2 = 1 ∧ Fit 10 f.1 ∧ Fit 10 f.2
theorem PartOk.good {f : Int × Int} (h : PartOk f) : Good f := ⟨by have := h.lo; have := h.hi; omega, h.co, h.fit.1, h.fit.2⟩
theorem good0 : Good (0, 1) := ⟨by decide, by decide, by unfold Fit; decide, by unfold Fit; decide⟩
theorem gmax_good {g p : Int × Int} (hg : Good g) (hp : Good p) : Good (gmax g p) := by
  unfold gmax
  split
  · exact hp
  · exact hg
theorem gfold_good : ∀ (l : Fs) (g : Int × Int), Good g → (∀ p ∈ l, Good p) → Good (l.foldl gmax g)
  | [], g, h, _ => h
  | p :: r, g, h, hl => gfold_good r (gmax g p) (gmax_good h (hl p List.mem_cons_self)) fun q hq => hl q (List.mem_cons_of_mem _ hq)
theorem gp_good {rw : Rw} (h : rw.fin) : Good rw.gp := by
  cases rw with
  | of n p => exact PartOk.good h
  | left n p => exact good0
  | len n k => exact good0
  | steps n rs l =>
    refine gfold_good _ _ good0 fun p hp => ?_
    rcases List.mem_append.mp hp with h1 | h1
    · obtain ⟨r, hr, rfl⟩ := List.mem_map.mp h1
      exact (h.1 r hr).good
    · rw [List.mem_singleton.mp h1]; exact h.2.1.good
end
end Ro

set_option Elab.async false
set_option linter.all false
set_option maxRecDepth 100000
set_option maxHeartbeats 4000000
namespace Ro
open PySem L2
section
variable {P : Program} {w : World} {K : PySem.W.Frag} {mg : Str → Option Value} {base : Heap}
theorem rep_pair_inv {N : Addr → Prop} {H : Hp} {v : V} {d1 d2 : Dt} (h : Rep K N H (.tup [d1, d2]) v) : ∃ q v1 v2, v = .ref q ∧ ¬ N q ∧ SqT K H q [v1, v2] ∧ Rep K N H d1 v1 ∧ Rep K N H d2 v2 := by
  unfold Rep at h
  obtain ⟨q, xs, rfl, nq, hq, rl⟩ := h
  unfold RepL at rl
  obtain ⟨x1, ys, rfl, h1, rl⟩ := rl
  unfold RepL at rl
  obtain ⟨x2, ys, rfl, h2, rl⟩ := rl
  unfold RepL at rl
  subst rl
  exact ⟨q, x1, x2, rfl, nq, hq, h1, h2⟩
def rateL (rs : List (Int × (Int × Int))) (last : Int × Int) : List (Dt × (Int × Int)) := rs.map (fun r => (.int r.1, r.2)) ++ [(.non, last)]
theorem rateL_D (rs : List (Int × (Int × Int))) (last : Int × Int) : (rateL rs last).map (fun x => Dt.tup [x.1, D2 x.2]) = rs.map rateD ++ [.tup [.non, D2 last]] := by
  unfold rateL
  rw [List.map_append, List.map_map]
  rfl
theorem rateL_P (rs : List (Int × (Int × Int))) (last : Int × Int) : (rateL rs last).map (·.2) = rs.map (·.2) ++ [last] := by
  unfold rateL
  rw [List.map_append, List.map_map]
  rfl
def spGreat (K : PySem.W.Frag) : Sp := fun vs H Q _ => ∃ (N : Addr → Prop) (rw : Rw) (v : V), vs = [v] ∧ Rep K N H rw.toD v ∧ rw.fin ∧ rw.whole = true ∧ ∀ r, SqT K H r [.int rw.gp.1, .int rw.gp.2] → Q (.ref r) H
theorem ok_great {f g aN : Addr} {fd gd : FuncData} (F : Fun K "greatest_part" "greatest_part" sGreat f fd) (G : FnOk P w K mg base CX0 1 g gd ["one", "other"] (spLess K)) (bG : Binds K gd ["one", "other"] []) (mG : mg "is_less" = some (.ref g)) (kG : PySem.W.keepIn K (.ref g) = true)
    (mN : mg "NOTHING" = some (.ref aN)) (hN : ∀ H : Hp, SqT K H aN [.int 0, .int 1]) : FnOk P w K mg base CX0 2 f fd ["row"] (spGreat K) := by
  refine F.ok scGreat (fun vs H Q E h => ?_) (fun cdv A outer s H vs Q E hr h => ?_)
  · obtain ⟨N, rw, v, rfl, _⟩ := h
    rfl
  · obtain ⟨N, rw, v, rfl, rp, hf, hw, k⟩ := h
    refine ⟨_, pss_cons (ps_asg (pv 0) (pg_tup (n := 3) rfl (pgs_cons (pg_name (i := 1) scGreat.nd rfl (Or.inl rfl)) (pgs_cons (pg_name (i := 2) scGreat.nd rfl (Or.inl rfl)) (pgs_cons (pg_name (i := 3) scGreat.nd rfl (Or.inl rfl)) pgs_nil)))))
      (pss_cons (ps_if (pt_cmpR op_eq (pv 1) pe_str (nomark _)) (pss_one (ps_ret (pv 3))) pss_nil)
      (pss_cons (ps_set (i := 4) scGreat.nd rfl (Or.inl rfl) (pe_glob (v := .ref aN) rfl mN rfl))
      (pss_cons (ps_for PassesOwn.never rfl (pi_tup (pv 3)) (pg_tup (n := 2) rfl (pgs_cons (pg_name (i := 5) scGreat.nd rfl (Or.inl rfl)) (pgs_cons (pg_name (i := 6) scGreat.nd rfl (Or.inl rfl)) pgs_nil)))
        (pss_one (ps_if (pt_val (pe_call G hr rfl mG kG bG .nil pass0 (pa_cons (pv 4) (pa_cons (pv 6) pa_nil)))) (pss_one (ps_set (i := 4) scGreat.nd rfl (Or.inl rfl) (pv 6))) pss_nil)))
      (pss_one (ps_ret (pv 4)))))), ?_⟩
    cases rw with
    | left n p => cases hw
    | len n p => cases hw
    | of n p =>
      obtain ⟨q, x, rfl, nq, sq, rx⟩ := rep_tup3_inv rp
      refine ⟨_, rfl, q, _, rfl, sq, rfl, _, _, rfl, _, _, rfl, _, _, rfl, rfl, ?_⟩
      refine ⟨_, rfl, rfl, _, rfl, ?_⟩
      refine (if_pos (decide_eq_true rfl)).mpr ?_
      obtain ⟨qp, rfl, _, sp⟩ := rep_D2 rx
      exact ⟨_, rfl, k qp sp⟩
    | steps n rs last =>
      obtain ⟨q, x, rfl, nq, sq, rx⟩ := rep_tup3_inv rp
      refine ⟨_, rfl, q, _, rfl, sq, rfl, _, _, rfl, _, _, rfl, _, _, rfl, rfl, ?_⟩
      refine ⟨_, rfl, rfl, _, rfl, ?_⟩
      refine (if_neg (by rw [decide_eq_false (by intro z; exact absurd (V.str.inj z) (by decide +kernel))]; decide)).mpr ?_
      rw [← rateL_D] at rx
      have hfin : ∀ y ∈ rateL rs last, PartOk y.2 := by
        intro y hy
        unfold rateL at hy
        rcases List.mem_append.mp hy with h1 | h1
        · obtain ⟨r, hr', rfl⟩ := List.mem_map.mp h1
          exact hf.1 r hr'
        · rw [List.mem_singleton.mp h1]; exact hf.2.1
      have hgp : (Rw.steps n rs last).gp = gpart ((rateL rs last).map (·.2)) := by rw [rateL_P]; rfl
      rw [hgp] at k
      generalize rateL rs last = ra at *
      unfold Rep at rx
      obtain ⟨tq, xs, rfl, ntq, st, rl⟩ := rx
      have hxl : xs.length = ra.length := by rw [← rl.length, List.length_map]
      refine ⟨_, rfl, tq, rfl, ⟨xs, st⟩, ?_⟩
      refine for_by (wk_tup K tq xs) (fun i σ H' => H' = H ∧ ∃ gq v5 v6, σ = [some (.ref q), some (.str "steps"), some (.str n), some (.ref tq), some (.ref gq), v5, v6] ∧ SqT K H gq [.int (gpart ((ra.take i).map (·.2))).1, .int (gpart ((ra.take i).map (·.2))).2]) ?_ ?_ ?_ ?_
      · exact ⟨rfl, aN, none, none, rfl, hN H⟩
      · rintro i σ H' _ ⟨rfl, _⟩
        exact st
      · rintro i x σ H' hx hi ⟨rfl, gq, v5, v6, rfl, hg⟩
        have hif : i < ra.length := by rw [← hxl]; exact hi
        obtain ⟨x', ex, rx'⟩ := rl.get (d := Dt.tup [ra[i].1, D2 ra[i].2]) (by rw [List.getElem?_map, List.getElem?_eq_getElem hif]; rfl)
        rw [hx] at ex
        cases ex
        obtain ⟨qi, u1, u2, rfl, _, si, _, r2⟩ := rep_pair_inv rx'
        obtain ⟨qp, rfl, _, sp⟩ := rep_D2 r2
        have hpo := (hfin _ (List.getElem_mem hif)).good
        have hgo : Good (gpart ((ra.take i).map (·.2))) := gfold_good _ _ good0 fun p hp => by
          obtain ⟨y, hy, rfl⟩ := List.mem_map.mp hp
          exact (hfin y (List.mem_of_mem_take hy)).good
        have e1 : gpart ((ra.take (i + 1)).map (·.2)) = gmax (gpart ((ra.take i).map (·.2))) ra[i].2 := by
          unfold gpart
          rw [List.take_succ, List.getElem?_eq_getElem hif, List.map_append]
          show List.foldl gmax (0, 1) (_ ++ [ra[i].2]) = _
          rw [List.foldl_append]
          rfl
        refine ⟨qi, _, rfl, si, rfl, _, _, rfl, _, _, rfl, rfl, ?_⟩
        refine ⟨_, rfl, _, rfl, gq, qp, _, _, _, _, rfl, hg, sp, hgo.2.2.1.mono (by decide), hgo.2.2.2.mono (by decide), hpo.2.2.1.mono (by decide), hpo.2.2.2.mono (by decide), _, rfl, ?_⟩
        refine ite2 (fun hlt => ?_) (fun hlt => ?_)
        · refine ⟨_, rfl, rfl, qp, _, _, rfl, ?_⟩
          rw [e1]
          unfold gmax
          rw [if_pos (of_decide_eq_true hlt)]
          exact sp
        · refine ⟨rfl, gq, _, _, rfl, ?_⟩
          rw [e1]
          unfold gmax
          rw [if_neg (fun z => hlt (decide_eq_true z))]
          exact hg
      · rintro σ H' ⟨rfl, gq, v5, v6, rfl, hg⟩
        rw [hxl, List.take_length] at hg
        exact ⟨_, rfl, k gq hg⟩
end
end Ro

set_option Elab.async false
set_option linter.all false
set_option maxRecDepth 100000
set_option maxHeartbeats 4000000
namespace L2
open PySem PySem.Spec PyProof.Rows
theorem op_in_seqK {X : Cx} {K : PySem.W.Frag} (h : X.K = K) : OpR X (compareOp .In) (rIn K false) := by subst h; exact op_in_seq
theorem sqT_back {K : PySem.W.Frag} {H : Hp} {D r : Addr} {zs xs : List V} (h : SqT K (upd H D (.lst zs)) r xs) : SqT K H r xs := by
  rcases h with (h | ⟨o, h⟩) | h
  · by_cases e : r = D
    · rw [e, upd_same] at h; cases h
    · rw [upd_ne e] at h; exact .inl (.inl h)
  · by_cases e : r = D
    · rw [e, upd_same] at h; cases h
    · rw [upd_ne e] at h; exact .inl (.inr ⟨o, h⟩)
  · exact .inr h
end L2
namespace Ro
open PySem L2
section
variable {P : Program} {w : World} {K : PySem.W.Frag} {mg : Str → Option Value} {base : Heap}
def gps (rws : List Rw) : Fs := (rws.filter Rw.whole).map Rw.gp
theorem gps_snoc (rws : List Rw) (rw : Rw) : gps (rws ++ [rw]) = gps rws ++ (if rw.whole = true then [rw.gp] else []) := by
  unfold gps
  rw [List.filter_append, List.map_append]
  cases q : rw.whole with
  | true => rw [List.filter_cons_of_pos (by exact q), if_pos rfl]; rfl
  | false => rw [List.filter_cons_of_neg (by rw [q]; decide), if_neg (by decide)]; rfl
theorem gps_good {rws : List Rw} (h : ∀ rw ∈ rws, rw.fin) : ∀ p ∈ gps rws, Good p := by
  intro p hp
  obtain ⟨rw, hr, rfl⟩ := List.mem_map.mp hp
  exact gp_good (h rw (List.mem_filter.mp hr).1)
theorem gps_len (rws : List Rw) : (gps rws).length ≤ rws.length := by
  unfold gps
  rw [List.length_map]
  exact List.length_filter_le _ _
def over1 (fs : Fs) : Bool := decide ((fr (num fs) (den fs)).2 < (fr (num fs) (den fs)).1)
def spMuch (K : PySem.W.Frag) : Sp := fun vs H Q _ => ∃ (N : Addr → Prop) (rws : List Rw) (v : V), vs = [v] ∧ Rep K N H (.tup (rws.map Rw.toD)) v ∧ (∀ rw ∈ rws, rw.fin) ∧ rws.length ≤ 8 ∧ ∀ H', (∀ b o, H b = some o → H' b = some o) → Q (.bl (over1 (gps rws))) H'
theorem scMuch : FnScope ["rows"] ["rows"] (defScope sMuch) := ⟨rfl, rfl, rfl, by decide +kernel, rfl, by decide +kernel, by decide +kernel⟩
theorem ite_no {b : Bool} {A B : Prop} (hb : b = false) (h : B) : if b = true then A else B := by
  rw [hb]
  exact iteF h
theorem ite_yes {b : Bool} {A B : Prop} (hb : b = true) (h : A) : if b = true then A else B := by
  rw [hb]
  exact iteT h
theorem whole_in (rw : Rw) : inV (.str rw.kind) [V.str "of", V.str "steps"] = rw.whole := by
  cases rw with
  | of n p => show inV (.str "of") [V.str "of", V.str "steps"] = true; decide +kernel
  | left n p => show inV (.str "left") [V.str "of", V.str "steps"] = false; decide +kernel
  | len n p => show inV (.str "length") [V.str "of", V.str "steps"] = false; decide +kernel
  | steps n p l => show inV (.str "steps") [V.str "of", V.str "steps"] = true; decide +kernel
theorem ok_much {f gi gu gg aO aW : Addr} {fd di du dg : FuncData} (F : Fun K "too_much" "too_much" sMuch f fd)
    (GI : FnOk P w K mg base CX0 1 gi di ["one", "other"] (spLess K)) (bI : Binds K di ["one", "other"] []) (mI : mg "is_less" = some (.ref gi)) (kI : PySem.W.keepIn K (.ref gi) = true)
    (GU : FnOk P w K mg base CX0 3 gu du ["parts"] (spSumN K)) (bU : Binds K du ["parts"] []) (mU : mg "sum_of" = some (.ref gu)) (kU : PySem.W.keepIn K (.ref gu) = true)
    (GG : FnOk P w K mg base CX0 2 gg dg ["row"] (spGreat K)) (bG : Binds K dg ["row"] []) (mG : mg "greatest_part" = some (.ref gg)) (kG : PySem.W.keepIn K (.ref gg) = true)
    (mO : mg "ONE" = some (.ref aO)) (hO : ∀ H : Hp, SqT K H aO [.int 1, .int 1]) (mW : mg "WHOLE_COIN_ROWS" = some (.ref aW)) (hW : ∀ H : Hp, SqT K H aW [.str "of", .str "steps"]) : FnOk P w K mg base CX0 4 f fd ["rows"] (spMuch K) := by
  refine F.ok scMuch (fun vs H Q E h => ?_) (fun cdv A outer s H vs Q E hr h => ?_)
  · obtain ⟨N, rws, v, rfl, _⟩ := h
    rfl
  · obtain ⟨N, rws, v, rfl, rp, hf, hl, k⟩ := h
    have hr1 : Room 1 _ := hr.mono (by decide)
    have hr2 : Room 2 _ := hr.mono (by decide)
    refine ⟨_, pss_one (ps_ret (pe_call GI hr1 rfl mI kI bI .nil pass0 (pa_cons (pe_glob (v := .ref aO) rfl mO rfl) (pa_cons (pe_call GU hr rfl mU kU bU .nil pass0 (pa_cons (pe_comp [("row", none)] (CompScope.of rfl (by decide +kernel) (by decide +kernel) (by decide +kernel) trivial) rfl (pi_tup (pv 0))
        (fun _ _ _ _ _ => pg_name (i := 0) (by show List.Nodup [("row" : Str)]; decide +kernel) rfl (Or.inl rfl)) (fun _ _ _ _ _ => pif_one (pt_cmpR (op_in_seqK (K := K) rfl) (pe_ix (ix_tupK (K := K) rfl) (pv 0) pe_int (fun _ _ => rfl)) (pe_glob (v := .ref aW) rfl mW rfl) rfl)) (fun _ _ _ _ _ => pe_call GG hr2 rfl mG kG bG .nil pass0 (pa_cons (pv 0) pa_nil))) pa_nil)) pa_nil)))), ?_⟩
    unfold Rep at rp
    obtain ⟨a, xs, rfl, na, sa, rl⟩ := rp
    have hxl : xs.length = rws.length := by rw [← rl.length, List.length_map]
    refine ⟨_, rfl, a, rfl, ⟨xs, sa⟩, ?_⟩
    refine comp_by (wk_tup K a xs) (fun D j zs σ H' => (∃ v, σ = [v]) ∧ H' = upd H D (.lst zs) ∧ RepL K NoA H ((gps (rws.take j)).map D2) zs) ?_ ?_ ?_ ?_
    · intro D hD
      exact ⟨⟨none, rfl⟩, rfl, by show RepL K _ _ [] []; unfold RepL; rfl⟩
    · rintro D j zs σ H' hD ⟨_, rfl, _⟩
      exact SameX.sqT (N := NoA) (fun b o e _ => by rw [upd_ne (ne_of_none e hD)]; exact e) (fun z => z) sa
    · rintro D j x zs σ H' hD hx hj ⟨⟨v, rfl⟩, rfl, rz⟩
      have hjr : j < rws.length := by rw [← hxl]; exact hj
      have kD : ∀ b o, H b = some o → upd H D (.lst zs) b = some o := fun b o e => by rw [upd_ne (ne_of_none e hD)]; exact e
      obtain ⟨x', ex, rx⟩ := rl.get (d := rws[j].toD) (by rw [List.getElem?_map, List.getElem?_eq_getElem hjr]; rfl)
      rw [hx] at ex
      cases ex
      have rx' := rx.sub kD
      obtain ⟨qj, nj, xj, rfl, nqj, sj⟩ := rep_row rx'
      have e1 : gps (rws.take (j + 1)) = gps (rws.take j) ++ (if rws[j].whole = true then [rws[j].gp] else []) := by
        rw [List.take_succ, List.getElem?_eq_getElem hjr]
        exact gps_snoc _ _
      have hzl : zs.length ≤ 8 := by
        rw [← rz.length, List.length_map]
        have := gps_len (rws.take j)
        rw [List.length_take] at this
        omega
      refine ⟨_, rfl, qj, _, _, _, rfl, rfl, sj, rfl, aW, _, rfl, .inr (hW _), rfl, rfl, _, rfl, ?_⟩
      cases q : rws[j].whole with
      | false =>
        refine ite_no ((whole_in rws[j]).trans q) ?_
        refine CN.mk hj ⟨⟨_, rfl⟩, rfl, ?_⟩
        rw [e1, if_neg (by rw [q]; decide), List.append_nil]
        exact rz
      | true =>
        refine ite_yes ((whole_in rws[j]).trans q) ?_
        refine ⟨_, rfl, N, rws[j], _, rfl, rx', hf _ (List.getElem_mem hjr), q, fun r hr' => ?_⟩
        refine ⟨upd_same, small1000 (by omega), CN.mk hj ⟨⟨_, rfl⟩, upd_upd, ?_⟩⟩
        rw [e1, if_pos q, List.map_append]
        exact RepL.snoc rz (rep_of_D2 (fun z => z) (sqT_back hr'))
    · rintro D zs σ H' hD ⟨_, rfl, rz⟩
      rw [hxl, List.take_length] at rz
      have kD : ∀ b o, H b = some o → upd H D (.lst zs) b = some o := fun b o e => by rw [upd_ne (ne_of_none e hD)]; exact e
      have eD : upd H D (.lst zs) D = some (.lst zs) := upd_same
      have rzD : RepL K NoA (upd H D (.lst zs)) ((gps rws).map D2) zs := rz.same (fun b o e _ => kD b o e)
      generalize upd H D (.lst zs) = H1 at *
      have hg := gps_good hf
      have hgl := gps_len rws
      refine ⟨NoA, gps rws, _, rfl, ?_, fun p hp => (hg p hp).1, fun p hp => (hg p hp).2.1, fun p hp => ⟨(hg p hp).2.2.1.mono (by decide), (hg p hp).2.2.2.mono (by decide)⟩, by omega, fun r H2 ⟨hr', k2⟩ => ?_⟩
      · unfold Rep
        exact ⟨D, _, rfl, fun z => z, SqL.of eD, rzD⟩
      have hpos : Pos1 (gps rws) := fun p hp => (hg p hp).1
      have hfit : FitF 10 10 (gps rws) := fun p hp => ⟨(hg p hp).2.2.1, (hg p hp).2.2.2⟩
      have hd1 := den_pos hpos
      have f1 : Fit 4000 (fr (num (gps rws)) (den (gps rws))).1 := (fr_fit_l (by omega) (num_fit hfit)).mono (by have : 11 * (gps rws).length ≤ 11 * 8 := Nat.mul_le_mul_left _ (by omega); omega)
      have f2 : Fit 4000 (fr (num (gps rws)) (den (gps rws))).2 := (fr_fit_r (by omega) (den_fit hfit)).mono (by have : 10 * (gps rws).length ≤ 10 * 8 := Nat.mul_le_mul_left _ (by omega); omega)
      refine ⟨aO, r, 1, 1, _, _, rfl, hO _, hr', by unfold Fit; exact Nat.one_lt_two_pow (by decide), by unfold Fit; exact Nat.one_lt_two_pow (by decide), f1, f2, ?_⟩
      have kk := k H2 fun b o e => k2 b o (kD b o e)
      unfold over1 at kk
      rw [Int.one_mul, Int.mul_one]
      exact kk
end
end Ro

set_option Elab.async false
set_option linter.all false
set_option maxRecDepth 100000
set_option maxHeartbeats 4000000
namespace L2
open PySem PySem.Spec PyProof.Rows
theorem sqT_upd {K : PySem.W.Frag} {H : Hp} {D r : Addr} {ys zs xs : List V} (h : SqT K H r xs) (hD : H D = some (.lst ys)) : SqT K (upd H D (.lst zs)) r xs := by
  rcases h with (h | ⟨o, h⟩) | h
  · have e : r ≠ D := fun z => by rw [z, hD] at h; cases h
    exact .inl (.inl (by rw [upd_ne e]; exact h))
  · have e : r ≠ D := fun z => by rw [z, hD] at h; cases h
    exact .inl (.inr ⟨o, by rw [upd_ne e]; exact h⟩)
  · exact .inr h
end L2
namespace Ro
open PySem L2
section
variable {P : Program} {w : World} {K : PySem.W.Frag} {mg : Str → Option Value} {base : Heap}
theorem repF_upd {H : Hp} {D : Addr} {ys0 zs : List V} (hD : H D = some (.lst ys0)) : ∀ {fs : Fs} {ys : List V}, RepL K NoA H (fs.map D2) ys → RepL K NoA (upd H D (.lst zs)) (fs.map D2) ys
  | [], ys, h => by unfold RepL at *; exact h
  | f :: r, ys, h => by
    unfold RepL at h
    obtain ⟨x, xs, rfl, h1, h2⟩ := h
    obtain ⟨q, rfl, _, sq⟩ := rep_D2 h1
    show RepL K NoA _ (D2 f :: r.map D2) _
    unfold RepL
    exact ⟨_, _, rfl, rep_of_D2 (fun z => z) (sqT_upd sq hD), repF_upd hD h2⟩
theorem scLSum : FnScope ["_law_parts", "_law_top", "_law_below", "_law_one", "_law_other"] ["_law_parts"] (defScope sLSum) := ⟨rfl, rfl, rfl, by decide +kernel, rfl, by decide +kernel, by decide +kernel⟩
theorem ok_lsum {f g : Addr} {fd gd : FuncData} (F : Fun K "_law_sum" "_law_sum" sLSum f fd) (G : FnOk P w K mg base CX0 1 g gd ["_law_top", "_law_below"] spLow) (bG : Binds K gd ["_law_top", "_law_below"] []) (mG : mg "_law_lowest" = some (.ref g)) (kG : PySem.W.keepIn K (.ref g) = true) : FnOk P w K mg base CX0 2 f fd ["_law_parts"] (spSum K) := by
  refine F.ok scLSum (fun vs H Q E h => ?_) (fun cdv A outer s H vs Q E hr h => ?_)
  · obtain ⟨N, fs, v, rfl, _⟩ := h
    rfl
  · obtain ⟨N, fs, v, rfl, hv, hp, hf, hl, k⟩ := h
    refine ⟨_, pss_cons (ps_asg (pe_tup (pa_cons pe_int (pa_cons pe_int pa_nil))) (pg_tup (n := 2) rfl (pgs_cons (pg_name (i := 1) scLSum.nd rfl (Or.inl rfl)) (pgs_cons (pg_name (i := 2) scLSum.nd rfl (Or.inl rfl)) pgs_nil))))
      (pss_cons (ps_for PassesOwn.never rfl (pi_list (pv 0)) (pg_tup (n := 2) rfl (pgs_cons (pg_name (i := 3) scLSum.nd rfl (Or.inl rfl)) (pgs_cons (pg_name (i := 4) scLSum.nd rfl (Or.inl rfl)) pgs_nil)))
        (pss_one (ps_asg (pe_call G hr rfl mG kG bG .nil pass0 (pa_cons (pe_op op_add (pe_op op_mulG (pv 1) (pv 4)) (pe_op op_mulG (pv 3) (pv 2))) (pa_cons (pe_op op_mulG (pv 2) (pv 4)) pa_nil))) (pg_tup (n := 2) rfl (pgs_cons (pg_name (i := 1) scLSum.nd rfl (Or.inl rfl)) (pgs_cons (pg_name (i := 2) scLSum.nd rfl (Or.inl rfl)) pgs_nil))))))
      (pss_one (ps_ret (pe_tup (pa_cons (pv 1) (pa_cons (pv 2) pa_nil)))))), ?_⟩
    unfold Rep at hv
    obtain ⟨a, xs, rfl, na, hx, hr'⟩ := hv
    have hxl : xs.length = fs.length := by rw [← hr'.length, List.length_map]
    refine ⟨(by show 2 ≤ sizeLine; decide), fun t0 ht0 => ⟨t0, _, rfl, SqT.of upd_same, rfl, _, _, rfl, _, _, rfl, rfl, ?_⟩⟩
    have k0 : ∀ b o, H b = some o → upd H t0 (.tup [.int 0, .int 1]) b = some o := fun b o e => by rw [upd_ne (ne_of_none e ht0)]; exact e
    refine ⟨_, rfl, a, rfl, ⟨xs, SameX.sqL (N := fun _ => False) (fun b o e _ => k0 b o e) (fun z => z) hx⟩, ?_⟩
    refine for_by (wk_list K a xs) (fun i σ H' => (∃ v3 v4, σ = [some (.ref a), some (.int (fr (num (fs.take i)) (den (fs.take i))).1), some (.int (fr (num (fs.take i)) (den (fs.take i))).2), v3, v4]) ∧ ∀ b o, H b = some o → H' b = some o) ?_ ?_ ?_ ?_
    · refine ⟨⟨none, none, ?_⟩, k0⟩
      rw [List.take_zero, show fr (num []) (den []) = (0, 1) from fr_zero (by decide)]
      rfl
    · rintro i σ H' _ ⟨_, hs⟩
      exact SameX.sqL (N := fun _ => False) (fun b o e _ => hs b o e) (fun z => z) hx
    · rintro i x σ H' hx' hi ⟨⟨v3, v4, rfl⟩, hs⟩
      have hif : i < fs.length := by rw [← hxl]; exact hi
      obtain ⟨x', ex, rx⟩ := hr'.get (d := D2 fs[i]) (by rw [List.getElem?_map, List.getElem?_eq_getElem hif]; rfl)
      rw [hx'] at ex
      cases ex
      obtain ⟨q, rfl, _, hq⟩ := rep_D2 (rx.sub hs)
      have hm : fs[i] ∈ fs := List.getElem_mem hif
      have hpre : Pos1 (fs.take i) := fun g hg => hp g (List.mem_of_mem_take hg)
      have fpre : FitF 250 250 (fs.take i) := fun g hg => hf g (List.mem_of_mem_take hg)
      have hd1 := den_pos hpre
      have hy1 := hp _ hm
      have hfi := hf _ hm
      have lt : (fs.take i).length ≤ 13 := by rw [List.length_take]; omega
      have fn : Fit 4000 (fr (num (fs.take i)) (den (fs.take i))).1 := (fr_fit_l (by omega) (num_fit fpre)).mono (by have : 251 * (fs.take i).length ≤ 251 * 13 := Nat.mul_le_mul_left _ lt; omega)
      have fdn : Fit 4000 (fr (num (fs.take i)) (den (fs.take i))).2 := (fr_fit_r (by omega) (den_fit fpre)).mono (by have : 250 * (fs.take i).length ≤ 250 * 13 := Nat.mul_le_mul_left _ lt; omega)
      have hb0 := fr_pos (num (fs.take i)) (den (fs.take i)) (by omega)
      have e1 : num (fs.take (i + 1)) = num (fs.take i) * fs[i].2 + den (fs.take i) * fs[i].1 := by
        rw [List.take_succ, List.getElem?_eq_getElem hif]
        show num (fs.take i ++ [fs[i]]) = _
        rw [num_app, den_one, num_one]
      have e2 : den (fs.take (i + 1)) = den (fs.take i) * fs[i].2 := by
        rw [List.take_succ, List.getElem?_eq_getElem hif]
        show den (fs.take i ++ [fs[i]]) = _
        rw [den_app, den_one]
      have st := fr_step (n := num (fs.take i)) (d := den (fs.take i)) (x := fs[i].1) (y := fs[i].2) hd1 hy1
      refine ⟨q, _, rfl, hq, rfl, _, _, rfl, _, _, rfl, rfl, ?_⟩
      refine ⟨_, rfl, _, rfl, _, _, rfl, rfl, ⟨fn.mono (by decide), hfi.2.mono (by decide)⟩, _, rfl, _, rfl, _, _, rfl, rfl, ⟨hfi.1.mono (by decide), fdn.mono (by decide)⟩, _, _, rfl, rfl, _, rfl, _, rfl, _, _, rfl, rfl, ⟨fdn.mono (by decide), hfi.2.mono (by decide)⟩,
        _, _, rfl, Int.mul_ne_zero (by omega) (by omega), ((fn.mul hfi.2).add ((hfi.1.mul fdn).mono (by decide))).mono (by decide), (fdn.mul hfi.2).mono (by decide), fun r hr2 => ?_⟩
      refine ⟨r, _, rfl, SqT.of upd_same, rfl, _, _, rfl, _, _, rfl, rfl, ⟨some (.int fs[i].1), some (.int fs[i].2), ?_⟩, fun b o e => ?_⟩
      · rw [e1, e2, ← st]
        rfl
      · rw [upd_ne (ne_of_none (hs b o e) hr2)]
        exact hs b o e
    · rintro σ H' ⟨⟨v3, v4, rfl⟩, hs⟩
      rw [hxl, List.take_length]
      refine ⟨_, rfl, _, rfl, (by show 2 ≤ sizeLine; decide), fun r hr2 => ?_⟩
      refine k r _ ⟨?_, upd_same, fun b o e => ?_⟩
      · cases q : H r with
        | none => rfl
        | some o => rw [hs r o q] at hr2; cases hr2
      · rw [upd_ne (ne_of_none (hs b o e) hr2)]
        exact hs b o e
end
end Ro

set_option Elab.async false
set_option linter.all false
set_option maxRecDepth 100000
set_option maxHeartbeats 4000000
namespace Ro
open PySem L2
theorem den_perm {l q : Fs} (h : l.Perm q) : den l = den q := by
  induction h with
  | nil => rfl
  | cons x _ ih => show x.2 * den _ = x.2 * den _; rw [ih]
  | swap x y l => show y.2 * (x.2 * den l) = x.2 * (y.2 * den l); exact Int.mul_left_comm ..
  | trans _ _ i1 i2 => exact i1.trans i2
theorem num_perm {l q : Fs} (h : l.Perm q) : num l = num q := by
  induction h with
  | nil => rfl
  | cons x h ih => show x.1 * den _ + x.2 * num _ = x.1 * den _ + x.2 * num _; rw [ih, den_perm h]
  | swap x y l =>
    show y.1 * (x.2 * den l) + y.2 * (x.1 * den l + x.2 * num l) = x.1 * (y.2 * den l) + x.2 * (y.1 * den l + y.2 * num l)
    rw [Int.mul_add, Int.mul_add, Int.mul_left_comm y.1, Int.mul_left_comm y.2 x.1, Int.mul_left_comm y.2 x.2]
    omega
  | trans _ _ i1 i2 => exact i1.trans i2
def Rw.isOf : Rw → Bool
  | .of _ _ => true
  | _ => false
def Rw.isSt : Rw → Bool
  | .steps _ _ _ => true
  | _ => false
def ofs (rws : List Rw) : Fs := (rws.filter Rw.isOf).map Rw.gp
def sts (rws : List Rw) : Fs := (rws.filter Rw.isSt).map Rw.gp
theorem duel_perm : ∀ rws : List Rw, (ofs rws ++ sts rws).Perm (gps rws)
  | [] => .nil
  | rw :: r => by
    have ih := duel_perm r
    cases rw with
    | of n p => exact List.Perm.cons p ih
    | left n p => exact ih
    | len n p => exact ih
    | steps n rs l => exact List.perm_middle.trans (List.Perm.cons _ ih)
theorem over1_perm {l q : Fs} (h : l.Perm q) : over1 l = over1 q := by
  unfold over1
  rw [num_perm h, den_perm h]
theorem ofs_snoc (rws : List Rw) (rw : Rw) : ofs (rws ++ [rw]) = ofs rws ++ (if rw.isOf = true then [rw.gp] else []) := by
  unfold ofs
  rw [List.filter_append, List.map_append]
  cases q : rw.isOf with
  | true => rw [List.filter_cons_of_pos (by exact q), if_pos rfl]; rfl
  | false => rw [List.filter_cons_of_neg (by rw [q]; decide), if_neg (by decide)]; rfl
theorem sts_snoc (rws : List Rw) (rw : Rw) : sts (rws ++ [rw]) = sts rws ++ (if rw.isSt = true then [rw.gp] else []) := by
  unfold sts
  rw [List.filter_append, List.map_append]
  cases q : rw.isSt with
  | true => rw [List.filter_cons_of_pos (by exact q), if_pos rfl]; rfl
  | false => rw [List.filter_cons_of_neg (by rw [q]; decide), if_neg (by decide)]; rfl
theorem kind_of (rw : Rw) : decide (V.str rw.kind = V.str "of") = rw.isOf := by
  cases rw with
  | of n p => exact decide_eq_true rfl
  | left n p => exact decide_eq_false (by show ¬ (V.str "left" = V.str "of"); decide +kernel)
  | len n p => exact decide_eq_false (by show ¬ (V.str "length" = V.str "of"); decide +kernel)
  | steps n p l => exact decide_eq_false (by show ¬ (V.str "steps" = V.str "of"); decide +kernel)
theorem kind_st (rw : Rw) : decide (V.str rw.kind = V.str "steps") = rw.isSt := by
  cases rw with
  | of n p => exact decide_eq_false (by show ¬ (V.str "of" = V.str "steps"); decide +kernel)
  | left n p => exact decide_eq_false (by show ¬ (V.str "left" = V.str "steps"); decide +kernel)
  | len n p => exact decide_eq_false (by show ¬ (V.str "length" = V.str "steps"); decide +kernel)
  | steps n p l => exact decide_eq_true rfl
section
variable {P : Program} {w : World} {K : PySem.W.Frag} {mg : Str → Option Value} {base : Heap}
theorem scDue : FnScope ["_law_rows_here", "_law_parts", "_law_row_here", "_law_greatest", "_law_upto", "_law_part_here", "_law_top", "_law_below"] ["_law_rows_here"] (defScope sDue) := ⟨rfl, rfl, rfl, by decide +kernel, rfl, by decide +kernel, by decide +kernel⟩
theorem ok_due {f g : Addr} {fd gd : FuncData} (F : Fun K "_law_due" "_law_due" sDue f fd) (G : FnOk P w K mg base CX0 2 g gd ["_law_parts"] (spSum K)) (bG : Binds K gd ["_law_parts"] []) (mG : mg "_law_sum" = some (.ref g)) (kG : PySem.W.keepIn K (.ref g) = true) :
    FnOk P w K mg base CX0 3 f fd ["_law_rows_here"] (spMuch K) := by
  refine F.ok scDue (fun vs H Q E h => ?_) (fun cdv A outer s H vs Q E hr h => ?_)
  · obtain ⟨N, rws, v, rfl, _⟩ := h
    rfl
  · obtain ⟨N, rws, v, rfl, rp, hf, hl, k⟩ := h
    refine ⟨_, pss_cons (ps_setComp (i := 1) [("_law_row_here", none)] (CompScope.of rfl (by decide +kernel) (by decide +kernel) (by decide +kernel) trivial) rfl scDue.nd rfl rfl (pi_tup (pv 0))
          (fun _ _ _ _ _ => pg_name (i := 0) (by show List.Nodup [("_law_row_here" : Str)]; decide +kernel) rfl (Or.inl rfl)) (fun _ _ _ _ _ => pif_one (pt_cmpR op_eq (pe_ix (ix_tupK (K := K) rfl) (pv 0) pe_int (fun _ _ => rfl)) pe_str (nomark _))) (fun _ _ _ _ _ => pe_ix (ix_tupK (K := K) rfl) (pv 0) pe_int (fun _ _ => rfl)) rfl)
      (pss_cons (ps_for PassesOwn.never rfl (pi_tup (pv 0)) (pg_name (i := 2) scDue.nd rfl (Or.inl rfl))
        (pss_one (ps_if (pt_cmpR op_eq (pe_ix ix_tup (pv 2) pe_int (fun _ _ => rfl)) pe_str (nomark _))
          (pss_cons (ps_set (i := 3) scDue.nd rfl (Or.inl rfl) (pe_tup (pa_cons pe_int (pa_cons pe_int pa_nil))))
          (pss_cons (ps_for PassesOwn.never rfl (pi_tup (pe_ix ix_tup (pv 2) pe_int (fun _ _ => rfl))) (pg_tup (n := 2) rfl (pgs_cons (pg_name (i := 4) scDue.nd rfl (Or.inl rfl)) (pgs_cons (pg_name (i := 5) scDue.nd rfl (Or.inl rfl)) pgs_nil)))
            (pss_one (ps_if (pt_cmpR op_gt (pe_op op_mulG (pe_ix ix_tup (pv 5) pe_int (fun _ _ => rfl)) (pe_ix ix_tup (pv 3) pe_int (fun _ _ => rfl))) (pe_op op_mulG (pe_ix ix_tup (pv 3) pe_int (fun _ _ => rfl)) (pe_ix ix_tup (pv 5) pe_int (fun _ _ => rfl))) (nomark _)) (pss_one (ps_set (i := 3) scDue.nd rfl (Or.inl rfl) (pv 5))) pss_nil)))
          (pss_one (ps_expr (pe_bm PySem.F.plainAttrs_list PySem.F.slot_list_append PySem.F.type_list_append mt_append (pv 1) (pa_cons (pv 3) pa_nil)))))) pss_nil)))
      (pss_cons (ps_asg (pe_call G hr rfl mG kG bG .nil pass0 (pa_cons (pv 1) pa_nil)) (pg_tup (n := 2) rfl (pgs_cons (pg_name (i := 6) scDue.nd rfl (Or.inl rfl)) (pgs_cons (pg_name (i := 7) scDue.nd rfl (Or.inl rfl)) pgs_nil))))
      (pss_one (ps_ret (pe_cmpR op_gt (pv 6) (pv 7) (nomark _)))))), ?_⟩
    unfold Rep at rp
    obtain ⟨a, xs, rfl, na, sa, rl⟩ := rp
    have hxl : xs.length = rws.length := by rw [← rl.length, List.length_map]
    have hget : ∀ j (hj : j < rws.length) x, xs[j]? = some x → Rep K N H rws[j].toD x := fun j hj x hx => by
      obtain ⟨x', ex, rx⟩ := rl.get (d := rws[j].toD) (by rw [List.getElem?_map, List.getElem?_eq_getElem hj]; rfl)
      rw [hx] at ex
      cases ex
      exact rx
    refine ⟨_, rfl, a, rfl, ⟨xs, sa⟩, ?_⟩
    refine comp_by (wk_tup K a xs) (fun D j zs σ H' => (∃ v, σ = [v]) ∧ H' = upd H D (.lst zs) ∧ RepL K NoA H ((ofs (rws.take j)).map D2) zs ∧ zs.length ≤ j) ?_ ?_ ?_ ?_
    · intro D hD
      exact ⟨⟨none, rfl⟩, rfl, by show RepL K _ _ [] []; unfold RepL; rfl, Nat.le_refl _⟩
    · rintro D j zs σ H' hD ⟨_, rfl, _⟩
      exact SameX.sqT (N := NoA) (fun b o e _ => by rw [upd_ne (ne_of_none e hD)]; exact e) (fun z => z) sa
    · rintro D j x zs σ H' hD hx hj ⟨⟨v, rfl⟩, rfl, rz, hzl⟩
      have hjr : j < rws.length := by rw [← hxl]; exact hj
      have kD : ∀ b o, H b = some o → upd H D (.lst zs) b = some o := fun b o e => by rw [upd_ne (ne_of_none e hD)]; exact e
      have rx := hget j hjr x hx
      have rx' := rx.sub kD
      have e1 : ofs (rws.take (j + 1)) = ofs (rws.take j) ++ (if rws[j].isOf = true then [rws[j].gp] else []) := by
        rw [List.take_succ, List.getElem?_eq_getElem hjr]
        exact ofs_snoc _ _
      cases q : rws[j].isOf with
      | false =>
        obtain ⟨qj, nj, xj, rfl, nqj, sj⟩ := rep_row rx'
        refine ⟨_, rfl, qj, _, _, _, rfl, rfl, sj, rfl, rfl, _, rfl, ?_⟩
        refine ite_no ((kind_of rws[j]).trans q) ?_
        refine CN.mk hj ⟨⟨_, rfl⟩, rfl, ?_, by omega⟩
        rw [e1, if_neg (by rw [q]; decide), List.append_nil]
        exact rz
      | true =>
        obtain ⟨nn, pp, erw⟩ : ∃ nn pp, rws[j] = .of nn pp := by
          cases z : rws[j] with
          | of nn pp => exact ⟨nn, pp, rfl⟩
          | left _ _ => rw [z] at q; cases q
          | len _ _ => rw [z] at q; cases q
          | steps _ _ _ => rw [z] at q; cases q
        rw [erw] at rx rx'
        obtain ⟨qj, xj, rfl, nqj, sj, rpp⟩ := rep_tup3_inv rx'
        refine ⟨_, rfl, qj, _, _, _, rfl, rfl, sj, rfl, rfl, _, rfl, ?_⟩
        refine ite_yes (decide_eq_true rfl) ?_
        refine ⟨_, rfl, qj, _, _, _, rfl, rfl, sj, rfl, ?_⟩
        refine ⟨upd_same, small1000 (by omega), CN.mk hj ⟨⟨_, rfl⟩, upd_upd, ?_, by rw [List.length_append]; show zs.length + 1 ≤ j + 1; omega⟩⟩
        rw [e1, if_pos q, List.map_append, erw]
        obtain ⟨qp, rfl, _, sp⟩ := rep_D2 rpp
        exact RepL.snoc rz (rep_of_D2 (fun z => z) (sqT_back sp))
    · rintro D zs σ H' hD ⟨_, rfl, rz, hzl⟩
      rw [hxl, List.take_length] at rz
      have kD : ∀ b o, H b = some o → upd H D (.lst zs) b = some o := fun b o e => by rw [upd_ne (ne_of_none e hD)]; exact e
      have eD : upd H D (.lst zs) D = some (.lst zs) := upd_same
      have rzD : RepL K NoA (upd H D (.lst zs)) ((ofs rws ++ sts (rws.take 0)).map D2) zs := by
        show RepL K NoA _ ((ofs rws ++ []).map D2) zs
        rw [List.append_nil]
        exact rz.same (fun b o e _ => kD b o e)
      generalize upd H D (.lst zs) = H1 at *
      have sa1 : SqT K H1 a xs := SameX.sqT (N := NoA) (fun b o e _ => kD b o e) (fun z => z) sa
      refine ⟨_, rfl, a, rfl, ⟨xs, sa1⟩, ?_⟩
      refine for_by (wk_tup K a xs) (fun j σ H' => (∃ v2 v3 v4 v5 v6 v7, σ = [some (.ref a), some (.ref D), v2, v3, v4, v5, v6, v7]) ∧ (∀ b o, H b = some o → H' b = some o) ∧ ∃ ys, H' D = some (.lst ys) ∧ RepL K NoA H' ((ofs rws ++ sts (rws.take j)).map D2) ys) ?_ ?_ ?_ ?_
      · exact ⟨⟨_, _, _, _, _, _, rfl⟩, kD, zs, eD, rzD⟩
      · rintro j σ H' _ ⟨_, kk, _⟩
        exact SameX.sqT (N := NoA) (fun b o e _ => kk b o e) (fun z => z) sa
      · rintro j x σ H2 hx hj ⟨⟨v2, v3, v4, v5, v6, v7, rfl⟩, kk, ys, eys, ry⟩
        have hjr : j < rws.length := by rw [← hxl]; exact hj
        have rx' := (hget j hjr x hx).sub kk
        have hyl : ys.length ≤ 20 := by
          rw [← ry.length, List.length_map, List.length_append]
          have h1 : (ofs rws).length ≤ rws.length := by unfold ofs; rw [List.length_map]; exact List.length_filter_le _ _
          have h2 : (sts (rws.take j)).length ≤ (rws.take j).length := by unfold sts; rw [List.length_map]; exact List.length_filter_le _ _
          rw [List.length_take] at h2
          omega
        have e1 : sts (rws.take (j + 1)) = sts (rws.take j) ++ (if rws[j].isSt = true then [rws[j].gp] else []) := by
          rw [List.take_succ, List.getElem?_eq_getElem hjr]
          exact sts_snoc _ _
        cases q : rws[j].isSt with
        | false =>
          obtain ⟨qj, nj, xj, rfl, nqj, sj⟩ := rep_row rx'
          refine ⟨_, rfl, qj, _, _, _, rfl, rfl, sj, rfl, rfl, _, rfl, ?_⟩
          refine ite_no ((kind_st rws[j]).trans q) ?_
          refine ⟨⟨_, _, _, _, _, _, rfl⟩, kk, ys, eys, ?_⟩
          rw [e1, if_neg (by rw [q]; decide), List.append_nil]
          exact ry
        | true =>
          obtain ⟨nn, rs, last, erw⟩ : ∃ nn rs last, rws[j] = .steps nn rs last := by
            cases z : rws[j] with
            | of _ _ => rw [z] at q; cases q
            | left _ _ => rw [z] at q; cases q
            | len _ _ => rw [z] at q; cases q
            | steps nn rs last => exact ⟨nn, rs, last, rfl⟩
          have hfj := hf _ (List.getElem_mem hjr)
          rw [erw] at rx' hfj
          obtain ⟨qj, xj, rfl, nqj, sj, rpp⟩ := rep_tup3_inv rx'
          refine ⟨_, rfl, qj, _, _, _, rfl, rfl, sj, rfl, rfl, _, rfl, ?_⟩
          refine ite_yes (decide_eq_true rfl) ?_
          refine ⟨(by show 2 ≤ sizeLine; decide), fun t0 ht0 => ?_⟩
          have k3 : ∀ b o, H2 b = some o → upd H2 t0 (.tup [.int 0, .int 1]) b = some o := fun b o e => by rw [upd_ne (ne_of_none e ht0)]; exact e
          have e3 : upd H2 t0 (.tup [.int 0, .int 1]) t0 = some (.tup [.int 0, .int 1]) := upd_same
          have ry3 := ry.same (N := NoA) (fun b o e _ => k3 b o e)
          have rpp3 := rpp.sub k3
          have sj3 : SqT K (upd H2 t0 (.tup [.int 0, .int 1])) qj [.str "steps", .str nn, xj] := SameX.sqT (N := NoA) (fun b o e _ => k3 b o e) (fun z => z) sj
          generalize upd H2 t0 (.tup [.int 0, .int 1]) = H3 at *
          rw [← rateL_D] at rpp3
          have hfin : ∀ y ∈ rateL rs last, PartOk y.2 := by
            intro y hy
            unfold rateL at hy
            rcases List.mem_append.mp hy with h1 | h1
            · obtain ⟨r, hr', rfl⟩ := List.mem_map.mp h1
              exact hfj.1 r hr'
            · rw [List.mem_singleton.mp h1]; exact hfj.2.1
          have hgp : rws[j].gp = gpart ((rateL rs last).map (·.2)) := by rw [erw, rateL_P]; rfl
          rw [if_pos q, hgp] at e1
          generalize rateL rs last = ra at *
          unfold Rep at rpp3
          obtain ⟨tq, us, rfl, ntq, stq, rl2⟩ := rpp3
          have hul : us.length = ra.length := by rw [← rl2.length, List.length_map]
          refine ⟨_, rfl, qj, _, _, _, rfl, rfl, sj3, rfl, tq, rfl, ⟨us, stq⟩, ?_⟩
          refine for_by (wk_tup K tq us) (fun i σ H' => H' = H3 ∧ ∃ gq u4 u5, σ = [some (.ref a), some (.ref D), some (.ref qj), some (.ref gq), u4, u5, v6, v7] ∧ SqT K H3 gq [.int (gpart ((ra.take i).map (·.2))).1, .int (gpart ((ra.take i).map (·.2))).2]) ?_ ?_ ?_ ?_
          · exact ⟨rfl, t0, _, _, rfl, SqT.of e3⟩
          · rintro i σ H' _ ⟨rfl, _⟩
            exact stq
          · rintro i x σ H' hx hi ⟨rfl, gq, u4, u5, rfl, hg⟩
            have hif : i < ra.length := by rw [← hul]; exact hi
            obtain ⟨x', ex, rx2⟩ := rl2.get (d := Dt.tup [ra[i].1, D2 ra[i].2]) (by rw [List.getElem?_map, List.getElem?_eq_getElem hif]; rfl)
            rw [hx] at ex
            cases ex
            obtain ⟨qi, w1, w2, rfl, _, si, _, r2⟩ := rep_pair_inv rx2
            obtain ⟨qp, rfl, _, sp⟩ := rep_D2 r2
            have hpo := (hfin _ (List.getElem_mem hif)).good
            have hgo : Good (gpart ((ra.take i).map (·.2))) := gfold_good _ _ good0 fun p hp => by
              obtain ⟨y, hy, rfl⟩ := List.mem_map.mp hp
              exact (hfin y (List.mem_of_mem_take hy)).good
            have e2 : gpart ((ra.take (i + 1)).map (·.2)) = gmax (gpart ((ra.take i).map (·.2))) ra[i].2 := by
              unfold gpart
              rw [List.take_succ, List.getElem?_eq_getElem hif, List.map_append]
              show List.foldl gmax (0, 1) (_ ++ [ra[i].2]) = _
              rw [List.foldl_append]
              rfl
            refine ⟨qi, _, rfl, si, rfl, _, _, rfl, _, _, rfl, rfl, ?_⟩
            refine ⟨_, rfl, qp, _, _, _, rfl, rfl, sp, rfl, _, rfl, gq, _, _, _, rfl, rfl, hg, rfl, _, _, rfl, rfl, ⟨hpo.2.2.1.mono (by decide), hgo.2.2.2.mono (by decide)⟩, _, rfl, gq, _, _, _, rfl, rfl, hg, rfl, _, rfl, qp, _, _, _, rfl, rfl, sp, rfl, _, _, rfl, rfl, ⟨hgo.2.2.1.mono (by decide), hpo.2.2.2.mono (by decide)⟩, _, _, rfl, rfl, _, rfl, ?_⟩
            refine ite2 (fun hlt => ?_) (fun hlt => ?_)
            · refine ⟨_, rfl, rfl, qp, _, _, rfl, ?_⟩
              rw [e2]
              unfold gmax
              rw [if_pos (of_decide_eq_true hlt)]
              exact sp
            · refine ⟨rfl, gq, _, _, rfl, ?_⟩
              rw [e2]
              unfold gmax
              rw [if_neg (fun z => hlt (decide_eq_true z))]
              exact hg
          · rintro σ H' ⟨rfl, gq, u4, u5, rfl, hg⟩
            rw [hul, List.take_length] at hg
            have eys3 := k3 _ _ eys
            refine ⟨_, rfl, .inl ⟨rfl, _, SqL.of eys3⟩, _, rfl, D, ys, _, rfl, rfl, eys3, small1000 (by omega), ?_⟩
            refine ⟨⟨_, _, _, _, _, _, rfl⟩, fun b o e => ?_, ys ++ [.ref gq], upd_same, ?_⟩
            · have nb : b ≠ D := ne_of_none e hD
              rw [upd_ne nb]
              exact k3 _ _ (kk b o e)
            · rw [e1, ← List.append_assoc, List.map_append]
              exact RepL.snoc (repF_upd eys3 ry3) (rep_of_D2 (fun z => z) (sqT_upd hg eys3))
      · rintro σ H2 ⟨⟨v2, v3, v4, v5, v6, v7, rfl⟩, kk, ys, eys, ry⟩
        rw [hxl, List.take_length] at ry
        have pm := duel_perm rws
        have hg : ∀ p ∈ ofs rws ++ sts rws, Good p := fun p hp => gps_good hf p (pm.mem_iff.mp hp)
        have hgl : (ofs rws ++ sts rws).length ≤ 8 := by rw [pm.length_eq]; have := gps_len rws; omega
        refine ⟨_, rfl, NoA, ofs rws ++ sts rws, _, rfl, ?_, fun p hp => (hg p hp).1, fun p hp => ⟨(hg p hp).2.2.1.mono (by decide), (hg p hp).2.2.2.mono (by decide)⟩, by omega, fun r H3 ⟨_, er, k3⟩ => ?_⟩
        · unfold Rep
          exact ⟨D, _, rfl, fun z => z, SqL.of eys, ry⟩
        refine ⟨r, _, rfl, SqT.of er, rfl, _, _, rfl, _, _, rfl, rfl, ?_⟩
        refine ⟨_, rfl, _, rfl, _, _, rfl, rfl, ?_⟩
        have kx := k H3 fun b o e => k3 b o (kk b o e)
        rw [← over1_perm pm] at kx
        exact kx
end
end Ro

set_option Elab.async false
set_option linter.all false
set_option maxRecDepth 100000
set_option maxHeartbeats 4000000
namespace L2
open PySem PySem.Spec PyProof.Rows
/-- [e for k, x in enumerate(list)] -/
theorem comp_enum {K : PySem.W.Frag} {a : Addr} {xs : List V} (j1 j2 : Nat) {l : List (Str × Option Nat)} {te : TE} {σ0 : St} {H : Hp} {Q : Addr → Hp → Prop} (Pv : Addr → Nat → List V → St → Hp → Prop)
    (h0 : ∀ D, H D = none → Pv D 0 [] (srcV l σ0) (upd H D (.lst []))) (hl : ∀ D i ys σ H', H D = none → Pv D i ys σ H' → SqL K H' a xs)
    (hs : ∀ D i x ys σ H' T, H D = none → xs[i]? = some x → i < xs.length → Pv D i ys σ H' → H' T = none → te ((σ.set j1 (some (.int (i : Int)))).set j2 (some x)) (upd H' T (.tup [.int (i : Int), x])) fun v H6 => H6 D = some (.lst ys) ∧ ys.length < sizeLine ∧ CN Pv xs.length D i (ys ++ [v]) ((σ.set j1 (some (.int (i : Int)))).set j2 (some x)) (upd H6 D (.lst (ys ++ [v]))))
    (hd : ∀ D ys σ H', H D = none → Pv D xs.length ys σ H' → Q D H') : CompW l (gTup K 2 (gCons (gName j1) (gCons (gName j2) gNil))) tYes te (Ite K a) σ0 H Q := by
  intro D hD
  refine ⟨fun i m ys σ H' => m = xs.length - i ∧ i ≤ xs.length ∧ Pv D i ys σ H', ⟨xs.length, by simp, Nat.zero_le _, h0 D hD⟩, ?_⟩
  rintro i m ys σ H' ⟨rfl, hi, p⟩
  have q := hl D i ys σ H' hD p
  by_cases hlt : i < xs.length
  · refine .inr ⟨⟨xs, xs[i], q, List.getElem?_eq_getElem hlt⟩, fun v H3 y => ?_⟩
    obtain ⟨T, x, rfl, hT, rfl, hx⟩ := y
    exact ⟨T, _, rfl, SqT.of upd_same, rfl, _, _, rfl, _, _, rfl, rfl, @iteT _ (CN Pv xs.length D i ys ((σ.set j1 (some (.int (i : Int)))).set j2 (some x)) (upd H' T (.tup [.int (i : Int), x]))) (hs D i x ys σ H' T hD (hx xs q) hlt p hT)⟩
  · have e : i = xs.length := by omega
    subst e
    exact .inl ⟨⟨xs, q, Nat.le_refl _⟩, hd D ys σ H' hD p⟩
/-- tuples stand -/
def Tst (K : PySem.W.Frag) (H H' : Hp) : Prop := ∀ q xs, SqT K H q xs → SqT K H' q xs
theorem Tst.trans {K : PySem.W.Frag} {H H1 H2 : Hp} (a : Tst K H H1) (b : Tst K H1 H2) : Tst K H H2 := fun q xs h => b q xs (a q xs h)
theorem Tst.keep {K : PySem.W.Frag} {H H' : Hp} (k : ∀ b o, H b = some o → H' b = some o) : Tst K H H' := fun q xs h => SameX.sqT (N := fun _ => False) (fun b o e _ => k b o e) (fun z => z) h
theorem Tst.lst {K : PySem.W.Frag} {H : Hp} {D : Addr} {ys zs : List V} (hD : H D = some (.lst ys)) : Tst K H (upd H D (.lst zs)) := fun q xs h => sqT_upd h hD
mutual
def noL : Dt → Bool
  | .lst _ => false
  | .tup l => noLL l
  | _ => true
def noLL : List Dt → Bool
  | [] => true
  | d :: r => noL d && noLL r
end
mutual
theorem Rep.ts {K : PySem.W.Frag} {H H' : Hp} (t : Tst K H H') : ∀ {d : Dt} {v : V}, noL d = true → Rep K (fun _ => False) H d v → Rep K (fun _ => False) H' d v
  | .non, v, _, h => by unfold Rep at *; exact h
  | .bl b, v, _, h => by unfold Rep at *; exact h
  | .int b, v, _, h => by unfold Rep at *; exact h
  | .str b, v, _, h => by unfold Rep at *; exact h
  | .lst l, v, n, h => by simp [noL] at n
  | .tup l, v, n, h => by
    unfold Rep at *
    obtain ⟨a, xs, rfl, na, s, r⟩ := h
    exact ⟨a, xs, rfl, na, t a xs s, RepL.ts t (by simpa [noL] using n) r⟩
theorem RepL.ts {K : PySem.W.Frag} {H H' : Hp} (t : Tst K H H') : ∀ {l : List Dt} {xs : List V}, noLL l = true → RepL K (fun _ => False) H l xs → RepL K (fun _ => False) H' l xs
  | [], xs, _, h => by unfold RepL at *; exact h
  | d :: r, xs, n, h => by
    unfold RepL at *
    obtain ⟨x, ys, rfl, h1, h2⟩ := h
    simp only [noLL, Bool.and_eq_true] at n
    exact ⟨x, ys, rfl, Rep.ts t n.1 h1, RepL.ts t n.2 h2⟩
end
theorem noLL_app : ∀ {l q : List Dt}, noLL l = true → noLL q = true → noLL (l ++ q) = true
  | [], q, _, h => h
  | d :: r, q, h, h2 => by
    simp only [noLL, Bool.and_eq_true] at h
    show (noL d && noLL (r ++ q)) = true
    rw [h.1, noLL_app h.2 h2]; rfl
theorem noLL_map {α : Type} {f : α → Dt} (h : ∀ x, noL (f x) = true) : ∀ {l : List α}, noLL (l.map f) = true
  | [] => rfl
  | x :: r => by show (noL (f x) && noLL (r.map f)) = true; rw [h x, noLL_map h]; rfl
end L2
namespace Ro
open PySem L2
theorem StAt.ts {K : PySem.W.Frag} {H H' : Hp} {p c : Addr} {n : Nat} (S : StAt H p c n) (x : SameX (AtS p c) H H') : Tst K H H' := by
  intro q xs h
  rcases h with (h | ⟨o, h⟩) | h
  · exact .inl (.inl (x q _ h (S.notT h)))
  · refine .inl (.inr ⟨o, x q _ h ?_⟩)
    obtain ⟨t, ns, h1, h2, _⟩ := S.ex
    rintro (rfl | rfl)
    · rw [h1] at h; cases h
    · rw [h2] at h; cases h
  · exact .inr h
theorem noL_D2 (f : Int × Int) : noL (D2 f) = true := rfl
theorem noL_rw (rw : Rw) : noL rw.toD = true := by
  cases rw with
  | of n p => rfl
  | left n p => rfl
  | len n k => rfl
  | steps n rs l =>
    show (true && (true && (noLL (rs.map rateD ++ [.tup [.non, D2 l]]) && true))) = true
    rw [noLL_app (noLL_map fun _ => rfl) rfl]; rfl
theorem repF_of {K : PySem.W.Frag} {H : Hp} : ∀ {fs : Fs} {ys : List V}, fs.length = ys.length → (∀ (i : Nat) (f : Int × Int), fs[i]? = some f → ∃ q, ys[i]? = some (V.ref q) ∧ SqT K H q [.int f.1, .int f.2]) → RepL K NoA H (fs.map D2) ys
  | [], [], _, _ => by show RepL K _ _ [] []; unfold RepL; rfl
  | [], _ :: _, h, _ => by simp at h
  | _ :: _, [], h, _ => by simp at h
  | f :: r, y :: ys, h, g => by
    show RepL K NoA H (D2 f :: r.map D2) _
    unfold RepL
    obtain ⟨q, e, s⟩ := g 0 f rfl
    have e' : y = .ref q := by simpa using e
    subst e'
    exact ⟨_, _, rfl, rep_of_D2 (fun z => z) s, repF_of (by simpa using h) fun i f' hf => by
      obtain ⟨q', e2, s2⟩ := g (i + 1) f' (by simpa using hf)
      exact ⟨q', by simpa using e2, s2⟩⟩
theorem repF_get {K : PySem.W.Frag} {H : Hp} {fs : Fs} {ys : List V} (h : RepL K NoA H (fs.map D2) ys) {i : Nat} {f : Int × Int} (e : fs[i]? = some f) : ∃ q, ys[i]? = some (.ref q) ∧ SqT K H q [.int f.1, .int f.2] := by
  obtain ⟨x, ex, rx⟩ := h.get (d := D2 f) (by rw [List.getElem?_map, e]; rfl)
  obtain ⟨q, rfl, _, s⟩ := rep_D2 rx
  exact ⟨q, ex, s⟩
theorem repF_len {K : PySem.W.Frag} {H : Hp} {fs : Fs} {ys : List V} (h : RepL K NoA H (fs.map D2) ys) : fs.length = ys.length := by rw [← h.length, List.length_map]
end Ro

set_option Elab.async false
set_option linter.all false
set_option maxRecDepth 100000
set_option maxHeartbeats 4000000
namespace Ro
open PySem L2
section
variable {P : Program} {w : World} {K : PySem.W.Frag} {mg : Str → Option Value} {base : Heap}
theorem cut_last (xs : List V) (h : 1 ≤ xs.length) : cutV xs none (some (-1)) = xs.dropLast := by
  unfold cutV
  have e : HT.sIx xs.length xs.length (some (-1)) = xs.length - 1 := by
    show (if (-1 : Int) < 0 then ((-1 : Int) + (xs.length : Int)).toNat else min (-1 : Int).toNat xs.length) = _
    rw [if_pos (by decide)]
    omega
  rw [e, HT.sIx_none, List.drop_zero, Nat.sub_zero, List.dropLast_eq_take]
theorem atI_last {xs : List V} (h : 1 ≤ xs.length) {v : V} (e : xs[xs.length - 1]? = some v) : atI xs (-1) = some v := by
  unfold atI
  have q : ixN xs.length (-1) = some (xs.length - 1) := by
    unfold ixN
    rw [if_neg (by decide), if_pos (by omega)]
    congr 1
    omega
  rw [q]
  exact e
theorem ixN_nat {n j : Nat} (h : j < n) : ixN n (j : Int) = some j := by
  unfold ixN
  rw [if_pos (by omega), if_pos (by omega)]
  rfl
def spStepped (K : PySem.W.Frag) : Sp := fun vs H Q _ => ∃ (p c qp : Addr) (n : Nat) (nm : Str) (f : Int × Int), vs = [.ref p, .str nm, .ref qp] ∧ StAt H p c n ∧ n < 800000000 ∧ SqT K H qp [.int f.1, .int f.2] ∧ PartOk f ∧
  ∀ q rw H', Rep K NoA H' (Rw.toD rw) (.ref q) → rw.fin → StAt H' p c (n + 3) → SameX (AtS p c) H H' → Q (.ref q) H'
theorem scStepped : FnScope ["_law_state", "_law_name", "_law_part_here", "_law_least", "_law_parts"] ["_law_state", "_law_name", "_law_part_here"] (defScope sStepped) := ⟨rfl, rfl, rfl, by decide +kernel, rfl, by decide +kernel, by decide +kernel⟩
theorem ok_stepped {f g gl : Addr} {fd gd dl : FuncData} (F : Fun K "_law_stepped" "_law_stepped" sStepped f fd) (G : FnOk P w K mg base CX0 1 g gd ["_law_state", "_law_many"] spTake) (bG : Binds K gd ["_law_state", "_law_many"] []) (mG : mg "_law_take" = some (.ref g)) (kG : PySem.W.keepIn K (.ref g) = true)
    (GL : FnOk P w K mg base CX0 1 gl dl ["_law_top", "_law_below"] spLow) (bL : Binds K dl ["_law_top", "_law_below"] []) (mL : mg "_law_lowest" = some (.ref gl)) (kL : PySem.W.keepIn K (.ref gl) = true)
    (z0 : mg "len" = none) (z1 : mg "tuple" = none) (z2 : mg "enumerate" = none) : FnOk P w K mg base CX0 2 f fd ["_law_state", "_law_name", "_law_part_here"] (spStepped K) := by
  refine F.ok scStepped (fun vs H Q E h => ?_) (fun cdv A outer s H vs Q E hr h => ?_)
  · obtain ⟨p, c, qp, n, nm, f, rfl, _⟩ := h
    rfl
  · obtain ⟨p, c, qp, n, nm, fp, rfl, S, hn, sqp, hfp, k⟩ := h
    have nd2 : List.Nodup [("_law_k" : Str), "_law_one"] := by decide +kernel
    refine ⟨_, pss_cons (ps_set (i := 3) scStepped.nd rfl (Or.inl rfl) (pe_call GL hr rfl mL kL bL .nil pass0 (pa_cons pe_int (pa_cons pe_int pa_nil))))
      (pss_cons (ps_set (i := 4) scStepped.nd rfl (Or.inl rfl) (pe_op op_rep (pe_lst (pa_cons (pv 3) pa_nil)) (pe_op op_add pe_int (pe_call G hr rfl mG kG bG .nil pass0 (pa_cons (pv 0) (pa_cons pe_int pa_nil))))))
      (pss_cons (ps_asg (pv 2) (pg_sub (pv 4) (pe_call G hr rfl mG kG bG .nil pass0 (pa_cons (pv 0) (pa_cons (pe_callB call_len_seq (by rfl) z0 PySem.boot_len (pa_cons (pv 4) pa_nil)) pa_nil))) set_list))
      (pss_one (ps_ret (pe_tup (pa_cons pe_str (pa_cons (pv 1) (pa_cons (pe_op op_catT (pe_callTy call_tuple_of (by rfl) z1 boot_tuple (pa_cons (pe_comp [("_law_k", none), ("_law_one", none)] (CompScope.of rfl (by decide +kernel) (by decide +kernel) (by decide +kernel) trivial) rfl (pi_enum (by rfl) z2 (pe_slice sl_list (pv 4) po_none (po_some (pe_un un_neg pe_int))))
          (fun _ _ _ _ _ => pg_tupK (n := 2) (K := K) rfl rfl (pgs_cons (pg_name (i := 0) nd2 rfl (Or.inl rfl)) (pgs_cons (pg_name (i := 1) nd2 rfl (Or.inl rfl)) pgs_nil))) (fun _ _ _ _ _ => pif_nil)
          (fun _ _ _ _ _ => pe_tup (pa_cons (pe_op op_add pe_int (pe_op op_mulG pe_int (pv 0))) (pa_cons (pv 1) pa_nil)))) pa_nil)) (pe_tup (pa_cons (pe_tup (pa_cons pe_non (pa_cons (pe_ix ix_list (pv 4) (pe_un un_neg pe_int) (fun _ _ => rfl)) pa_nil))) pa_nil))) pa_nil)))))))), ?_⟩
    refine ⟨1, 60, rfl, by decide, fit9 (by unfold Fit; decide), fit9 (by unfold Fit; decide), fun q0 hq0 => ?_⟩
    have S1 := S.new (o := .tup [.int (fr 1 60).1, .int (fr 1 60).2]) hq0
    have x1 : SameX (AtS p c) H (upd H q0 (.tup [.int (fr 1 60).1, .int (fr 1 60).2])) := SameX.new hq0
    have e1 : upd H q0 (.tup [.int (fr 1 60).1, .int (fr 1 60).2]) q0 = some (.tup [.int (fr 1 60).1, .int (fr 1 60).2]) := upd_same
    have sq1 : SqT K (upd H q0 (.tup [.int (fr 1 60).1, .int (fr 1 60).2])) qp [.int fp.1, .int fp.2] := S.ts x1 _ _ sqp
    generalize upd H q0 (.tup [.int (fr 1 60).1, .int (fr 1 60).2]) = H1 at *
    -- the list
    refine ⟨_, rfl, (by show 1 ≤ sizeLine; decide), fun l1 hl1 => ?_⟩
    have nl1 := S1.not hl1
    have S2 := S1.new (o := .lst [.ref q0]) hl1
    have x2 : SameX (AtS p c) H (upd H1 l1 (.lst [.ref q0])) := x1.trans (SameX.new hl1)
    have e2 : upd H1 l1 (.lst [.ref q0]) l1 = some (.lst [.ref q0]) := upd_same
    have t2 : Tst K H1 (upd H1 l1 (.lst [.ref q0])) := Tst.keep fun b o e => by rw [upd_ne (ne_of_none e hl1)]; exact e
    generalize upd H1 l1 (.lst [.ref q0]) = H2 at *
    refine ⟨_, rfl, p, c, n, 3, rfl, S2, by omega, by decide, fit9 (by unfold Fit; decide), fun r3 H3 h30 h31 S3 x3 => ?_⟩
    have t3 := t2.trans (S2.ts x3)
    obtain ⟨m, rfl⟩ := Int.eq_ofNat_of_zero_le h30
    refine ⟨_, _, rfl, rfl, l1, 2 + (m : Int), _, rfl, rfl, x3 _ _ e2 nl1, by omega, by omega, (by have : (2 + (m : Int)).toNat ≤ 4 := by omega
                                                                                                   exact Nat.le_of_lt (small1000 (by show 1 * _ ≤ 1000; omega))), fun D hD => ?_⟩
    have eL : (List.replicate (2 + (m : Int)).toNat [V.ref q0]).flatten = List.replicate (2 + m) (V.ref q0) := by
      rw [show (2 + (m : Int)).toNat = 2 + m by omega]
      exact List.flatten_replicate_singleton
    rw [eL]
    have nD := S3.not hD
    have S4 := S3.new (o := .lst (List.replicate (2 + m) (V.ref q0))) hD
    have x4 : SameX (AtS p c) H (upd H3 D (.lst (List.replicate (2 + m) (V.ref q0)))) := (x2.trans x3).trans (SameX.new hD)
    have e4 : upd H3 D (.lst (List.replicate (2 + m) (V.ref q0))) D = some (.lst (List.replicate (2 + m) (V.ref q0))) := upd_same
    have t4 : Tst K H1 (upd H3 D (.lst (List.replicate (2 + m) (V.ref q0)))) := t3.trans (Tst.keep fun b o e => by rw [upd_ne (ne_of_none e hD)]; exact e)
    have hDH : H D = none := fresh1 (x2.trans x3) S3 hD
    generalize upd H3 D (.lst (List.replicate (2 + m) (V.ref q0))) = H4 at *
    clear S2 x2 e2 t2 S3 x3 t3 hD eL nl1
    -- one of them
    refine ⟨_, rfl, _, rfl, _, rfl, _, rfl, D, _, rfl, .inl (SqL.of e4), p, c, _, _, rfl, S4, by omega, (by rw [List.length_replicate]; omega), (by rw [List.length_replicate]; exact fit9 (fit_of_lt (by omega) (by omega))), fun r5 H5 h50 h51 S5 x5 => ?_⟩
    rw [List.length_replicate] at h51
    obtain ⟨j, rfl⟩ := Int.eq_ofNat_of_zero_le h50
    have hj : j < 2 + m := by omega
    have e5 : H5 D = some (.lst (List.replicate (2 + m) (V.ref q0))) := x5 _ _ e4 nD
    have t5 : Tst K H1 H5 := t4.trans (S4.ts x5)
    refine ⟨D, _, (j : Int), j, rfl, rfl, e5, ixN_nat (by rw [List.length_replicate]; exact hj), ?_⟩
    have rF : RepL K NoA (upd H5 D (.lst ((List.replicate (2 + m) (V.ref q0)).set j (.ref qp)))) (((List.replicate (2 + m) (fr 1 60)).set j fp).map D2) ((List.replicate (2 + m) (V.ref q0)).set j (.ref qp)) := by
      have t6 : Tst K H1 (upd H5 D (.lst ((List.replicate (2 + m) (V.ref q0)).set j (.ref qp)))) := t5.trans (Tst.lst e5)
      refine repF_of (by simp) fun i f hf => ?_
      by_cases hij : j = i
      · subst hij
        rw [List.getElem?_set_self (by rw [List.length_replicate]; exact hj)] at hf
        cases hf
        exact ⟨qp, by rw [List.getElem?_set_self (by rw [List.length_replicate]; exact hj)], t6 _ _ sq1⟩
      · rw [List.getElem?_set_ne hij] at hf
        have hil : i < 2 + m := by
          have := (List.getElem?_eq_some_iff.mp hf).1
          rwa [List.length_replicate] at this
        rw [List.getElem?_replicate_of_lt hil] at hf
        cases hf
        exact ⟨q0, by rw [List.getElem?_set_ne hij, List.getElem?_replicate_of_lt hil], t6 _ _ (SqT.of e1)⟩
    have hpo : ∀ f ∈ (List.replicate (2 + m) (fr 1 60)).set j fp, PartOk f := fun f hf => by
      rcases List.mem_or_eq_of_mem_set hf with h | h
      · rw [(List.mem_replicate.mp h).2]; exact fr_part (by decide) (by decide) (by decide)
      · rw [h]; exact hfp
    have e6 : upd H5 D (.lst ((List.replicate (2 + m) (V.ref q0)).set j (.ref qp))) D = some (.lst ((List.replicate (2 + m) (V.ref q0)).set j (.ref qp))) := upd_same
    have S6 : StAt (upd H5 D (.lst ((List.replicate (2 + m) (V.ref q0)).set j (.ref qp)))) p c (n + 2) := by
      obtain ⟨tt, ns', g1, g2, g3, g4, g5, g6⟩ := S5.ex
      have m1 : p ≠ D := fun z => nD (.inl z.symm)
      have m2 : c ≠ D := fun z => nD (.inr z.symm)
      exact ⟨tt, ns', by rw [upd_ne m1]; exact g1, by rw [upd_ne m2]; exact g2, g3, g4, g5, by omega⟩
    have x6 : SameX (AtS p c) H (upd H5 D (.lst ((List.replicate (2 + m) (V.ref q0)).set j (.ref qp)))) := fun b o e nb => by
      rw [upd_ne (ne_of_none e hDH)]
      exact x5 _ _ (x4 b o e nb) nb
    have hitl : ((List.replicate (2 + m) (V.ref q0)).set j (.ref qp)).length = 2 + m := by simp
    have hfsl : ((List.replicate (2 + m) (fr 1 60)).set j fp).length = 2 + m := by simp
    generalize upd H5 D (.lst ((List.replicate (2 + m) (V.ref q0)).set j (.ref qp))) = H6 at *
    generalize (List.replicate (2 + m) (V.ref q0)).set j (.ref qp) = its at *
    generalize (List.replicate (2 + m) (fr 1 60)).set j fp = fs at *
    clear S4 x4 e4 t4 S5 x5 e5 t5 S1 x1 e1 sq1
    -- the row
    refine ⟨_, rfl, _, rfl, _, rfl, _, rfl, D, _, rfl, SqL.of e6, fun sl hsl => ?_⟩
    rw [cut_last its (by omega)]
    have k7 : ∀ b o, H6 b = some o → upd H6 sl (.lst its.dropLast) b = some o := fun b o e => by rw [upd_ne (ne_of_none e hsl)]; exact e
    have e7 : upd H6 sl (.lst its.dropLast) sl = some (.lst its.dropLast) := upd_same
    generalize upd H6 sl (.lst its.dropLast) = H7 at *
    refine ⟨sl, rfl, ⟨_, SqL.of e7⟩, ?_⟩
    refine comp_enum (xs := its.dropLast) 0 1 (fun D2' i zs σ H' => (∃ v0 v1, σ = [v0, v1]) ∧ H' D2' = some (.lst zs) ∧ zs.length = i ∧ (∀ b o, H7 b = some o → H' b = some o) ∧ ∃ rs : List (Int × (Int × Int)), rs.length = i ∧ (∀ r ∈ rs, PartOk r.2) ∧ RepL K NoA H' (rs.map rateD) zs) ?_ ?_ ?_ ?_
    · intro D2' hD2
      exact ⟨⟨none, none, rfl⟩, upd_same, rfl, fun b o e => by rw [upd_ne (ne_of_none e hD2)]; exact e, [], rfl, (fun _ h => nomatch h), by show RepL K _ _ [] []; unfold RepL; rfl⟩
    · rintro D2' i zs σ H' hD2 ⟨_, _, _, kk, _⟩
      exact SqL.of (kk _ _ e7)
    · rintro D2' i x zs σ H' T hD2 hx hi ⟨⟨v0, v1, rfl⟩, eD2, hzl, kk, rs, hrl, hrp, hrr⟩ hT
      have hi' : i < its.length - 1 := by rw [List.length_dropLast] at hi; exact hi
      have hfi : i < fs.length := by omega
      obtain ⟨qi, eqi, sqi⟩ := repF_get rF (List.getElem?_eq_getElem hfi)
      have hxi : x = .ref qi := by
        rw [List.getElem?_dropLast, if_pos hi'] at hx
        rw [hx] at eqi
        exact Option.some.inj eqi
      subst hxi
      have kT : ∀ b o, H' b = some o → upd H' T (.tup [.int (i : Int), .ref qi]) b = some o := fun b o e => by rw [upd_ne (ne_of_none e hT)]; exact e
      generalize upd H' T (.tup [.int (i : Int), .ref qi]) = HT' at *
      refine ⟨_, rfl, _, _, rfl, rfl, ⟨(show Fit 10 2 by unfold Fit; decide).mono (by decide), (fit_of_lt (n := 64) (by omega) (by omega)).mono (by decide)⟩, _, _, rfl, rfl, _, rfl, (by show 2 ≤ sizeLine; decide), fun t2 ht2 => ?_⟩
      have k2 : ∀ b o, HT' b = some o → upd HT' t2 (.tup [.int (3 + 2 * (i : Int)), .ref qi]) b = some o := fun b o e => by rw [upd_ne (ne_of_none e ht2)]; exact e
      have e2 : upd HT' t2 (.tup [.int (3 + 2 * (i : Int)), .ref qi]) t2 = some (.tup [.int (3 + 2 * (i : Int)), .ref qi]) := upd_same
      generalize hHU : upd HT' t2 (.tup [.int (3 + 2 * (i : Int)), .ref qi]) = HU at *
      have eDU : HU D2' = some (.lst zs) := k2 _ _ (kT _ _ eD2)
      have tU : Tst K HU (upd HU D2' (.lst (zs ++ [.ref t2]))) := Tst.lst eDU
      have t0 : Tst K H' HU := (Tst.keep kT).trans (Tst.keep k2)
      have kH : ∀ b o, H7 b = some o → HU b = some o := fun b o e => k2 _ _ (kT _ _ (kk b o e))
      refine ⟨eDU, small1000 (by omega), CN.mk hi ⟨⟨_, _, rfl⟩, upd_same, by rw [List.length_append, hzl]; rfl, fun b o e => ?_, rs ++ [(3 + 2 * (i : Int), fs[i])], by rw [List.length_append, hrl]; rfl, fun r hr => ?_, ?_⟩⟩
      · rw [upd_ne (ne_of_none e hD2)]; exact kH b o e
      · rcases List.mem_append.mp hr with h | h
        · exact hrp r h
        · rw [List.mem_singleton.mp h]; exact hpo _ (List.getElem_mem hfi)
      · rw [List.map_append]
        refine RepL.snoc (RepL.ts (t0.trans tU) (noLL_map fun _ => rfl) hrr) ?_
        have s2 : SqT K (upd HU D2' (.lst (zs ++ [.ref t2]))) t2 [.int (3 + 2 * (i : Int)), .ref qi] := tU _ _ (SqT.of e2)
        have sp : SqT K (upd HU D2' (.lst (zs ++ [.ref t2]))) qi [.int fs[i].1, .int fs[i].2] := tU _ _ ((Tst.keep fun b o e => kH b o (k7 b o e)) _ _ sqi)
        show Rep K NoA _ (.tup [.int (3 + 2 * (i : Int)), D2 fs[i]]) (.ref t2)
        unfold Rep
        refine ⟨t2, _, rfl, fun z => z, s2, ?_⟩
        unfold RepL
        refine ⟨_, _, rfl, rep_int, ?_⟩
        unfold RepL
        exact ⟨_, _, rfl, rep_of_D2 (fun z => z) sp, by unfold RepL; rfl⟩
    · rintro D2' zs σ H8 hD2 ⟨_, eD2, hzl, kk, rs, hrl, hrp, hrr⟩
      rw [List.length_dropLast, hitl] at hzl hrl
      refine ⟨D2', _, rfl, .inl ⟨SqL.of eD2, fun tu htu => ?_⟩⟩
      have k9 : ∀ b o, H8 b = some o → upd H8 tu (.tup zs) b = some o := fun b o e => by rw [upd_ne (ne_of_none e htu)]; exact e
      have e9 : upd H8 tu (.tup zs) tu = some (.tup zs) := upd_same
      generalize upd H8 tu (.tup zs) = H9 at *
      have hlf : its.length - 1 < fs.length := by omega
      obtain ⟨ql, eql, sql⟩ := repF_get rF (List.getElem?_eq_getElem hlf)
      have eD9 : H9 D = some (.lst its) := k9 _ _ (kk _ _ (k7 _ _ e6))
      refine ⟨_, rfl, _, rfl, D, _, _, _, rfl, rfl, SqL.of eD9, atI_last (by omega) eql, (by show 2 ≤ sizeLine; decide), fun t3 ht3 => ⟨(by show 1 ≤ sizeLine; decide), fun t4 ht4 => ?_⟩⟩
      have kA : ∀ b o, H9 b = some o → upd H9 t3 (.tup [.non, .ref ql]) b = some o := fun b o e => by rw [upd_ne (ne_of_none e ht3)]; exact e
      have eA : upd H9 t3 (.tup [.non, .ref ql]) t3 = some (.tup [.non, .ref ql]) := upd_same
      generalize upd H9 t3 (.tup [.non, .ref ql]) = HA at *
      have kB : ∀ b o, HA b = some o → upd HA t4 (.tup [.ref t3]) b = some o := fun b o e => by rw [upd_ne (ne_of_none e ht4)]; exact e
      have eB : upd HA t4 (.tup [.ref t3]) t4 = some (.tup [.ref t3]) := upd_same
      generalize upd HA t4 (.tup [.ref t3]) = HB at *
      refine ⟨tu, t4, zs, [.ref t3], rfl, rfl, SqT.of (kB _ _ (kA _ _ e9)), SqT.of eB, (by intro z; rw [z] at hzl; simp at hzl; omega), (by rw [hzl]; exact Nat.le_of_lt (small1000 (by show 2 + m - 1 + 1 ≤ 1000; omega))), (fun z => nomatch z), fun _ t5 ht5 => ?_⟩
      have kC : ∀ b o, HB b = some o → upd HB t5 (.tup (zs ++ [.ref t3])) b = some o := fun b o e => by rw [upd_ne (ne_of_none e ht5)]; exact e
      have eC : upd HB t5 (.tup (zs ++ [.ref t3])) t5 = some (.tup (zs ++ [.ref t3])) := upd_same
      generalize upd HB t5 (.tup (zs ++ [.ref t3])) = HC at *
      refine ⟨(by show 3 ≤ sizeLine; decide), fun q3 hq3 => ?_⟩
      have kD : ∀ b o, HC b = some o → upd HC q3 (.tup [.str "steps", .str nm, .ref t5]) b = some o := fun b o e => by rw [upd_ne (ne_of_none e hq3)]; exact e
      have k8D : ∀ b o, H8 b = some o → upd HC q3 (.tup [.str "steps", .str nm, .ref t5]) b = some o := fun b o e => kD _ _ (kC _ _ (kB _ _ (kA _ _ (k9 _ _ e))))
      have k6D : ∀ b o, H6 b = some o → upd HC q3 (.tup [.str "steps", .str nm, .ref t5]) b = some o := fun b o e => k8D _ _ (kk _ _ (k7 _ _ e))
      refine k q3 (.steps nm rs fs[its.length - 1]) _ (rep_tup3 upd_same (fun z => z) ?_) ⟨hrp, hpo _ (List.getElem_mem hlf), by omega⟩ ((S6.keep k6D).mono (by omega)) (x6.trans fun b o e _ => k6D b o e)
      unfold Rep
      refine ⟨t5, _, rfl, fun z => z, SqT.of (kD _ _ eC), ?_⟩
      refine RepL.snoc (RepL.ts (Tst.keep k8D) (noLL_map fun _ => rfl) hrr) ?_
      exact rep_pair (kD _ _ (kC _ _ (kB _ _ eA))) (fun z => z) rep_non (rep_of_D2 (fun z => z) ((Tst.keep k6D) _ _ sql))
end
end Ro

set_option Elab.async false
set_option linter.all false
set_option maxRecDepth 100000
set_option maxHeartbeats 4000000
namespace Ro
open PySem L2
section
variable {P : Program} {w : World} {K : PySem.W.Frag} {mg : Str → Option Value} {base : Heap}
def CutAt (K : PySem.W.Frag) (H : Hp) (p c : Addr) (n : Nat) (D : Addr) (fs : Fs) (H' : Hp) : Prop := ∃ ys, H' D = some (.lst ys) ∧ RepL K NoA H' (fs.map D2) ys ∧ (∀ f ∈ fs, PartOk f) ∧ 2 ≤ fs.length ∧ fs.length ≤ 3 ∧ ¬ AtS p c D ∧ H D = none ∧ StAt H' p c (n + 3) ∧ SameX (AtS p c) H H'
def spCut (K : PySem.W.Frag) : Sp := fun vs H Q _ => ∃ (p c : Addr) (n : Nat), vs = [.ref p] ∧ StAt H p c n ∧ n < 800000000 ∧ ∀ D fs H', CutAt K H p c n D fs H' → Q (.ref D) H'
theorem scCut : FnScope ["_law_state", "_law_belows", "_law_first", "_law_parts", "_law_way", "_law_half"] ["_law_state"] (defScope sCut) := ⟨rfl, rfl, rfl, by decide +kernel, rfl, by decide +kernel, by decide +kernel⟩
theorem pick9 {r : Int} (h0 : 0 ≤ r) (h1 : r < 9) : ∃ v : Int, atI [V.int 2, V.int 3, V.int 4, V.int 5, V.int 7, V.int 12, V.int 30, V.int 60, V.int 59] r = some (.int v) ∧ 2 ≤ v ∧ v ≤ 60 := by
  have hr : r = 0 ∨ r = 1 ∨ r = 2 ∨ r = 3 ∨ r = 4 ∨ r = 5 ∨ r = 6 ∨ r = 7 ∨ r = 8 := by omega
  rcases hr with rfl | rfl | rfl | rfl | rfl | rfl | rfl | rfl | rfl
  · exact ⟨2, rfl, by decide, by decide⟩
  · exact ⟨3, rfl, by decide, by decide⟩
  · exact ⟨4, rfl, by decide, by decide⟩
  · exact ⟨5, rfl, by decide, by decide⟩
  · exact ⟨7, rfl, by decide, by decide⟩
  · exact ⟨12, rfl, by decide, by decide⟩
  · exact ⟨30, rfl, by decide, by decide⟩
  · exact ⟨60, rfl, by decide, by decide⟩
  · exact ⟨59, rfl, by decide, by decide⟩
theorem cut_1 (xs : List V) : cutV xs none (some 1) = xs.take 1 := by
  unfold cutV
  have e : HT.sIx xs.length xs.length (some 1) = min 1 xs.length := by
    show (if (1 : Int) < 0 then ((1 : Int) + (xs.length : Int)).toNat else min (1 : Int).toNat xs.length) = _
    rw [if_neg (by decide)]
    rfl
  rw [e, HT.sIx_none, List.drop_zero, Nat.sub_zero]
  by_cases h : 1 ≤ xs.length
  · rw [Nat.min_eq_left h]
  · rw [Nat.min_eq_right (by omega), List.take_of_length_le (Nat.le_refl _), List.take_of_length_le (by omega)]
theorem cut_from1 (xs : List V) : cutV xs (some 1) none = xs.drop 1 := by
  unfold cutV
  have e : HT.sIx xs.length 0 (some 1) = min 1 xs.length := by
    show (if (1 : Int) < 0 then ((1 : Int) + (xs.length : Int)).toNat else min (1 : Int).toNat xs.length) = _
    rw [if_neg (by decide)]
    rfl
  rw [e, HT.sIx_none]
  by_cases h : 1 ≤ xs.length
  · rw [Nat.min_eq_left h, List.take_of_length_le (by rw [List.length_drop]; exact Nat.le_refl _)]
  · have : xs = [] := List.eq_nil_of_length_eq_zero (by omega)
    subst this
    rfl
theorem ok_cut {f g gl : Addr} {fd gd dl : FuncData} (F : Fun K "_law_cut" "_law_cut" sCut f fd) (G : FnOk P w K mg base CX0 1 g gd ["_law_state", "_law_many"] spTake) (bG : Binds K gd ["_law_state", "_law_many"] []) (mG : mg "_law_take" = some (.ref g)) (kG : PySem.W.keepIn K (.ref g) = true)
    (GL : FnOk P w K mg base CX0 1 gl dl ["_law_top", "_law_below"] spLow) (bL : Binds K dl ["_law_top", "_law_below"] []) (mL : mg "_law_lowest" = some (.ref gl)) (kL : PySem.W.keepIn K (.ref gl) = true)
    (z0 : mg "min" = none) (z1 : mg "int" = none) : FnOk P w K mg base CX0 2 f fd ["_law_state"] (spCut K) := by
  refine F.ok scCut (fun vs H Q E h => ?_) (fun cdv A outer s H vs Q E hr h => ?_)
  · obtain ⟨p, c, n, rfl, _⟩ := h
    rfl
  · obtain ⟨p, c, n, rfl, S, hn, k⟩ := h
    refine ⟨_, pss_cons (ps_set (i := 1) scCut.nd rfl (Or.inl rfl) (pe_ix ix_list (pe_lst (pa_cons pe_int (pa_cons pe_int (pa_cons pe_int (pa_cons pe_int (pa_cons pe_int (pa_cons pe_int (pa_cons pe_int (pa_cons pe_int (pa_cons pe_int pa_nil)))))))))) (pe_call G hr rfl mG kG bG .nil pass0 (pa_cons (pv 0) (pa_cons pe_int pa_nil))) (fun _ _ => rfl)))
      (pss_cons (ps_set (i := 2) scCut.nd rfl (Or.inl rfl) (pe_op op_add pe_int (pe_call G hr rfl mG kG bG .nil pass0 (pa_cons (pv 0) (pa_cons (pe_op op_sub (pv 1) pe_int) pa_nil)))))
      (pss_cons (ps_set (i := 3) scCut.nd rfl (Or.inl rfl) (pe_lst (pa_cons (pe_call GL hr rfl mL kL bL .nil pass0 (pa_cons (pv 2) (pa_cons (pv 1) pa_nil))) (pa_cons (pe_call GL hr rfl mL kL bL .nil pass0 (pa_cons (pe_op op_sub (pv 1) (pv 2)) (pa_cons (pv 1) pa_nil))) pa_nil))))
      (pss_cons (ps_set (i := 4) scCut.nd rfl (Or.inl rfl) (pe_call G hr rfl mG kG bG .nil pass0 (pa_cons (pv 0) (pa_cons pe_int pa_nil))))
      (pss_cons (ps_mid (ps_if (pt_cmpR op_eq (pv 4) pe_int (nomark _)) (pss_one (ps_expr (pe_bm PySem.F.plainAttrs_list PySem.F.slot_list_append PySem.F.type_list_append mt_append (pv 3) (pa_cons (pe_tup (pa_cons pe_int (pa_cons pe_int pa_nil))) pa_nil)))) pss_nil))
      (pss_cons (ps_mid (ps_if (PW.pt (pw_and (pt_cmpR op_eq (pv 4) pe_int (nomark _)) (pw_and1 (pt_cmpR op_gt (pe_op op_mulG (pe_ix ix_tup (pe_ix ix_list (pv 3) pe_int (fun _ _ => rfl)) pe_int (fun _ _ => rfl)) pe_int) (pe_op op_mulG (pe_ix ix_tup (pe_ix ix_list (pv 3) pe_int (fun _ _ => rfl)) pe_int (fun _ _ => rfl)) pe_int) (nomark _)))))
          (pss_one (ps_asg (pe_call GL hr rfl mL kL bL .nil pass0 (pa_cons (pe_ix ix_tup (pe_ix ix_list (pv 3) pe_int (fun _ _ => rfl)) pe_int (fun _ _ => rfl)) (pa_cons (pe_callB (call_min2 rfl) (by rfl) z0 boot_min (pa_cons pe_int (pa_cons (pe_op op_add (pe_ix ix_tup (pe_ix ix_list (pv 3) pe_int (fun _ _ => rfl)) pe_int (fun _ _ => rfl)) pe_int) pa_nil))) pa_nil))) (pg_sub (pv 3) pe_int set_list))) pss_nil))
      (pss_cons (ps_mid (ps_if (pt_cmpR op_eq (pv 4) pe_int (nomark _))
          (pss_cons (ps_set (i := 5) scCut.nd rfl (Or.inl rfl) (pe_call GL hr rfl mL kL bL .nil pass0 (pa_cons (pe_ix ix_tup (pe_ix ix_list (pv 3) pe_int (fun _ _ => rfl)) pe_int (fun _ _ => rfl)) (pa_cons (pe_op op_mulG pe_int (pe_ix ix_tup (pe_ix ix_list (pv 3) pe_int (fun _ _ => rfl)) pe_int (fun _ _ => rfl))) pa_nil))))
          (pss_one (ps_set (i := 3) scCut.nd rfl (Or.inl rfl) (pe_op op_cat (pe_op op_cat (pe_slice sl_list (pv 3) po_none (po_some pe_int)) (pe_op op_rep (pe_lst (pa_cons (pv 5) (pa_cons (pv 5) pa_nil))) (pe_callTy call_int1 (by rfl) z1 boot_int (pa_cons (pe_cmpR op_lt (pe_ix ix_tup (pv 5) pe_int (fun _ _ => rfl)) pe_int (nomark _)) pa_nil))))
            (pe_op op_rep (pe_slice sl_list (pv 3) (po_some pe_int) po_none) (pe_callTy call_int1 (by rfl) z1 boot_int (pa_cons (pe_cmpR op_gt (pe_ix ix_tup (pv 5) pe_int (fun _ _ => rfl)) pe_int (nomark _)) pa_nil))))))) pss_nil))
      (pss_one (ps_ret (pv 3))))))))), ?_⟩
    refine ⟨(by show 9 ≤ sizeLine; decide), fun l hl => ?_⟩
    refine ⟨_, rfl, p, c, n, 9, rfl, S.new hl, by omega, by decide, fit9 (by unfold Fit; decide), fun r1 H1 h10 h11 S1 x1' => ?_⟩
    have x1 : SameX (AtS p c) H H1 := (SameX.new hl).trans x1'
    obtain ⟨be, ebe, hb0, hb1⟩ := pick9 h10 h11
    refine ⟨l, _, r1, _, rfl, rfl, SqL.of (x1' l _ upd_same (S.not hl)), ebe, ?_⟩
    refine ⟨_, rfl, _, rfl, _, _, rfl, rfl, p, c, _, be - 1, rfl, S1, by omega, by omega, fit9 (fit_of_lt (by omega) (by omega)), fun r2 H2 h20 h21 S2 x2 => ?_⟩
    refine ⟨_, _, rfl, rfl, ?_⟩
    -- the two parts
    refine ⟨_, rfl, _, rfl, 1 + r2, be, rfl, by omega, fit9 (fit_of_lt (by omega) (by omega)), fit9 (fit_of_lt (by omega) (by omega)), fun q1 hq1 => ?_⟩
    have k3 : ∀ b o, H2 b = some o → upd H2 q1 (.tup [.int (fr (1 + r2) be).1, .int (fr (1 + r2) be).2]) b = some o := fun b o e => by rw [upd_ne (ne_of_none e hq1)]; exact e
    have e3 : upd H2 q1 (.tup [.int (fr (1 + r2) be).1, .int (fr (1 + r2) be).2]) q1 = some (.tup [.int (fr (1 + r2) be).1, .int (fr (1 + r2) be).2]) := upd_same
    generalize upd H2 q1 (.tup [.int (fr (1 + r2) be).1, .int (fr (1 + r2) be).2]) = H3 at *
    refine ⟨_, rfl, _, rfl, _, _, rfl, rfl, _, rfl, be - (1 + r2), be, rfl, by omega, fit9 (fit_of_lt (by omega) (by omega)), fit9 (fit_of_lt (by omega) (by omega)), fun q2 hq2 => ?_⟩
    have k4 : ∀ b o, H3 b = some o → upd H3 q2 (.tup [.int (fr (be - (1 + r2)) be).1, .int (fr (be - (1 + r2)) be).2]) b = some o := fun b o e => by rw [upd_ne (ne_of_none e hq2)]; exact e
    have e4 : upd H3 q2 (.tup [.int (fr (be - (1 + r2)) be).1, .int (fr (be - (1 + r2)) be).2]) q2 = some (.tup [.int (fr (be - (1 + r2)) be).1, .int (fr (be - (1 + r2)) be).2]) := upd_same
    generalize upd H3 q2 (.tup [.int (fr (be - (1 + r2)) be).1, .int (fr (be - (1 + r2)) be).2]) = H4 at *
    refine ⟨(by show 2 ≤ sizeLine; decide), fun D hD => ?_⟩
    have S4 := (S2.keep k3).keep k4
    have nD := S4.not hD
    have x4 : SameX (AtS p c) H H4 := (x1.trans x2).trans fun b o e _ => k4 _ _ (k3 _ _ e)
    have hDH := fresh1 x4 S4 hD
    have k5 : ∀ b o, H4 b = some o → upd H4 D (.lst [.ref q1, .ref q2]) b = some o := fun b o e => by rw [upd_ne (ne_of_none e hD)]; exact e
    have e5 : upd H4 D (.lst [.ref q1, .ref q2]) D = some (.lst [.ref q1, .ref q2]) := upd_same
    have S5 := S4.keep k5
    generalize upd H4 D (.lst [.ref q1, .ref q2]) = H5 at *
    refine ⟨_, rfl, p, c, _, 4, rfl, S5, by omega, by decide, fit9 (by unfold Fit; decide), fun way H6 h60 h61 S6 x6 => ?_⟩
    have base6 : CutAt K H p c n D [fr (1 + r2) be, fr (be - (1 + r2)) be] H6 := by
      have t6 : Tst K H4 H6 := (Tst.keep k5).trans (S5.ts x6)
      refine ⟨_, x6 _ _ e5 nD, ?_, ?_, Nat.le_refl _, (by show 2 ≤ 3; decide), nD, hDH, S6.mono (by omega), (x4.trans fun b o e _ => k5 b o e).trans x6⟩
      · show RepL K NoA H6 ([] ++ [D2 (fr (1 + r2) be)] ++ [D2 (fr (be - (1 + r2)) be)]) ([] ++ [.ref q1] ++ [.ref q2])
        exact RepL.snoc (RepL.snoc (by unfold RepL; rfl) (rep_of_D2 (fun z => z) (t6 _ _ (SqT.of (k4 _ _ e3))))) (rep_of_D2 (fun z => z) (t6 _ _ (SqT.of e4)))
      · intro f hf
        simp only [List.mem_cons, List.not_mem_nil, or_false] at hf
        rcases hf with rfl | rfl
        · exact fr_part (by omega) (by omega) (by omega)
        · exact fr_part (by omega) (by omega) (by omega)
    have hl0 : [fr (1 + r2) be, fr (be - (1 + r2)) be].length = 2 := rfl
    generalize [fr (1 + r2) be, fr (be - (1 + r2)) be] = fs0 at *
    clear e5 S5 k5 x4 e4 k4 e3 k3 S4
    have up : ∀ (D : Addr) (fs : Fs) (H' : Hp) (ys : List V) (fs' : Fs) (ys' : List V), CutAt K H p c n D fs H' → H' D = some (.lst ys) → RepL K NoA (upd H' D (.lst ys')) (fs'.map D2) ys' → (∀ f ∈ fs', PartOk f) → 2 ≤ fs'.length → fs'.length ≤ 3 → CutAt K H p c n D fs' (upd H' D (.lst ys')) := by
      rintro D fs H' ys fs' ys' ⟨ys0, _, _, _, _, _, nD, hDH, SS, xx⟩ _ h2 h3 h4 h5
      refine ⟨ys', upd_same, h2, h3, h4, h5, nD, hDH, ?_, fun b o e nb => by rw [upd_ne (ne_of_none e hDH)]; exact xx b o e nb⟩
      obtain ⟨tt, ns', g1, g2, g3, g4, g5, g6⟩ := SS.ex
      have m1 : p ≠ D := fun z => nD (.inl z.symm)
      have m2 : c ≠ D := fun z => nD (.inr z.symm)
      exact ⟨tt, ns', by rw [upd_ne m1]; exact g1, by rw [upd_ne m2]; exact g2, g3, g4, g5, g6⟩
    have lift : ∀ (D : Addr) (fs : Fs) (H' H'' : Hp), CutAt K H p c n D fs H' → (∀ b o, H' b = some o → H'' b = some o) → CutAt K H p c n D fs H'' := by
      rintro D fs H' H'' ⟨ys, g1, g2, g3, g4, g5, g6, g7, g8, g9⟩ kk
      exact ⟨ys, kk _ _ g1, g2.same (N := NoA) (fun b o e _ => kk b o e), g3, g4, g5, g6, g7, g8.keep kk, g9.trans fun b o e _ => kk b o e⟩
    -- a third part
    refine ⟨fun σ' H' => ∃ D fs v1 v2 v5, σ' = [some (.ref p), v1, v2, some (.ref D), some (.int way), v5] ∧ CutAt K H p c n D fs H' ∧ (way ≠ 0 → fs.length = 2), ?_, ?_⟩
    · refine ⟨_, rfl, rfl, _, rfl, ?_⟩
      refine ite2 (fun hw => ?_) (fun hw => ⟨D, fs0, _, _, _, rfl, base6, fun _ => hl0⟩)
      have hw0 : way = 0 := by have z := of_decide_eq_true hw; cases z; rfl
      obtain ⟨ys, g1, g2, g3, g4, g5, g6, g7, g8, g9⟩ := id base6
      have hyl := repF_len g2
      refine ⟨_, rfl, .inl ⟨rfl, _, SqL.of g1⟩, (by show 2 ≤ sizeLine; decide), fun t ht => ?_⟩
      have kt : ∀ b o, H6 b = some o → upd H6 t (.tup [.int 1, .int 60]) b = some o := fun b o e => by rw [upd_ne (ne_of_none e ht)]; exact e
      have et : upd H6 t (.tup [.int 1, .int 60]) t = some (.tup [.int 1, .int 60]) := upd_same
      generalize upd H6 t (.tup [.int 1, .int 60]) = H7 at *
      have b7 := lift _ _ _ _ base6 kt
      refine ⟨D, ys, _, rfl, rfl, kt _ _ g1, small1000 (by omega), D, fs0 ++ [(1, 60)], _, _, _, rfl, up D fs0 H7 ys _ _ b7 (kt _ _ g1) ?_ ?_ (by rw [List.length_append, hl0]; decide) (by rw [List.length_append, hl0]; decide), fun z => absurd hw0 z⟩
      · rw [List.map_append]
        exact RepL.snoc (RepL.ts ((Tst.keep kt).trans (Tst.lst (kt _ _ g1))) (noLL_map noL_D2) g2) (rep_of_D2 (f := (1, 60)) (fun z => z) (sqT_upd (SqT.of et) (kt _ _ g1)))
      · intro f hf
        rcases List.mem_append.mp hf with h | h
        · exact g3 f h
        · rw [List.mem_singleton.mp h]; exact ⟨by decide, by decide, by decide, by decide⟩
    rintro σ1 H7 ⟨D, fs, v1, v2, v5, rfl, C7, hl7⟩
    clear base6 hl0 nD hDH S6 x6
    -- one of them less
    refine ⟨fun σ' H' => ∃ D fs v1 v2 v5, σ' = [some (.ref p), v1, v2, some (.ref D), some (.int way), v5] ∧ CutAt K H p c n D fs H' ∧ (way = 2 → fs.length = 2), ?_, ?_⟩
    · refine ⟨_, rfl, rfl, _, rfl, ?_⟩
      refine ite2 (fun hw => ?_) (fun hw => iteF ⟨D, fs, _, _, _, rfl, C7, fun z => hl7 (by omega)⟩)
      have hw1 : way = 1 := by have z := of_decide_eq_true hw; cases z; rfl
      have hl2 : fs.length = 2 := hl7 (by omega)
      obtain ⟨ys, g1, g2, g3, g4, g5, g6, g7, g8, g9⟩ := id C7
      have hyl := repF_len g2
      have h0 : 0 < fs.length := by omega
      obtain ⟨q, eq, sq⟩ := repF_get g2 (List.getElem?_eq_getElem h0)
      have hpo := g3 _ (List.getElem_mem h0)
      have hat : atI ys 0 = some (.ref q) := atI_nat (j := 0) eq
      have ff := hpo.fit
      refine ⟨_, rfl, D, _, _, _, rfl, rfl, SqL.of g1, hat, q, _, _, _, rfl, rfl, sq, rfl, _, _, rfl, rfl, ⟨ff.1.mono (by decide), (show Fit 10 60 by unfold Fit; decide).mono (by decide)⟩, _, rfl, D, _, _, _, rfl, rfl, SqL.of g1, hat, q, _, _, _, rfl, rfl, sq, rfl, _, _, rfl, rfl, ⟨ff.2.mono (by decide), (show Fit 10 2 by unfold Fit; decide).mono (by decide)⟩, _, _, rfl, rfl, _, rfl, ?_⟩
      refine ite2 (fun _ => ?_) (fun _ => ⟨D, fs, _, _, _, rfl, C7, fun z => hl2⟩)
      have hmn : fs[0].1 ≤ (if fs[0].2 + 1 < 60 then fs[0].2 + 1 else 60) ∧ (if fs[0].2 + 1 < 60 then fs[0].2 + 1 else 60) ≤ 60 := by
        have := hpo.hi; have := hpo.be
        split <;> omega
      have hlo := hpo.lo
      refine ⟨_, rfl, D, _, _, _, rfl, rfl, SqL.of g1, hat, q, _, _, _, rfl, rfl, sq, rfl, _, rfl, D, _, _, _, rfl, rfl, SqL.of g1, hat, q, _, _, _, rfl, rfl, sq, rfl, _, _, rfl, rfl, _, _, rfl, fs[0].1, (if fs[0].2 + 1 < 60 then fs[0].2 + 1 else 60), rfl, by omega, fit9 (fit_of_lt (by omega) (by omega)), fit9 (fit_of_lt (by omega) (by omega)), fun q' hq' => ?_⟩
      generalize (if fs[0].2 + 1 < 60 then fs[0].2 + 1 else 60) = mn at *
      have kt : ∀ b o, H7 b = some o → upd H7 q' (.tup [.int (fr fs[0].1 mn).1, .int (fr fs[0].1 mn).2]) b = some o := fun b o e => by rw [upd_ne (ne_of_none e hq')]; exact e
      have et : upd H7 q' (.tup [.int (fr fs[0].1 mn).1, .int (fr fs[0].1 mn).2]) q' = some (.tup [.int (fr fs[0].1 mn).1, .int (fr fs[0].1 mn).2]) := upd_same
      generalize upd H7 q' (.tup [.int (fr fs[0].1 mn).1, .int (fr fs[0].1 mn).2]) = H8 at *
      have b8 := lift _ _ _ _ C7 kt
      refine ⟨_, rfl, D, ys, 0, 0, rfl, rfl, kt _ _ g1, ixN_nat (j := 0) (by omega), D, fs.set 0 (fr fs[0].1 mn), _, _, _, rfl, up D fs H8 ys _ _ b8 (kt _ _ g1) ?_ ?_ (by rw [List.length_set]; omega) (by rw [List.length_set]; omega), fun _ => by rw [List.length_set]; exact hl2⟩
      · have tt : Tst K H7 (upd H8 D (.lst (ys.set 0 (.ref q')))) := (Tst.keep kt).trans (Tst.lst (kt _ _ g1))
        refine repF_of (by rw [List.length_set, List.length_set]; exact hyl) fun i f hf => ?_
        by_cases hi : 0 = i
        · subst hi
          rw [List.getElem?_set_self h0] at hf
          cases hf
          exact ⟨q', by rw [List.getElem?_set_self (by omega)], sqT_upd (SqT.of et) (kt _ _ g1)⟩
        · rw [List.getElem?_set_ne hi] at hf
          obtain ⟨qi, e1, s1⟩ := repF_get g2 hf
          exact ⟨qi, by rw [List.getElem?_set_ne hi]; exact e1, tt _ _ s1⟩
      · intro f hf
        rcases List.mem_or_eq_of_mem_set hf with h | h
        · exact g3 f h
        · rw [h]; exact fr_part hlo hmn.1 hmn.2
    rintro σ2 H8 ⟨D', fs', u1, u2, u5, rfl, C8, hl8⟩
    clear C7 hl7
    -- two halves
    refine ⟨fun σ' H' => ∃ D fs v1 v2 v5, σ' = [some (.ref p), v1, v2, some (.ref D), some (.int way), v5] ∧ CutAt K H p c n D fs H', ?_, ?_⟩
    · refine ⟨_, rfl, rfl, _, rfl, ?_⟩
      refine ite2 (fun hw => ?_) (fun hw => ⟨D', fs', _, _, _, rfl, C8⟩)
      have hw2 : way = 2 := by have z := of_decide_eq_true hw; cases z; rfl
      have hl2 : fs'.length = 2 := hl8 hw2
      obtain ⟨ys, g1, g2, g3, g4, g5, g6, g7, g8, g9⟩ := id C8
      have hyl := repF_len g2
      have h1 : 1 < fs'.length := by omega
      have h0 : 0 < fs'.length := by omega
      obtain ⟨q, eq, sq⟩ := repF_get g2 (List.getElem?_eq_getElem h1)
      obtain ⟨qa, eqa, sqa⟩ := repF_get g2 (List.getElem?_eq_getElem h0)
      have hpo := g3 _ (List.getElem_mem h1)
      have hat : atI ys 1 = some (.ref q) := atI_nat (j := 1) eq
      have ff := hpo.fit
      have hlo := hpo.lo; have hhi := hpo.hi; have hbe := hpo.be
      refine ⟨_, rfl, D', _, _, _, rfl, rfl, SqL.of g1, hat, q, _, _, _, rfl, rfl, sq, rfl, _, rfl, D', _, _, _, rfl, rfl, SqL.of g1, hat, q, _, _, _, rfl, rfl, sq, rfl, _, _, rfl, rfl, ⟨(show Fit 10 2 by unfold Fit; decide).mono (by decide), ff.2.mono (by decide)⟩, fs'[1].1, 2 * fs'[1].2, rfl, by omega, fit9 (fit_of_lt (by omega) (by omega)), fit9 (fit_of_lt (by omega) (by omega)), fun qh hqh => ?_⟩
      have kh : ∀ b o, H8 b = some o → upd H8 qh (.tup [.int (fr fs'[1].1 (2 * fs'[1].2)).1, .int (fr fs'[1].1 (2 * fs'[1].2)).2]) b = some o := fun b o e => by rw [upd_ne (ne_of_none e hqh)]; exact e
      have eh : upd H8 qh (.tup [.int (fr fs'[1].1 (2 * fs'[1].2)).1, .int (fr fs'[1].1 (2 * fs'[1].2)).2]) qh = some (.tup [.int (fr fs'[1].1 (2 * fs'[1].2)).1, .int (fr fs'[1].1 (2 * fs'[1].2)).2]) := upd_same
      generalize upd H8 qh (.tup [.int (fr fs'[1].1 (2 * fs'[1].2)).1, .int (fr fs'[1].1 (2 * fs'[1].2)).2]) = H9 at *
      have hhp : 1 ≤ (fr fs'[1].1 (2 * fs'[1].2)).1 ∧ (fr fs'[1].1 (2 * fs'[1].2)).1 ≤ (fr fs'[1].1 (2 * fs'[1].2)).2 ∧ Int.gcd (fr fs'[1].1 (2 * fs'[1].2)).1 (fr fs'[1].1 (2 * fs'[1].2)).2 = 1 := by
        have c1 := fr_cross fs'[1].1 (2 * fs'[1].2) (by omega)
        have c2 := fr_pos fs'[1].1 (2 * fs'[1].2) (by omega)
        refine ⟨?_, ?_, fr_gcd _ _ (by omega)⟩
        · refine Int.not_lt.mp fun h => ?_
          have z1 : (fr fs'[1].1 (2 * fs'[1].2)).1 * (2 * fs'[1].2) ≤ 0 := Int.mul_nonpos_of_nonpos_of_nonneg (by omega) (by omega)
          have z2 : 0 < fs'[1].1 * (fr fs'[1].1 (2 * fs'[1].2)).2 := Int.mul_pos (by omega) (by omega)
          omega
        · refine Int.not_lt.mp fun h => ?_
          have z1 : (fr fs'[1].1 (2 * fs'[1].2)).2 * (2 * fs'[1].2) < (fr fs'[1].1 (2 * fs'[1].2)).1 * (2 * fs'[1].2) := Int.mul_lt_mul_of_pos_right h (by omega)
          have z2 : fs'[1].1 * (fr fs'[1].1 (2 * fs'[1].2)).2 ≤ (2 * fs'[1].2) * (fr fs'[1].1 (2 * fs'[1].2)).2 := Int.mul_le_mul_of_nonneg_right (by omega) (by omega)
          rw [Int.mul_comm (2 * fs'[1].2)] at z2
          omega
      generalize fr fs'[1].1 (2 * fs'[1].2) = hf at *
      have g19 := kh _ _ g1
      refine ⟨_, rfl, _, rfl, D', _, rfl, SqL.of g19, fun s1 hs1 => ?_⟩
      rw [cut_1]
      have ka : ∀ b o, H9 b = some o → upd H9 s1 (.lst (ys.take 1)) b = some o := fun b o e => by rw [upd_ne (ne_of_none e hs1)]; exact e
      have ea : upd H9 s1 (.lst (ys.take 1)) s1 = some (.lst (ys.take 1)) := upd_same
      generalize upd H9 s1 (.lst (ys.take 1)) = Ha at *
      refine ⟨_, rfl, _, rfl, (by show 2 ≤ sizeLine; decide), fun l2 hl2' => ?_⟩
      have kb : ∀ b o, Ha b = some o → upd Ha l2 (.lst [.ref qh, .ref qh]) b = some o := fun b o e => by rw [upd_ne (ne_of_none e hl2')]; exact e
      have eb : upd Ha l2 (.lst [.ref qh, .ref qh]) l2 = some (.lst [.ref qh, .ref qh]) := upd_same
      generalize upd Ha l2 (.lst [.ref qh, .ref qh]) = Hb at *
      refine ⟨_, rfl, qh, _, _, _, rfl, rfl, SqT.of (kb _ _ (ka _ _ eh)), rfl, _, _, rfl, rfl, .inr ⟨_, rfl, ?_⟩⟩
      obtain ⟨k1, ek1, hk1⟩ : ∃ k1 : Nat, (if decide (hf.2 < 61) = true then (1 : Int) else 0) = (k1 : Int) ∧ (hf.2 < 61 ∧ k1 = 1 ∨ ¬ hf.2 < 61 ∧ k1 = 0) := by
        by_cases z : hf.2 < 61
        · exact ⟨1, by rw [if_pos (decide_eq_true z)]; rfl, .inl ⟨z, rfl⟩⟩
        · exact ⟨0, by rw [if_neg (by rw [decide_eq_false z]; decide)]; rfl, .inr ⟨z, rfl⟩⟩
      refine ⟨l2, (k1 : Int), _, rfl, congrArg V.int ek1, eb, by omega, by omega, Nat.le_of_lt (small1000 (by show 2 * _ ≤ 1000; rw [Int.toNat_natCast]; omega)), fun l3 hl3 => ?_⟩
      rw [Int.toNat_natCast]
      have kc : ∀ b o, Hb b = some o → upd Hb l3 (.lst (List.replicate k1 [V.ref qh, V.ref qh]).flatten) b = some o := fun b o e => by rw [upd_ne (ne_of_none e hl3)]; exact e
      have ec : upd Hb l3 (.lst (List.replicate k1 [V.ref qh, V.ref qh]).flatten) l3 = some (.lst (List.replicate k1 [V.ref qh, V.ref qh]).flatten) := upd_same
      generalize upd Hb l3 (.lst (List.replicate k1 [V.ref qh, V.ref qh]).flatten) = Hc at *
      have hfl : (List.replicate k1 [V.ref qh, V.ref qh]).flatten.length ≤ 2 := by rw [len_rep]; show k1 * 2 ≤ 2; omega
      refine ⟨s1, l3, _, _, rfl, rfl, kc _ _ (kb _ _ ea), ec, Nat.le_of_lt (small1000 (by rw [List.length_take]; omega)), fun l4 hl4 => ?_⟩
      have kd : ∀ b o, Hc b = some o → upd Hc l4 (.lst (ys.take 1 ++ (List.replicate k1 [V.ref qh, V.ref qh]).flatten)) b = some o := fun b o e => by rw [upd_ne (ne_of_none e hl4)]; exact e
      have ed : upd Hc l4 (.lst (ys.take 1 ++ (List.replicate k1 [V.ref qh, V.ref qh]).flatten)) l4 = some (.lst (ys.take 1 ++ (List.replicate k1 [V.ref qh, V.ref qh]).flatten)) := upd_same
      generalize upd Hc l4 (.lst (ys.take 1 ++ (List.replicate k1 [V.ref qh, V.ref qh]).flatten)) = Hd at *
      have g1d := kd _ _ (kc _ _ (kb _ _ (ka _ _ g19)))
      refine ⟨_, rfl, _, rfl, D', _, rfl, SqL.of g1d, fun s2 hs2 => ?_⟩
      rw [cut_from1]
      have ke : ∀ b o, Hd b = some o → upd Hd s2 (.lst (ys.drop 1)) b = some o := fun b o e => by rw [upd_ne (ne_of_none e hs2)]; exact e
      have ee : upd Hd s2 (.lst (ys.drop 1)) s2 = some (.lst (ys.drop 1)) := upd_same
      generalize upd Hd s2 (.lst (ys.drop 1)) = He at *
      refine ⟨_, rfl, qh, _, _, _, rfl, rfl, SqT.of (ke _ _ (kd _ _ (kc _ _ (kb _ _ (ka _ _ eh))))), rfl, _, _, rfl, rfl, .inr ⟨_, rfl, ?_⟩⟩
      obtain ⟨k2, ek2, hk2⟩ : ∃ k2 : Nat, (if decide (60 < hf.2) = true then (1 : Int) else 0) = (k2 : Int) ∧ (hf.2 < 61 ∧ k2 = 0 ∨ ¬ hf.2 < 61 ∧ k2 = 1) := by
        by_cases z : 60 < hf.2
        · exact ⟨1, by rw [if_pos (decide_eq_true z)]; rfl, .inr ⟨by omega, rfl⟩⟩
        · exact ⟨0, by rw [if_neg (by rw [decide_eq_false z]; decide)]; rfl, .inl ⟨by omega, rfl⟩⟩
      have hk2l : (ys.drop 1).length * ((k2 : Int)).toNat ≤ 1000 := by
        rw [Int.toNat_natCast, List.length_drop]
        have z1 : k2 ≤ 1 := by omega
        have z2 : (ys.length - 1) * k2 ≤ 1 * 1 := Nat.mul_le_mul (by omega) z1
        omega
      refine ⟨s2, (k2 : Int), _, rfl, congrArg V.int ek2, ee, by omega, by omega, Nat.le_of_lt (small1000 hk2l), fun l5 hl5 => ?_⟩
      rw [Int.toNat_natCast]
      have kf : ∀ b o, He b = some o → upd He l5 (.lst (List.replicate k2 (ys.drop 1)).flatten) b = some o := fun b o e => by rw [upd_ne (ne_of_none e hl5)]; exact e
      have ef : upd He l5 (.lst (List.replicate k2 (ys.drop 1)).flatten) l5 = some (.lst (List.replicate k2 (ys.drop 1)).flatten) := upd_same
      generalize upd He l5 (.lst (List.replicate k2 (ys.drop 1)).flatten) = Hf at *
      have kAll : ∀ b o, H8 b = some o → Hf b = some o := fun b o e => kf _ _ (ke _ _ (kd _ _ (kc _ _ (kb _ _ (ka _ _ (kh _ _ e))))))
      have eqh := kf _ _ (ke _ _ (kd _ _ (kc _ _ (kb _ _ (ka _ _ eh)))))
      refine ⟨l4, l5, _, _, rfl, rfl, kf _ _ (ke _ _ ed), ef, Nat.le_of_lt (small1000 (by
        rw [List.length_append, List.length_take, len_rep, len_rep, List.length_drop]
        have z1 : k2 * (ys.length - 1) ≤ 1 * 1 := Nat.mul_le_mul (by omega) (by omega)
        show min 1 ys.length + k1 * 2 + k2 * (ys.length - 1) ≤ 1000
        omega)), fun l6 hl6 => ?_⟩
      obtain ⟨w1, w2, ew⟩ : ∃ w1 w2, ys = [w1, w2] := by
        match ys, (show ys.length = 2 by omega) with
        | [w1, w2], _ => exact ⟨w1, w2, rfl⟩
      subst ew
      have ew1 : w1 = .ref qa := by simpa using eqa
      have ew2 : w2 = .ref q := by simpa using eq
      subst ew1 ew2
      obtain ⟨_, _, _, _, _, _, _, _, SF, xF⟩ := lift _ _ _ _ C8 kAll
      have n6 := SF.not hl6
      have h6 := fresh1 xF SF hl6
      have kg : ∀ (L : List V) b o, Hf b = some o → upd Hf l6 (.lst L) b = some o := fun L b o e => by rw [upd_ne (ne_of_none e hl6)]; exact e
      have tg : ∀ L : List V, Tst K H8 (upd Hf l6 (.lst L)) := fun L => (Tst.keep kAll).trans (Tst.keep (kg L))
      rcases hk1 with ⟨z, rfl⟩ | ⟨z, rfl⟩
      · obtain rfl : k2 = 0 := by omega
        refine ⟨l6, [fs'[0], hf, hf], _, _, _, rfl, _, upd_same, ?_, ?_, (by show 2 ≤ 3; decide), Nat.le_refl _, n6, h6, SF.keep (kg _), xF.trans fun b o e _ => kg _ b o e⟩
        · show RepL K NoA _ ([] ++ [D2 fs'[0]] ++ [D2 hf] ++ [D2 hf]) ([] ++ [.ref qa] ++ [.ref qh] ++ [.ref qh])
          exact RepL.snoc (RepL.snoc (RepL.snoc (by unfold RepL; rfl) (rep_of_D2 (fun z => z) (tg _ _ _ sqa))) (rep_of_D2 (fun z => z) (SqT.of (kg _ _ _ eqh)))) (rep_of_D2 (fun z => z) (SqT.of (kg _ _ _ eqh)))
        · intro x hx
          simp only [List.mem_cons, List.not_mem_nil, or_false] at hx
          rcases hx with rfl | rfl | rfl
          · exact g3 _ (List.getElem_mem h0)
          · exact ⟨hhp.1, hhp.2.1, by omega, hhp.2.2⟩
          · exact ⟨hhp.1, hhp.2.1, by omega, hhp.2.2⟩
      · obtain rfl : k2 = 1 := by omega
        refine ⟨l6, [fs'[0], fs'[1]], _, _, _, rfl, _, upd_same, ?_, ?_, Nat.le_refl _, (by show 2 ≤ 3; decide), n6, h6, SF.keep (kg _), xF.trans fun b o e _ => kg _ b o e⟩
        · show RepL K NoA _ ([] ++ [D2 fs'[0]] ++ [D2 fs'[1]]) ([] ++ [.ref qa] ++ [.ref q])
          exact RepL.snoc (RepL.snoc (by unfold RepL; rfl) (rep_of_D2 (fun z => z) (tg _ _ _ sqa))) (rep_of_D2 (fun z => z) (tg _ _ _ sq))
        · intro x hx
          simp only [List.mem_cons, List.not_mem_nil, or_false] at hx
          rcases hx with rfl | rfl
          · exact g3 _ (List.getElem_mem h0)
          · exact hpo
    rintro σ3 H9 ⟨D3, fs3, w1, w2, w5, rfl, C9⟩
    exact ⟨_, rfl, k D3 fs3 H9 C9⟩
end
end Ro

set_option Elab.async false
set_option linter.all false
set_option maxRecDepth 100000
set_option maxHeartbeats 4000000
namespace Ro
open PySem L2
section
variable {P : Program} {w : World} {K : PySem.W.Frag} {mg : Str → Option Value} {base : Heap}
theorem RepL.app {N : Addr → Prop} {H : Hp} {q : List Dt} {ys : List V} : ∀ {l : List Dt} {xs : List V}, RepL K N H l xs → RepL K N H q ys → RepL K N H (l ++ q) (xs ++ ys)
  | [], xs, h, h2 => by unfold RepL at h; subst h; exact h2
  | d :: r, xs, h, h2 => by
    unfold RepL at h
    obtain ⟨x, zs, rfl, h1, h3⟩ := h
    show RepL K N H (d :: (r ++ q)) _
    unfold RepL
    exact ⟨x, zs ++ ys, rfl, h1, RepL.app h3 h2⟩
theorem RepL.drp {N : Addr → Prop} {H : Hp} : ∀ {l : List Dt} {xs : List V} (k : Nat), RepL K N H l xs → RepL K N H (l.drop k) (xs.drop k)
  | l, xs, 0, h => h
  | [], xs, k + 1, h => by unfold RepL at h; subst h; show RepL K N H [] []; unfold RepL; rfl
  | d :: r, xs, k + 1, h => by
    unfold RepL at h
    obtain ⟨x, zs, rfl, _, h3⟩ := h
    exact RepL.drp k h3
theorem cut_n (xs : List V) (k : Nat) : cutV xs none (some (k : Int)) = xs.take k := by
  unfold cutV
  rw [HT.sIx_nat, HT.sIx_none, List.drop_zero, Nat.sub_zero]
  by_cases h : k ≤ xs.length
  · rw [Nat.min_eq_left h]
  · rw [Nat.min_eq_right (by omega), List.take_of_length_le (Nat.le_refl _), List.take_of_length_le (by omega)]
def mrw : List Rw := [.left "a" (1, 1), .len "ab" 7]
def spTight (K : PySem.W.Frag) : Sp := fun vs H Q _ => ∃ (p c : Addr) (n : Nat), vs = [.ref p] ∧ StAt H p c n ∧ n < 700000000 ∧
  ∀ t (rws : List Rw) H', Rep K NoA H' (.tup (rws.map Rw.toD)) (.ref t) → (∀ rw ∈ rws, rw.fin) → rws.length ≤ 5 → StAt H' p c (n + 40) → SameX (AtS p c) H H' → Q (.ref t) H'
theorem scTight : FnScope ["_law_state", "_law_rows_here", "_law_part_here", "_law_more", "_law_name"] ["_law_state"] (defScope sTight) := ⟨rfl, rfl, rfl, by decide +kernel, rfl, by decide +kernel, by decide +kernel⟩
theorem ok_tight {f g gn gc gs : Addr} {fd gd dn dc ds : FuncData} (F : Fun K "_law_tight" "_law_tight" sTight f fd) (G : FnOk P w K mg base CX0 1 g gd ["_law_state", "_law_many"] spTake) (bG : Binds K gd ["_law_state", "_law_many"] []) (mG : mg "_law_take" = some (.ref g)) (kG : PySem.W.keepIn K (.ref g) = true)
    (GN : FnOk P w K mg base CX0 2 gn dn ["_law_state", "_law_many"] spNames) (bN : Binds K dn ["_law_state", "_law_many"] []) (mN : mg "_law_names" = some (.ref gn)) (kN : PySem.W.keepIn K (.ref gn) = true)
    (GC : FnOk P w K mg base CX0 2 gc dc ["_law_state"] (spCut K)) (bC : Binds K dc ["_law_state"] []) (mC : mg "_law_cut" = some (.ref gc)) (kC : PySem.W.keepIn K (.ref gc) = true)
    (GS : FnOk P w K mg base CX0 2 gs ds ["_law_state", "_law_name", "_law_part_here"] (spStepped K)) (bS : Binds K ds ["_law_state", "_law_name", "_law_part_here"] []) (mS : mg "_law_stepped" = some (.ref gs)) (kS : PySem.W.keepIn K (.ref gs) = true)
    (z1 : mg "tuple" = none) : FnOk P w K mg base CX0 3 f fd ["_law_state"] (spTight K) := by
  refine F.ok scTight (fun vs H Q E h => ?_) (fun cdv A outer s H vs Q E hr h => ?_)
  · obtain ⟨p, c, n, rfl, _⟩ := h
    rfl
  · obtain ⟨p, c, n, rfl, S, hn, k⟩ := h
    have hr1 : Room 1 _ := hr.mono (by decide)
    refine ⟨_, pss_cons (ps_set (i := 1) scTight.nd rfl (Or.inl rfl) (pe_lst pa_nil))
      (pss_cons (ps_for PassesOwn.never rfl (pi_list (pe_call GC hr rfl mC kC bC .nil pass0 (pa_cons (pv 0) pa_nil))) (pg_name (i := 2) scTight.nd rfl (Or.inl rfl))
        (pss_cons (ps_set (i := 4) scTight.nd rfl (Or.inl rfl) (pe_ix ix_list (pe_call GN hr rfl mN kN bN .nil pass0 (pa_cons (pv 0) (pa_cons pe_int pa_nil))) pe_int (fun _ _ => rfl)))
        (pss_one (ps_expr (pe_bm PySem.F.plainAttrs_list PySem.F.slot_list_append PySem.F.type_list_append mt_append (pv 1) (pa_cons (pe_ix ix_list (pe_lst (pa_cons (pe_tup (pa_cons pe_str (pa_cons (pv 4) (pa_cons (pv 2) pa_nil)))) (pa_cons (pe_call GS hr rfl mS kS bS .nil pass0 (pa_cons (pv 0) (pa_cons (pv 4) (pa_cons (pv 2) pa_nil)))) pa_nil))) (pe_call G hr1 rfl mG kG bG .nil pass0 (pa_cons (pv 0) (pa_cons pe_int pa_nil))) (fun _ _ => rfl)) pa_nil))))))
      (pss_cons (ps_set (i := 3) scTight.nd rfl (Or.inl rfl) (pe_slice sl_list (pe_lst (pa_cons (pe_tup (pa_cons pe_str (pa_cons pe_str (pa_cons (pe_tup (pa_cons pe_int (pa_cons pe_int pa_nil))) pa_nil)))) (pa_cons (pe_tup (pa_cons pe_str (pa_cons pe_str (pa_cons pe_int pa_nil)))) pa_nil))) po_none (po_some (pe_call G hr1 rfl mG kG bG .nil pass0 (pa_cons (pv 0) (pa_cons pe_int pa_nil))))))
      (pss_one (ps_ret (pe_callTy call_tuple_of (by rfl) z1 boot_tuple (pa_cons (pe_op op_cat (pe_op op_cat (pe_slice sl_list (pv 3) po_none (po_some pe_int)) (pv 1)) (pe_slice sl_list (pv 3) (po_some pe_int) po_none)) pa_nil)))))), ?_⟩
    refine ⟨(by show 0 ≤ sizeLine; decide), fun L hL => ?_⟩
    have nL := S.not hL
    have S1 := S.new (o := .lst []) hL
    have x1 : SameX (AtS p c) H (upd H L (.lst [])) := SameX.new hL
    have e1 : upd H L (.lst []) L = some (.lst []) := upd_same
    generalize upd H L (.lst []) = H1 at *
    refine ⟨_, rfl, p, c, n, rfl, S1, by omega, fun D fs H2 C2 => ?_⟩
    obtain ⟨ds', g1, g2, g3, g4, g5, g6, g7, S2, x2'⟩ := C2
    have x2 : SameX (AtS p c) H H2 := x1.trans x2'
    have e2 : H2 L = some (.lst []) := x2' _ _ e1 nL
    have hLD : L ≠ D := fun z => by rw [z, g7] at e1; cases e1
    have hdl := repF_len g2
    refine ⟨D, rfl, ⟨_, SqL.of g1⟩, ?_⟩
    refine for_by (wk_list K D ds') (fun i σ H' => ∃ (rws : List Rw) (ys : List V) (v2 v3 v4 : Option V), σ = [some (.ref p), some (.ref L), v2, v3, v4] ∧ H' L = some (.lst ys) ∧ H' D = some (.lst ds') ∧ rws.length = i ∧ (∀ rw ∈ rws, rw.fin) ∧ RepL K NoA H' (rws.map Rw.toD) ys ∧ StAt H' p c (n + 3 + 8 * i) ∧ SameX (AtS p c) H H' ∧ Tst K H2 H') ?_ ?_ ?_ ?_
    · exact ⟨[], [], none, none, none, rfl, e2, g1, rfl, (fun _ h => nomatch h), by show RepL K _ _ [] []; unfold RepL; rfl, S2, x2, fun _ _ h => h⟩
    · rintro i σ H' _ ⟨rws, ys, v2, v3, v4, _, _, eD, _⟩
      exact SqL.of eD
    · rintro i x σ H3 hx hi ⟨rws, ys, v2, v3, v4, rfl, eL, eD, hrl, hrf, hrr, S3, x3, t3⟩
      have hif : i < fs.length := by omega
      have hi3 : i < 3 := by omega
      obtain ⟨qp, eqp, sqp⟩ := repF_get g2 (List.getElem?_eq_getElem hif)
      rw [hx] at eqp
      cases eqp
      have hpo := g3 _ (List.getElem_mem hif)
      have hyl : ys.length = rws.length := by rw [← hrr.length, List.length_map]
      -- the name
      refine ⟨_, rfl, p, c, _, 1, rfl, S3, by omega, by decide, fun ln nms H4 hln eln hnl hnm S4 x4 => ?_⟩
      obtain ⟨nm, rfl⟩ : ∃ nm, nms = [nm] := by
        match nms, hnl with
        | [nm], _ => exact ⟨nm, rfl⟩
      refine ⟨ln, _, _, _, rfl, rfl, SqL.of eln, rfl, ?_⟩
      have t4 := t3.trans (S3.ts x4)
      have eL4 : H4 L = some (.lst ys) := x4 _ _ eL nL
      have eD4 : H4 D = some (.lst ds') := x4 _ _ eD g6
      -- append
      refine ⟨_, rfl, .inl ⟨rfl, _, SqL.of eL4⟩, _, rfl, _, rfl, (by show 3 ≤ sizeLine; decide), fun q1 hq1 => ?_⟩
      have k5 : ∀ b o, H4 b = some o → upd H4 q1 (.tup [.str "of", .str nm, .ref qp]) b = some o := fun b o e => by rw [upd_ne (ne_of_none e hq1)]; exact e
      have e5 : upd H4 q1 (.tup [.str "of", .str nm, .ref qp]) q1 = some (.tup [.str "of", .str nm, .ref qp]) := upd_same
      have S5 := S4.new (o := .tup [.str "of", .str nm, .ref qp]) hq1
      generalize upd H4 q1 (.tup [.str "of", .str nm, .ref qp]) = H5 at *
      have t5 := t4.trans (Tst.keep k5)
      refine ⟨_, rfl, _, rfl, _, rfl, p, c, qp, _, nm, fs[i], rfl, S5, by omega, t5 _ _ sqp, hpo, fun q2 rw2 H6 rp2 fin2 S6 x6 => ?_⟩
      have t6 := t5.trans (S5.ts x6)
      have s61 : SqT K H6 q1 [.str "of", .str nm, .ref qp] := S5.ts x6 _ _ (SqT.of e5)
      have eL6 : H6 L = some (.lst ys) := x6 _ _ (k5 _ _ eL4) nL
      have eD6 : H6 D = some (.lst ds') := x6 _ _ (k5 _ _ eD4) g6
      refine ⟨(by show 2 ≤ sizeLine; decide), fun l hl => ?_⟩
      have k7 : ∀ b o, H6 b = some o → upd H6 l (.lst [.ref q1, .ref q2]) b = some o := fun b o e => by rw [upd_ne (ne_of_none e hl)]; exact e
      have e7 : upd H6 l (.lst [.ref q1, .ref q2]) l = some (.lst [.ref q1, .ref q2]) := upd_same
      have nl := S6.not hl
      have S7 := S6.new (o := .lst [.ref q1, .ref q2]) hl
      generalize upd H6 l (.lst [.ref q1, .ref q2]) = H7 at *
      refine ⟨_, rfl, p, c, _, 2, rfl, S7, by omega, by decide, fit9 (by unfold Fit; decide), fun r8 H8 h80 h81 S8 x8 => ?_⟩
      have t78 : Tst K H6 H8 := (Tst.keep k7).trans (S7.ts x8)
      obtain ⟨q, rw, hat, rp, fin⟩ : ∃ q rw, atI [V.ref q1, V.ref q2] r8 = some (.ref q) ∧ Rep K NoA H8 (Rw.toD rw) (.ref q) ∧ rw.fin := by
        have hr' : r8 = 0 ∨ r8 = 1 := by omega
        rcases hr' with rfl | rfl
        · refine ⟨q1, .of nm fs[i], rfl, ?_, hpo⟩
          show Rep K NoA H8 (.tup [.str "of", .str nm, D2 fs[i]]) (.ref q1)
          unfold Rep
          refine ⟨q1, _, rfl, fun z => z, t78 _ _ s61, ?_⟩
          unfold RepL
          refine ⟨_, _, rfl, rep_str, ?_⟩
          unfold RepL
          refine ⟨_, _, rfl, rep_str, ?_⟩
          unfold RepL
          exact ⟨_, _, rfl, rep_of_D2 (fun z => z) (t78 _ _ (t6 _ _ sqp)), by unfold RepL; rfl⟩
        · exact ⟨q2, rw2, rfl, Rep.ts t78 (noL_rw _) rp2, fin2⟩
      have eL8 : H8 L = some (.lst ys) := x8 _ _ (k7 _ _ eL6) nL
      have eD8 : H8 D = some (.lst ds') := x8 _ _ (k7 _ _ eD6) g6
      refine ⟨l, _, r8, _, rfl, rfl, SqL.of (x8 _ _ e7 nl), hat, L, ys, _, rfl, rfl, eL8, small1000 (by omega), ?_⟩
      have tL : Tst K H8 (upd H8 L (.lst (ys ++ [.ref q]))) := Tst.lst eL8
      have t38 : Tst K H3 H8 := (((S3.ts x4).trans (Tst.keep k5)).trans (S5.ts x6)).trans t78
      refine ⟨rws ++ [rw], ys ++ [.ref q], _, _, _, rfl, upd_same, by rw [upd_ne hLD.symm]; exact eD8, by rw [List.length_append, hrl]; rfl, fun y hy => ?_, ?_, ?_, ?_, (t6.trans t78).trans tL⟩
      · rcases List.mem_append.mp hy with h | h
        · exact hrf y h
        · rw [List.mem_singleton.mp h]; exact fin
      · rw [List.map_append]
        exact RepL.snoc (RepL.ts (t38.trans tL) (noLL_map noL_rw) hrr) (Rep.ts tL (noL_rw _) rp)
      · obtain ⟨tt, ns', b1, b2, b3, b4, b5, b6⟩ := S8.ex
        have m1 : p ≠ L := fun z => nL (.inl z.symm)
        have m2 : c ≠ L := fun z => nL (.inr z.symm)
        exact ⟨tt, ns', by rw [upd_ne m1]; exact b1, by rw [upd_ne m2]; exact b2, b3, b4, b5, by omega⟩
      · intro b o e nb
        rw [upd_ne (ne_of_none e hL)]
        exact x8 _ _ (k7 _ _ (x6 _ _ (k5 _ _ (x4 _ _ (x3 b o e nb) nb)) nb)) nb
    · rintro σ H3 ⟨rws, ys, v2, v3, v4, rfl, eL, eD, hrl, hrf, hrr, S3, x3, t3⟩
      have hyl : ys.length = rws.length := by rw [← hrr.length, List.length_map]
      refine ⟨(by show 2 ≤ sizeLine; decide), fun t1 ht1 => ⟨(by show 3 ≤ sizeLine; decide), fun t2 ht2 => ?_⟩⟩
      have ka : ∀ b o, H3 b = some o → upd H3 t1 (.tup [.int 1, .int 1]) b = some o := fun b o e => by rw [upd_ne (ne_of_none e ht1)]; exact e
      have ea : upd H3 t1 (.tup [.int 1, .int 1]) t1 = some (.tup [.int 1, .int 1]) := upd_same
      generalize upd H3 t1 (.tup [.int 1, .int 1]) = Ha at *
      have kb : ∀ b o, Ha b = some o → upd Ha t2 (.tup [.str "left", .str "a", .ref t1]) b = some o := fun b o e => by rw [upd_ne (ne_of_none e ht2)]; exact e
      have eb : upd Ha t2 (.tup [.str "left", .str "a", .ref t1]) t2 = some (.tup [.str "left", .str "a", .ref t1]) := upd_same
      generalize upd Ha t2 (.tup [.str "left", .str "a", .ref t1]) = Hb at *
      refine ⟨(by show 3 ≤ sizeLine; decide), fun t3' ht3 => ?_⟩
      have kc : ∀ b o, Hb b = some o → upd Hb t3' (.tup [.str "length", .str "ab", .int 7]) b = some o := fun b o e => by rw [upd_ne (ne_of_none e ht3)]; exact e
      have ec : upd Hb t3' (.tup [.str "length", .str "ab", .int 7]) t3' = some (.tup [.str "length", .str "ab", .int 7]) := upd_same
      generalize upd Hb t3' (.tup [.str "length", .str "ab", .int 7]) = Hc at *
      refine ⟨(by show 2 ≤ sizeLine; decide), fun lm hlm => ?_⟩
      have kd : ∀ b o, Hc b = some o → upd Hc lm (.lst [.ref t2, .ref t3']) b = some o := fun b o e => by rw [upd_ne (ne_of_none e hlm)]; exact e
      have ed : upd Hc lm (.lst [.ref t2, .ref t3']) lm = some (.lst [.ref t2, .ref t3']) := upd_same
      generalize upd Hc lm (.lst [.ref t2, .ref t3']) = Hd at *
      have k3d : ∀ b o, H3 b = some o → Hd b = some o := fun b o e => kd _ _ (kc _ _ (kb _ _ (ka _ _ e)))
      have Sd := S3.keep k3d
      have nlm : ¬ AtS p c lm := (S3.keep fun b o e => kc _ _ (kb _ _ (ka b o e))).not hlm
      refine ⟨_, rfl, p, c, _, 3, rfl, Sd, by omega, by decide, fit9 (by unfold Fit; decide), fun r He h0 h1 Se xe => ?_⟩
      obtain ⟨m, rfl⟩ := Int.eq_ofNat_of_zero_le h0
      have te : Tst K Hd He := Sd.ts xe
      have rM : RepL K NoA He (mrw.map Rw.toD) [.ref t2, .ref t3'] := by
        have r1 : Rep K NoA Hd (.tup [.str "left", .str "a", D2 (1, 1)]) (.ref t2) := rep_tup3 (kd _ _ (kc _ _ eb)) (fun z => z) (rep_of_D2 (f := (1, 1)) (fun z => z) (SqT.of (kd _ _ (kc _ _ (kb _ _ ea)))))
        have r2 : Rep K NoA Hd (.tup [.str "length", .str "ab", .int 7]) (.ref t3') := rep_tup3 (kd _ _ ec) (fun z => z) rep_int
        show RepL K NoA He ([] ++ [_] ++ [_]) ([] ++ [.ref t2] ++ [.ref t3'])
        exact RepL.snoc (RepL.snoc (by unfold RepL; rfl) (Rep.ts te rfl r1)) (Rep.ts te rfl r2)
      refine ⟨_, rfl, lm, _, rfl, SqL.of (xe _ _ ed nlm), fun sm hsm => ?_⟩
      rw [cut_n]
      have rM' : RepL K NoA He ((mrw.take m).map Rw.toD) ([V.ref t2, V.ref t3'].take m) := by rw [List.map_take]; exact rM.take m
      have hml : ([V.ref t2, V.ref t3'].take m).length ≤ 2 := by rw [List.length_take]; exact Nat.min_le_right _ _
      have hmf : ∀ rw ∈ mrw.take m, rw.fin := fun rw h => by
        have h' := List.mem_of_mem_take h
        simp only [mrw, List.mem_cons, List.not_mem_nil, or_false] at h'
        rcases h' with rfl | rfl
        · trivial
        · trivial
      have hmr : (mrw.take m).length ≤ 2 := by rw [List.length_take]; exact Nat.min_le_right _ _
      generalize [V.ref t2, V.ref t3'].take m = ms at *
      generalize mrw.take m = mr at *
      have kf : ∀ b o, He b = some o → upd He sm (.lst ms) b = some o := fun b o e => by rw [upd_ne (ne_of_none e hsm)]; exact e
      have ef : upd He sm (.lst ms) sm = some (.lst ms) := upd_same
      generalize upd He sm (.lst ms) = Hf at *
      have eLf : Hf L = some (.lst ys) := kf _ _ (xe _ _ (k3d _ _ eL) nL)
      refine ⟨_, rfl, _, rfl, sm, _, rfl, SqL.of ef, fun s1 hs1 => ?_⟩
      rw [cut_1]
      have kg : ∀ b o, Hf b = some o → upd Hf s1 (.lst (ms.take 1)) b = some o := fun b o e => by rw [upd_ne (ne_of_none e hs1)]; exact e
      have eg : upd Hf s1 (.lst (ms.take 1)) s1 = some (.lst (ms.take 1)) := upd_same
      generalize upd Hf s1 (.lst (ms.take 1)) = Hg at *
      refine ⟨_, rfl, s1, L, _, _, rfl, rfl, eg, kg _ _ eLf, Nat.le_of_lt (small1000 (by rw [List.length_take]; omega)), fun c1 hc1 => ?_⟩
      have kh : ∀ b o, Hg b = some o → upd Hg c1 (.lst (ms.take 1 ++ ys)) b = some o := fun b o e => by rw [upd_ne (ne_of_none e hc1)]; exact e
      have eh : upd Hg c1 (.lst (ms.take 1 ++ ys)) c1 = some (.lst (ms.take 1 ++ ys)) := upd_same
      generalize upd Hg c1 (.lst (ms.take 1 ++ ys)) = Hh at *
      refine ⟨_, rfl, _, rfl, sm, _, rfl, SqL.of (kh _ _ (kg _ _ ef)), fun s2 hs2 => ?_⟩
      rw [cut_from1]
      have ki : ∀ b o, Hh b = some o → upd Hh s2 (.lst (ms.drop 1)) b = some o := fun b o e => by rw [upd_ne (ne_of_none e hs2)]; exact e
      have ei : upd Hh s2 (.lst (ms.drop 1)) s2 = some (.lst (ms.drop 1)) := upd_same
      generalize upd Hh s2 (.lst (ms.drop 1)) = Hi at *
      refine ⟨c1, s2, _, _, rfl, rfl, ki _ _ eh, ei, Nat.le_of_lt (small1000 (by rw [List.length_append, List.length_take, List.length_drop]; omega)), fun c2 hc2 => ?_⟩
      have kj : ∀ b o, Hi b = some o → upd Hi c2 (.lst (ms.take 1 ++ ys ++ ms.drop 1)) b = some o := fun b o e => by rw [upd_ne (ne_of_none e hc2)]; exact e
      have ej : upd Hi c2 (.lst (ms.take 1 ++ ys ++ ms.drop 1)) c2 = some (.lst (ms.take 1 ++ ys ++ ms.drop 1)) := upd_same
      generalize upd Hi c2 (.lst (ms.take 1 ++ ys ++ ms.drop 1)) = Hj at *
      refine ⟨c2, _, rfl, .inl ⟨SqL.of ej, fun t ht => ?_⟩⟩
      have kk : ∀ b o, He b = some o → upd Hj t (.tup (ms.take 1 ++ ys ++ ms.drop 1)) b = some o := fun b o e => by
        have e' := kj _ _ (ki _ _ (kh _ _ (kg _ _ (kf _ _ e))))
        rw [upd_ne (ne_of_none e' ht)]; exact e'
      have tk : Tst K He (upd Hj t (.tup (ms.take 1 ++ ys ++ ms.drop 1))) := Tst.keep kk
      have rY : RepL K NoA He (rws.map Rw.toD) ys := RepL.ts ((Tst.keep k3d).trans te) (noLL_map noL_rw) hrr
      refine k t (mr.take 1 ++ rws ++ mr.drop 1) _ ?_ (fun rw h => ?_) ?_ ((Se.keep kk).mono (by omega)) (((x3.trans fun b o e _ => k3d b o e).trans xe).trans fun b o e _ => kk b o e)
      · unfold Rep
        refine ⟨t, _, rfl, fun z => z, SqT.of upd_same, ?_⟩
        rw [List.map_append, List.map_append, List.map_take, List.map_drop]
        exact RepL.ts tk (noLL_app (noLL_app (by rw [← List.map_take]; exact noLL_map noL_rw) (noLL_map noL_rw)) (by rw [← List.map_drop]; exact noLL_map noL_rw)) (RepL.app (RepL.app (rM'.take 1) rY) (RepL.drp 1 rM'))
      · rcases List.mem_append.mp h with h | h
        · rcases List.mem_append.mp h with h | h
          · exact hmf rw (List.mem_of_mem_take h)
          · exact hrf rw h
        · exact hmf rw (List.mem_of_mem_drop h)
      · rw [List.length_append, List.length_append, List.length_take, List.length_drop]
        omega
end
end Ro

set_option Elab.async false
set_option linter.all false
set_option maxRecDepth 100000
set_option maxHeartbeats 4000000
namespace Ro
open PySem L2
section
variable {P : Program} {w : World} {K : PySem.W.Frag} {mg : Str → Option Value} {base : Heap}
/-- rows that take at most sixty sixtieths are not too much -/
theorem num60 : ∀ (rms : Rms), (∀ x ∈ rms, x.1.ok ∧ x.1.takes x.2 ∧ 0 ≤ x.2) → num (gps (rms.map (·.1))) * 60 ≤ (rms.map (·.2)).sum * den (gps (rms.map (·.1))) ∧ 1 ≤ den (gps (rms.map (·.1)))
  | [], _ => by show (0 : Int) * 60 ≤ 0 * 1 ∧ (1 : Int) ≤ 1; decide
  | x :: r, h => by
    obtain ⟨ih, hd⟩ := num60 r fun y hy => h y (List.mem_cons_of_mem _ hy)
    obtain ⟨hok, htk, hm⟩ := h x List.mem_cons_self
    have key : ∀ (g : Int × Int), 1 ≤ g.2 → g.1 * 60 ≤ x.2 * g.2 → num (g :: gps (r.map (·.1))) * 60 ≤ (x.2 + (r.map (·.2)).sum) * den (g :: gps (r.map (·.1))) ∧ 1 ≤ den (g :: gps (r.map (·.1))) := by
      intro g hg hle
      generalize gps (r.map (·.1)) = q at *
      generalize (r.map (·.2)).sum = s at *
      show (g.1 * den q + g.2 * num q) * 60 ≤ (x.2 + s) * (g.2 * den q) ∧ 1 ≤ g.2 * den q
      have a1 : g.1 * 60 * den q ≤ x.2 * g.2 * den q := Int.mul_le_mul_of_nonneg_right hle (by omega)
      have a2 : g.2 * (num q * 60) ≤ g.2 * (s * den q) := Int.mul_le_mul_of_nonneg_left ih (by omega)
      have b1 : (g.1 * den q + g.2 * num q) * 60 = g.1 * 60 * den q + g.2 * (num q * 60) := by
        rw [Int.add_mul, Int.mul_assoc g.1, Int.mul_comm (den q) 60, ← Int.mul_assoc, Int.mul_assoc g.2]
      have b2 : (x.2 + s) * (g.2 * den q) = x.2 * g.2 * den q + g.2 * (s * den q) := by
        rw [Int.add_mul, ← Int.mul_assoc, Int.mul_left_comm s]
      have b3 := Int.mul_pos (show 0 < g.2 by omega) (show 0 < den q by omega)
      rw [b1, b2]
      omega
    have skip : num (gps (r.map (·.1))) * 60 ≤ (x.2 + (r.map (·.2)).sum) * den (gps (r.map (·.1))) := by
      rw [Int.add_mul]
      have := Int.mul_nonneg hm (show 0 ≤ den (gps (r.map (·.1))) by omega)
      omega
    show num (gps (x.1 :: r.map (·.1))) * 60 ≤ (x.2 + (r.map (·.2)).sum) * den (gps (x.1 :: r.map (·.1))) ∧ 1 ≤ den (gps (x.1 :: r.map (·.1)))
    obtain ⟨rw, m⟩ := x
    cases rw with
    | of n p => exact key p (by have := hok.2.lo; have := hok.2.hi; omega) htk
    | left n p => exact ⟨skip, hd⟩
    | len n p => exact ⟨skip, hd⟩
    | steps n rs last =>
      have hg : Good (Rw.gp (.steps n rs last)) := gp_good (Rw.ok.fin hok)
      refine key (Rw.gp (.steps n rs last)) hg.1 ?_
      have all : ∀ (l : Fs) (g : Int × Int), g.1 * 60 ≤ m * g.2 → (∀ p ∈ l, le60 p m) → (l.foldl gmax g).1 * 60 ≤ m * (l.foldl gmax g).2 := by
        intro l
        induction l with
        | nil => intro g h _; exact h
        | cons p q ih =>
          intro g hg0 hl
          refine ih (gmax g p) ?_ fun y hy => hl y (List.mem_cons_of_mem _ hy)
          unfold gmax
          split
          · exact hl p List.mem_cons_self
          · exact hg0
      refine all _ _ (by show (0 : Int) * 60 ≤ m * 1; omega) fun p hp => ?_
      rcases List.mem_append.mp hp with h1 | h1
      · obtain ⟨r', hr', rfl⟩ := List.mem_map.mp h1
        exact htk.1 r' hr'
      · rw [List.mem_singleton.mp h1]; exact htk.2
theorem not_over {rms : Rms} (h : RowsOk rms) : over1 (gps (rms.map (·.1))) = false := by
  obtain ⟨h1, h2⟩ := num60 rms h.each
  unfold over1
  refine decide_eq_false fun z => ?_
  have h3 : num (gps (rms.map (·.1))) * 60 ≤ 60 * den (gps (rms.map (·.1))) := Int.le_trans h1 (Int.mul_le_mul_of_nonneg_right h.room (by omega))
  have h4 : num (gps (rms.map (·.1))) ≤ den (gps (rms.map (·.1))) := by omega
  generalize num (gps (rms.map (·.1))) = a at *
  generalize den (gps (rms.map (·.1))) = b at *
  have c := fr_cross a b (by omega)
  have pz := fr_pos a b (by omega)
  have m1 : (fr a b).2 * b < (fr a b).1 * b := Int.mul_lt_mul_of_pos_right z (by omega)
  have m2 : a * (fr a b).2 ≤ b * (fr a b).2 := Int.mul_le_mul_of_nonneg_right h4 (by omega)
  rw [Int.mul_comm b] at m2
  omega
end
end Ro

set_option Elab.async false
set_option linter.all false
set_option maxRecDepth 100000
set_option maxHeartbeats 4000000
namespace Ro
open PySem L2
section
variable {P : Program} {w : World} {K : PySem.W.Frag} {mg : Str → Option Value} {base : Heap}
theorem noL_rows (rws : List Rw) : noL (.tup (rws.map Rw.toD)) = true := by
  simp only [noL]
  exact noLL_map noL_rw
def spLaw (K : PySem.W.Frag) : Sp := fun vs H Q _ => ∃ (a : Addr) (ns : List Int), vs = [.ref a] ∧ SqL K H a (ns.map V.int) ∧ ns.length ≤ 63 ∧ ∀ H', Q (.bl true) H'
theorem scLaw : FnScope ["_law_script", "_law_state", "_law_turn", "_law_rows_here", "_law_thing", "_law_found"] ["_law_script"] (defScope sLaw) := ⟨rfl, rfl, rfl, by decide +kernel, rfl, by decide +kernel, by decide +kernel⟩
theorem ok_law {f fB fO fM fD fT fA : Addr} {fd dB dO dM dD dT dA : FuncData} (F : Fun K "law" "law" sLaw f fd)
    (GB : FnOk P w K mg base CX0 1 fB dB ["_law_script"] (spBegin K)) (bB : Binds K dB ["_law_script"] []) (mB : mg "_law_begin" = some (.ref fB)) (kB : PySem.W.keepIn K (.ref fB) = true)
    (GO : FnOk P w K mg base CX0 5 fO dO ["_law_state"] (spSome K)) (bO : Binds K dO ["_law_state"] []) (mO : mg "_law_some_rows" = some (.ref fO)) (kO : PySem.W.keepIn K (.ref fO) = true)
    (GM : FnOk P w K mg base CX0 4 fM dM ["rows"] (spMuch K)) (bM : Binds K dM ["rows"] []) (mM : mg "too_much" = some (.ref fM)) (kM : PySem.W.keepIn K (.ref fM) = true)
    (GD : FnOk P w K mg base CX0 3 fD dD ["_law_rows_here"] (spMuch K)) (bD : Binds K dD ["_law_rows_here"] []) (mD : mg "_law_due" = some (.ref fD)) (kD : PySem.W.keepIn K (.ref fD) = true)
    (GT : FnOk P w K mg base CX0 3 fT dT ["_law_state"] (spTight K)) (bT : Binds K dT ["_law_state"] []) (mT : mg "_law_tight" = some (.ref fT)) (kT : PySem.W.keepIn K (.ref fT) = true)
    (GA : FnOk P w K mg base CX0 2 fA dA ["_law_state"] spPart) (bA : Binds K dA ["_law_state"] []) (mA : mg "_law_part" = some (.ref fA)) (kA : PySem.W.keepIn K (.ref fA) = true)
    (z0 : mg "range" = none) (z1 : mg "isinstance" = none) (z2 : mg "bool" = none) :
    FnOk P w K mg base CX0 6 f fd ["_law_script"] (spLaw K) := by
  refine F.ok scLaw (fun vs H Q E h => ?_) (fun cdv A outer s H vs Q E hr h => ?_)
  · obtain ⟨a, ns, rfl, _⟩ := h
    rfl
  · obtain ⟨a, ns, rfl, hS, hlen, k⟩ := h
    have hr1 : Room 1 _ := hr.mono (by decide)
    have hr2 : Room 2 _ := hr.mono (by decide)
    have hr3 : Room 3 _ := hr.mono (by decide)
    have hr4 : Room 4 _ := hr.mono (by decide)
    refine ⟨_, pss_cons (ps_set (i := 1) scLaw.nd rfl (Or.inl rfl) (pe_call GB hr1 rfl mB kB bB .nil pass0 (pa_cons (pv 0) pa_nil)))
      (pss_cons (ps_for PassesOwn.never rfl (pi_range1 rfl z0 (pa_cons pe_int pa_nil)) (pg_name (i := 2) scLaw.nd rfl (Or.inl rfl))
        (pss_cons (ps_set (i := 3) scLaw.nd rfl (Or.inl rfl) (pe_call GO hr rfl mO kO bO .nil pass0 (pa_cons (pv 1) pa_nil)))
        (pss_cons (ps_if (PW.pt (pw_or (pt_cmpR op_isnotB (pe_call GM hr4 rfl mM kM bM .nil pass0 (pa_cons (pv 3) pa_nil)) pe_bl (nomark _)) (pw_or1 (pt_val (pe_call GD hr3 rfl mD kD bD .nil pass0 (pa_cons (pv 3) pa_nil)))))) (pss_one (ps_ret pe_bl)) pss_nil)
        (pss_one (ps_for PassesOwn.never rfl (pi_tup (pe_tup (pa_cons (pe_call GT hr3 rfl mT kT bT .nil pass0 (pa_cons (pv 1) pa_nil)) (pa_cons (pe_op op_catT2 (pv 3) (pe_tup (pa_cons (pe_tup (pa_cons pe_str (pa_cons pe_str (pa_cons (pe_call GA hr2 rfl mA kA bA .nil pass0 (pa_cons (pv 1) pa_nil)) pa_nil)))) pa_nil))) (pa_cons (pe_call GT hr3 rfl mT kT bT .nil pass0 (pa_cons (pv 1) pa_nil)) pa_nil))))) (pg_name (i := 4) scLaw.nd rfl (Or.inl rfl))
          (pss_cons (ps_set (i := 5) scLaw.nd rfl (Or.inl rfl) (pe_call GM hr4 rfl mM kM bM .nil pass0 (pa_cons (pe_slice sl_tup2 (pv 4) po_none (po_some pe_int)) pa_nil)))
          (pss_one (ps_if (PW.pt (pw_or (pt_not (pt_val (pe_callB call_isinst (by rfl) z1 boot_isinstance (pa_cons (pv 5) (pa_cons (pe_bltn (v := .ty "bool") (by rfl) z2 boot_bool rfl) pa_nil))))) (pw_or1 (pt_cmpR op_ne (pv 5) (pe_call GD hr3 rfl mD kD bD .nil pass0 (pa_cons (pe_slice sl_tup2 (pv 4) po_none (po_some pe_int)) pa_nil)) (nomark _))))) (pss_one (ps_ret pe_bl)) pss_nil))))))))
      (pss_one (ps_ret pe_bl))), ?_⟩
    refine ⟨_, rfl, a, ns, rfl, hS, hlen, fun p c H1 _ S1 _ => ?_⟩
    refine ⟨6, rfl, by decide, by decide, for_range (n := 6) (fun i σ H2 => (∃ v2 v3 v4 v5, σ = [some (.ref a), some (.ref p), v2, v3, v4, v5]) ∧ StAt H2 p c (400 * i)) ⟨⟨_, _, _, _, rfl⟩, S1⟩ ?_ ?_⟩
    · rintro i σ H2 hi ⟨⟨v2, v3, v4, v5, rfl⟩, S2⟩
      refine ⟨_, rfl, p, c, _, rfl, S2, by omega, fun t rms H3 rp hok hl8 S3 x3 => ?_⟩
      have rp0 : Rep K NoA H3 (.tup ((rms.map (·.1)).map Rw.toD)) (.ref t) := by
        have z := rp.wk (N' := NoA) fun b h => h.elim
        rw [List.map_map]
        exact z
      have hfin : ∀ rw ∈ rms.map (·.1), rw.fin := fun rw h => by
        obtain ⟨y, hy, rfl⟩ := List.mem_map.mp h
        exact (hok.each y hy).1.fin
      have hl8' : (rms.map (·.1)).length ≤ 8 := by rw [List.length_map]; exact hl8
      refine ⟨_, rfl, NoA, rms.map (·.1), _, rfl, rp0, hfin, hl8', fun H4 k4 => ?_⟩
      refine ⟨_, _, rfl, rfl, _, rfl, ?_⟩
      refine ite_no (by rw [not_over hok]; rfl) ?_
      refine ⟨_, rfl, NoA, rms.map (·.1), _, rfl, rp0.sub k4, hfin, hl8', fun H5 k5 => ⟨_, rfl, ?_⟩⟩
      refine ite_no (not_over hok) ?_
      have S5 := (S3.keep k4).keep k5
      have rp5 := (rp0.sub k4).sub k5
      refine ⟨_, rfl, p, c, _, rfl, S5, by omega, fun t1 rws1 H6 rp1 fin1 len1 S6 x6 => ?_⟩
      have rp6 := Rep.ts (S5.ts x6) (noL_rows _) rp5
      refine ⟨_, rfl, _, rfl, p, c, _, rfl, S6, by omega, fun q f H7 _ e7 nq hf S7 x7 => ?_⟩
      have t67 : Tst K H6 H7 := S6.ts x7
      have rp7 := Rep.ts t67 (noL_rows _) rp6
      refine ⟨(by show 3 ≤ sizeLine; decide), fun q1 hq1 => ⟨(by show 1 ≤ sizeLine; decide), fun q2 hq2 => ?_⟩⟩
      have k1 : ∀ b o, H7 b = some o → upd H7 q1 (.tup [.str "of", .str "b", .ref q]) b = some o := fun b o e => by rw [upd_ne (ne_of_none e hq1)]; exact e
      have e1 : upd H7 q1 (.tup [.str "of", .str "b", .ref q]) q1 = some (.tup [.str "of", .str "b", .ref q]) := upd_same
      generalize upd H7 q1 (.tup [.str "of", .str "b", .ref q]) = HQ1 at *
      have k2 : ∀ b o, HQ1 b = some o → upd HQ1 q2 (.tup [.ref q1]) b = some o := fun b o e => by rw [upd_ne (ne_of_none e hq2)]; exact e
      have e2 : upd HQ1 q2 (.tup [.ref q1]) q2 = some (.tup [.ref q1]) := upd_same
      generalize upd HQ1 q2 (.tup [.ref q1]) = HQ2 at *
      have k72 : ∀ b o, H7 b = some o → HQ2 b = some o := fun b o e => k2 _ _ (k1 _ _ e)
      have SQ2 := S7.keep k72
      have t6q : Tst K H6 HQ2 := t67.trans (Tst.keep k72)
      have rpq := rp7.sub k72
      have rOne : Rep K NoA HQ2 (Rw.toD (.of "b" f)) (.ref q1) := rep_tup3 (k2 _ _ e1) (fun z => z) (rep_of_D2 (fun z => z) (SqT.of (k72 _ _ e7)))
      have finB : ∀ rw ∈ rms.map (·.1) ++ [Rw.of "b" f], rw.fin := fun rw h => by
        rcases List.mem_append.mp h with h | h
        · exact hfin rw h
        · rw [List.mem_singleton.mp h]; exact hf
      unfold Rep at rpq
      obtain ⟨t', xs, et', _, sqt, rlt⟩ := rpq
      cases et'
      have hxl : xs.length = rms.length := by rw [← rlt.length, List.length_map, List.length_map]
      refine ⟨t, q2, xs, [.ref q1], rfl, rfl, sqt, SqT.of e2, (fun z => nomatch z), Nat.le_of_lt (small1000 (by show xs.length + 1 ≤ 1000; omega)), fun hnil => ?_, fun hne pz hpz => ?_⟩
      · have rpB1 : Rep K NoA HQ2 (.tup ((rms.map (·.1) ++ [Rw.of "b" f]).map Rw.toD)) (.ref q2) := by
          have hr0 : rms = [] := List.eq_nil_of_length_eq_zero (by rw [← hxl, hnil]; rfl)
          subst hr0
          unfold Rep
          refine ⟨q2, _, rfl, fun z => z, SqT.of e2, ?_⟩
          show RepL K NoA HQ2 ([] ++ [Rw.toD (.of "b" f)]) ([] ++ [.ref q1])
          exact RepL.snoc (by unfold RepL; rfl) rOne
        refine ⟨_, rfl, p, c, _, rfl, SQ2, by omega, fun t3 rws3 HC rp3 fin3 len3 SC xC => ?_⟩
        have tBC : Tst K HQ2 HC := SQ2.ts xC
        refine ⟨(by show 3 ≤ sizeLine; decide), fun td htd => ?_⟩
        have kd : ∀ b o, HC b = some o → upd HC td (.tup [.ref t1, .ref q2, .ref t3]) b = some o := fun b o e => by rw [upd_ne (ne_of_none e htd)]; exact e
        have ed : upd HC td (.tup [.ref t1, .ref q2, .ref t3]) td = some (.tup [.ref t1, .ref q2, .ref t3]) := upd_same
        have SD := SC.keep kd
        have tAll : Tst K H6 (upd HC td (.tup [.ref t1, .ref q2, .ref t3])) := ((t6q).trans tBC).trans (Tst.keep kd)
        have things : ∀ (j : Nat) (x : V), [V.ref t1, V.ref q2, V.ref t3][j]? = some x → ∃ rws : List Rw, Rep K NoA (upd HC td (.tup [.ref t1, .ref q2, .ref t3])) (.tup (rws.map Rw.toD)) x ∧ (∀ rw ∈ rws, rw.fin) ∧ rws.length ≤ 9 := by
          intro j x hx
          match j, hx with
          | 0, hx => cases hx; exact ⟨rws1, Rep.ts tAll (noL_rows _) rp1, fin1, by omega⟩
          | 1, hx => cases hx; exact ⟨rms.map (·.1) ++ [.of "b" f], Rep.ts (tBC.trans (Tst.keep kd)) (noL_rows _) rpB1, finB, by rw [List.length_append, List.length_map]; show rms.length + 1 ≤ 9; omega⟩
          | 2, hx => cases hx; exact ⟨rws3, rp3.sub kd, fin3, by omega⟩
          | n + 3, hx => simp at hx
        generalize upd HC td (.tup [.ref t1, .ref q2, .ref t3]) = HX at *
        refine ⟨td, rfl, ⟨_, SqT.of ed⟩, ?_⟩
        refine for_by (wk_tup K td [.ref t1, .ref q2, .ref t3]) (fun j σ H' => (∃ v4 v5, σ = [some (.ref a), some (.ref p), some (.int (0 + (i : Int))), some (.ref t), v4, v5]) ∧ ∀ b o, HX b = some o → H' b = some o) ?_ ?_ ?_ ?_
        · exact ⟨⟨_, _, rfl⟩, fun b o e => e⟩
        · rintro j σ H' _ ⟨_, kk⟩
          exact SqT.of (kk _ _ ed)
        · rintro j x σ H' hx hj ⟨⟨v4, v5, rfl⟩, kk⟩
          obtain ⟨rws, rp', fin', len'⟩ := things j x hx
          have rpH := rp'.sub kk
          unfold Rep at rpH
          obtain ⟨ta, xs', rfl, _, sta, rla⟩ := rpH
          have hxl : xs'.length = rws.length := by rw [← rla.length, List.length_map]
          have r8 : RepL K NoA H' ((rws.take 8).map Rw.toD) (xs'.take 8) := by rw [List.map_take]; exact rla.take 8
          have f8 : ∀ rw ∈ rws.take 8, rw.fin := fun rw h => fin' rw (List.mem_of_mem_take h)
          have l8 : (rws.take 8).length ≤ 8 := by rw [List.length_take]; exact Nat.min_le_left _ _
          have slc : ∀ (HS : Hp) (QQ : VK), (∀ b o, H' b = some o → HS b = some o) → (∀ (tv : Addr) (HZ : Hp), Rep K NoA HZ (.tup ((rws.take 8).map Rw.toD)) (.ref tv) → (∀ b o, HS b = some o → HZ b = some o) → QQ (.ref tv) HZ) → rSlT2 K (.ref ta) none (some 8) HS QQ := by
            intro HS QQ kS hQ
            have staS : SqT K HS ta xs' := (Tst.keep kS) _ _ sta
            refine ⟨ta, xs', rfl, staS, fun hw => ?_, fun hw pz hpz => ?_⟩
            · have hle : xs'.length ≤ 8 := by
                have := hw.2
                rw [show (some (8 : Int)) = some ((8 : Nat) : Int) from rfl, HT.sIx_nat] at this
                omega
              refine hQ ta HS ?_ fun b o e => e
              unfold Rep
              refine ⟨ta, xs', rfl, fun z => z, staS, ?_⟩
              have r8' := r8.same (N := NoA) (H' := HS) (fun b o e _ => kS b o e)
              rw [List.take_of_length_le hle] at r8'
              exact r8'
            · have kz : ∀ b o, HS b = some o → upd HS pz (.tup (cutV xs' none (some 8))) b = some o := fun b o e => by rw [upd_ne (ne_of_none e hpz)]; exact e
              refine hQ pz _ ?_ kz
              unfold Rep
              refine ⟨pz, _, rfl, fun z => z, SqT.of upd_same, ?_⟩
              rw [show (some (8 : Int)) = some ((8 : Nat) : Int) from rfl, cut_n]
              exact r8.same (N := NoA) (fun b o e _ => by
                have e1 := kz b o (kS b o e)
                rw [show (some (8 : Int)) = some ((8 : Nat) : Int) from rfl, cut_n] at e1
                exact e1)
          refine ⟨_, rfl, _, rfl, slc H' _ (fun b o e => e) fun tv HZ rpz kz => ?_⟩
          refine ⟨NoA, rws.take 8, _, rfl, rpz, f8, l8, fun HY ky => ?_⟩
          refine ⟨_, rfl, _, _, _, true, ⟨_, rfl, rfl⟩, TyOf.bl _, rfl, _, rfl, ?_⟩
          refine iteF ?_
          refine ⟨_, rfl, _, rfl, _, rfl, slc HY _ (fun b o e => ky _ _ (kz _ _ e)) fun tw HW rpw kw => ?_⟩
          refine ⟨NoA, rws.take 8, _, rfl, rpw, f8, l8, fun HV kv => ?_⟩
          refine ⟨rfl, _, rfl, ?_⟩
          refine ite_no (by rw [decide_eq_true rfl]; rfl) ?_
          exact ⟨⟨_, _, rfl⟩, fun b o e => kv _ _ (kw _ _ (ky _ _ (kz _ _ (kk b o e))))⟩
        · rintro σ H' ⟨⟨v4, v5, rfl⟩, kk⟩
          exact ⟨⟨_, _, _, _, rfl⟩, (SD.keep kk).mono (by omega)⟩
      · have kp : ∀ b o, HQ2 b = some o → upd HQ2 pz (.tup (xs ++ [.ref q1])) b = some o := fun b o e => by rw [upd_ne (ne_of_none e hpz)]; exact e
        have rpB2 : Rep K NoA (upd HQ2 pz (.tup (xs ++ [.ref q1]))) (.tup ((rms.map (·.1) ++ [Rw.of "b" f]).map Rw.toD)) (.ref pz) := by
          unfold Rep
          refine ⟨pz, _, rfl, fun z => z, SqT.of upd_same, ?_⟩
          rw [List.map_append]
          exact RepL.snoc (rlt.same (N := NoA) (fun b o e _ => kp b o e)) (rOne.sub kp)
        have SP := SQ2.keep kp
        generalize upd HQ2 pz (.tup (xs ++ [.ref q1])) = HP at *
        refine ⟨_, rfl, p, c, _, rfl, SP, by omega, fun t3 rws3 HC rp3 fin3 len3 SC xC => ?_⟩
        have tBC : Tst K HP HC := SP.ts xC
        refine ⟨(by show 3 ≤ sizeLine; decide), fun td htd => ?_⟩
        have kd : ∀ b o, HC b = some o → upd HC td (.tup [.ref t1, .ref pz, .ref t3]) b = some o := fun b o e => by rw [upd_ne (ne_of_none e htd)]; exact e
        have ed : upd HC td (.tup [.ref t1, .ref pz, .ref t3]) td = some (.tup [.ref t1, .ref pz, .ref t3]) := upd_same
        have SD := SC.keep kd
        have tAll : Tst K H6 (upd HC td (.tup [.ref t1, .ref pz, .ref t3])) := ((t6q.trans (Tst.keep kp)).trans tBC).trans (Tst.keep kd)
        have things : ∀ (j : Nat) (x : V), [V.ref t1, V.ref pz, V.ref t3][j]? = some x → ∃ rws : List Rw, Rep K NoA (upd HC td (.tup [.ref t1, .ref pz, .ref t3])) (.tup (rws.map Rw.toD)) x ∧ (∀ rw ∈ rws, rw.fin) ∧ rws.length ≤ 9 := by
          intro j x hx
          match j, hx with
          | 0, hx => cases hx; exact ⟨rws1, Rep.ts tAll (noL_rows _) rp1, fin1, by omega⟩
          | 1, hx => cases hx; exact ⟨rms.map (·.1) ++ [.of "b" f], Rep.ts (tBC.trans (Tst.keep kd)) (noL_rows _) rpB2, finB, by rw [List.length_append, List.length_map]; show rms.length + 1 ≤ 9; omega⟩
          | 2, hx => cases hx; exact ⟨rws3, rp3.sub kd, fin3, by omega⟩
          | n + 3, hx => simp at hx
        generalize upd HC td (.tup [.ref t1, .ref pz, .ref t3]) = HX at *
        refine ⟨td, rfl, ⟨_, SqT.of ed⟩, ?_⟩
        refine for_by (wk_tup K td [.ref t1, .ref pz, .ref t3]) (fun j σ H' => (∃ v4 v5, σ = [some (.ref a), some (.ref p), some (.int (0 + (i : Int))), some (.ref t), v4, v5]) ∧ ∀ b o, HX b = some o → H' b = some o) ?_ ?_ ?_ ?_
        · exact ⟨⟨_, _, rfl⟩, fun b o e => e⟩
        · rintro j σ H' _ ⟨_, kk⟩
          exact SqT.of (kk _ _ ed)
        · rintro j x σ H' hx hj ⟨⟨v4, v5, rfl⟩, kk⟩
          obtain ⟨rws, rp', fin', len'⟩ := things j x hx
          have rpH := rp'.sub kk
          unfold Rep at rpH
          obtain ⟨ta, xs', rfl, _, sta, rla⟩ := rpH
          have hxl : xs'.length = rws.length := by rw [← rla.length, List.length_map]
          have r8 : RepL K NoA H' ((rws.take 8).map Rw.toD) (xs'.take 8) := by rw [List.map_take]; exact rla.take 8
          have f8 : ∀ rw ∈ rws.take 8, rw.fin := fun rw h => fin' rw (List.mem_of_mem_take h)
          have l8 : (rws.take 8).length ≤ 8 := by rw [List.length_take]; exact Nat.min_le_left _ _
          have slc : ∀ (HS : Hp) (QQ : VK), (∀ b o, H' b = some o → HS b = some o) → (∀ (tv : Addr) (HZ : Hp), Rep K NoA HZ (.tup ((rws.take 8).map Rw.toD)) (.ref tv) → (∀ b o, HS b = some o → HZ b = some o) → QQ (.ref tv) HZ) → rSlT2 K (.ref ta) none (some 8) HS QQ := by
            intro HS QQ kS hQ
            have staS : SqT K HS ta xs' := (Tst.keep kS) _ _ sta
            refine ⟨ta, xs', rfl, staS, fun hw => ?_, fun hw pz hpz => ?_⟩
            · have hle : xs'.length ≤ 8 := by
                have := hw.2
                rw [show (some (8 : Int)) = some ((8 : Nat) : Int) from rfl, HT.sIx_nat] at this
                omega
              refine hQ ta HS ?_ fun b o e => e
              unfold Rep
              refine ⟨ta, xs', rfl, fun z => z, staS, ?_⟩
              have r8' := r8.same (N := NoA) (H' := HS) (fun b o e _ => kS b o e)
              rw [List.take_of_length_le hle] at r8'
              exact r8'
            · have kz : ∀ b o, HS b = some o → upd HS pz (.tup (cutV xs' none (some 8))) b = some o := fun b o e => by rw [upd_ne (ne_of_none e hpz)]; exact e
              refine hQ pz _ ?_ kz
              unfold Rep
              refine ⟨pz, _, rfl, fun z => z, SqT.of upd_same, ?_⟩
              rw [show (some (8 : Int)) = some ((8 : Nat) : Int) from rfl, cut_n]
              exact r8.same (N := NoA) (fun b o e _ => by
                have e1 := kz b o (kS b o e)
                rw [show (some (8 : Int)) = some ((8 : Nat) : Int) from rfl, cut_n] at e1
                exact e1)
          refine ⟨_, rfl, _, rfl, slc H' _ (fun b o e => e) fun tv HZ rpz kz => ?_⟩
          refine ⟨NoA, rws.take 8, _, rfl, rpz, f8, l8, fun HY ky => ?_⟩
          refine ⟨_, rfl, _, _, _, true, ⟨_, rfl, rfl⟩, TyOf.bl _, rfl, _, rfl, ?_⟩
          refine iteF ?_
          refine ⟨_, rfl, _, rfl, _, rfl, slc HY _ (fun b o e => ky _ _ (kz _ _ e)) fun tw HW rpw kw => ?_⟩
          refine ⟨NoA, rws.take 8, _, rfl, rpw, f8, l8, fun HV kv => ?_⟩
          refine ⟨rfl, _, rfl, ?_⟩
          refine ite_no (by rw [decide_eq_true rfl]; rfl) ?_
          exact ⟨⟨_, _, rfl⟩, fun b o e => kv _ _ (kw _ _ (ky _ _ (kz _ _ (kk b o e))))⟩
        · rintro σ H' ⟨⟨v4, v5, rfl⟩, kk⟩
          exact ⟨⟨_, _, _, _, rfl⟩, (SD.keep kk).mono (by omega)⟩
    · rintro σ H2 _
      exact k H2
end
end Ro

set_option Elab.async false
set_option linter.all false
set_option maxRecDepth 100000
set_option maxHeartbeats 4000000
namespace Ro
open PySem L2
theorem all_mk {l : PySem.W.OpenLaw} {w : World} {K : PySem.W.Frag} {h : Heap} {mg : Str → Option Value} {fa fG fP fU fI fM fQ fB fT fL fV fN fA fR fW fO fC fE fH fD fZ : Addr} (X : K.In h) (G : h.Ns mainGlobals mg) (hfa : mg "law" = some (.ref fa))
    {odG anG : Option Addr} {slG : Array (Option Value)} {ocG kVG dcG pmG cdG ctG : Value}
    {odP anP : Option Addr} {slP : Array (Option Value)} {ocP kVP dcP pmP cdP ctP : Value}
    {odU anU : Option Addr} {slU : Array (Option Value)} {ocU kVU dcU pmU cdU ctU : Value}
    {odI anI : Option Addr} {slI : Array (Option Value)} {ocI kVI dcI pmI cdI ctI : Value}
    {odM anM : Option Addr} {slM : Array (Option Value)} {ocM kVM dcM pmM cdM ctM : Value}
    {odQ anQ : Option Addr} {slQ : Array (Option Value)} {ocQ kVQ dcQ pmQ cdQ ctQ : Value}
    {odB anB : Option Addr} {slB : Array (Option Value)} {ocB kVB dcB pmB cdB ctB : Value}
    {odT anT : Option Addr} {slT : Array (Option Value)} {ocT kVT dcT pmT cdT ctT : Value}
    {odL anL : Option Addr} {slL : Array (Option Value)} {ocL kVL dcL pmL cdL ctL : Value}
    {odV anV : Option Addr} {slV : Array (Option Value)} {ocV kVV dcV pmV cdV ctV : Value}
    {odN anN : Option Addr} {slN : Array (Option Value)} {ocN kVN dcN pmN cdN ctN : Value}
    {odA anA : Option Addr} {slA : Array (Option Value)} {ocA kVA dcA pmA cdA ctA : Value}
    {odR anR : Option Addr} {slR : Array (Option Value)} {ocR kVR dcR pmR cdR ctR : Value}
    {odW anW : Option Addr} {slW : Array (Option Value)} {ocW kVW dcW pmW cdW ctW : Value}
    {odO anO : Option Addr} {slO : Array (Option Value)} {ocO kVO dcO pmO cdO ctO : Value}
    {odC anC : Option Addr} {slC : Array (Option Value)} {ocC kVC dcC pmC cdC ctC : Value}
    {odE anE : Option Addr} {slE : Array (Option Value)} {ocE kVE dcE pmE cdE ctE : Value}
    {odH anH : Option Addr} {slH : Array (Option Value)} {ocH kVH dcH pmH cdH ctH : Value}
    {odD anD : Option Addr} {slD : Array (Option Value)} {ocD kVD dcD pmD cdD ctD : Value}
    {odZ anZ : Option Addr} {slZ : Array (Option Value)} {ocZ kVZ dcZ pmZ cdZ ctZ : Value}
    (aG : PySem.W.nsIn K mainGlobals "greatest_divisor" = some (some (.ref fG))) (lG : K.lookup fG = some ⟨ocG, odG, .func (PySem.W.fnOf "greatest_divisor" "greatest_divisor" (defArgs sGcd) (defBody sGcd) (defScope sGcd) .none kVG dcG pmG anG cdG ctG), slG⟩) (cG : PySem.W.codeIn K cdG "greatest_divisor" = true) (kG : PySem.W.keepIn K (.ref fG) = true)
    (aP : PySem.W.nsIn K mainGlobals "plus" = some (some (.ref fP))) (lP : K.lookup fP = some ⟨ocP, odP, .func (PySem.W.fnOf "plus" "plus" (defArgs sPlus) (defBody sPlus) (defScope sPlus) .none kVP dcP pmP anP cdP ctP), slP⟩) (cP : PySem.W.codeIn K cdP "plus" = true) (kP : PySem.W.keepIn K (.ref fP) = true)
    (aU : PySem.W.nsIn K mainGlobals "sum_of" = some (some (.ref fU))) (lU : K.lookup fU = some ⟨ocU, odU, .func (PySem.W.fnOf "sum_of" "sum_of" (defArgs sSum) (defBody sSum) (defScope sSum) .none kVU dcU pmU anU cdU ctU), slU⟩) (cU : PySem.W.codeIn K cdU "sum_of" = true) (kU : PySem.W.keepIn K (.ref fU) = true)
    (aI : PySem.W.nsIn K mainGlobals "is_less" = some (some (.ref fI))) (lI : K.lookup fI = some ⟨ocI, odI, .func (PySem.W.fnOf "is_less" "is_less" (defArgs sLess) (defBody sLess) (defScope sLess) .none kVI dcI pmI anI cdI ctI), slI⟩) (cI : PySem.W.codeIn K cdI "is_less" = true) (kI : PySem.W.keepIn K (.ref fI) = true)
    (aM : PySem.W.nsIn K mainGlobals "too_much" = some (some (.ref fM))) (lM : K.lookup fM = some ⟨ocM, odM, .func (PySem.W.fnOf "too_much" "too_much" (defArgs sMuch) (defBody sMuch) (defScope sMuch) .none kVM dcM pmM anM cdM ctM), slM⟩) (cM : PySem.W.codeIn K cdM "too_much" = true) (kM : PySem.W.keepIn K (.ref fM) = true)
    (aQ : PySem.W.nsIn K mainGlobals "greatest_part" = some (some (.ref fQ))) (lQ : K.lookup fQ = some ⟨ocQ, odQ, .func (PySem.W.fnOf "greatest_part" "greatest_part" (defArgs sGreat) (defBody sGreat) (defScope sGreat) .none kVQ dcQ pmQ anQ cdQ ctQ), slQ⟩) (cQ : PySem.W.codeIn K cdQ "greatest_part" = true) (kQ : PySem.W.keepIn K (.ref fQ) = true)
    (aB : PySem.W.nsIn K mainGlobals "_law_begin" = some (some (.ref fB))) (lB : K.lookup fB = some ⟨ocB, odB, .func (PySem.W.fnOf "_law_begin" "_law_begin" (defArgs sBegin) (defBody sBegin) (defScope sBegin) .none kVB dcB pmB anB cdB ctB), slB⟩) (cB : PySem.W.codeIn K cdB "_law_begin" = true) (kB : PySem.W.keepIn K (.ref fB) = true)
    (aT : PySem.W.nsIn K mainGlobals "_law_take" = some (some (.ref fT))) (lT : K.lookup fT = some ⟨ocT, odT, .func (PySem.W.fnOf "_law_take" "_law_take" (defArgs sTake) (defBody sTake) (defScope sTake) .none kVT dcT pmT anT cdT ctT), slT⟩) (cT : PySem.W.codeIn K cdT "_law_take" = true) (kT : PySem.W.keepIn K (.ref fT) = true)
    (aL : PySem.W.nsIn K mainGlobals "_law_lowest" = some (some (.ref fL))) (lL : K.lookup fL = some ⟨ocL, odL, .func (PySem.W.fnOf "_law_lowest" "_law_lowest" (defArgs sLow) (defBody sLow) (defScope sLow) .none kVL dcL pmL anL cdL ctL), slL⟩) (cL : PySem.W.codeIn K cdL "_law_lowest" = true) (kL : PySem.W.keepIn K (.ref fL) = true)
    (aV : PySem.W.nsIn K mainGlobals "_law_sum" = some (some (.ref fV))) (lV : K.lookup fV = some ⟨ocV, odV, .func (PySem.W.fnOf "_law_sum" "_law_sum" (defArgs sLSum) (defBody sLSum) (defScope sLSum) .none kVV dcV pmV anV cdV ctV), slV⟩) (cV : PySem.W.codeIn K cdV "_law_sum" = true) (kV : PySem.W.keepIn K (.ref fV) = true)
    (aN : PySem.W.nsIn K mainGlobals "_law_names" = some (some (.ref fN))) (lN : K.lookup fN = some ⟨ocN, odN, .func (PySem.W.fnOf "_law_names" "_law_names" (defArgs sNames) (defBody sNames) (defScope sNames) .none kVN dcN pmN anN cdN ctN), slN⟩) (cN : PySem.W.codeIn K cdN "_law_names" = true) (kN : PySem.W.keepIn K (.ref fN) = true)
    (aA : PySem.W.nsIn K mainGlobals "_law_part" = some (some (.ref fA))) (lA : K.lookup fA = some ⟨ocA, odA, .func (PySem.W.fnOf "_law_part" "_law_part" (defArgs sPart) (defBody sPart) (defScope sPart) .none kVA dcA pmA anA cdA ctA), slA⟩) (cA : PySem.W.codeIn K cdA "_law_part" = true) (kA : PySem.W.keepIn K (.ref fA) = true)
    (aR : PySem.W.nsIn K mainGlobals "_law_row" = some (some (.ref fR))) (lR : K.lookup fR = some ⟨ocR, odR, .func (PySem.W.fnOf "_law_row" "_law_row" (defArgs sRow) (defBody sRow) (defScope sRow) .none kVR dcR pmR anR cdR ctR), slR⟩) (cR : PySem.W.codeIn K cdR "_law_row" = true) (kR : PySem.W.keepIn K (.ref fR) = true)
    (aW : PySem.W.nsIn K mainGlobals "_law_rows" = some (some (.ref fW))) (lW : K.lookup fW = some ⟨ocW, odW, .func (PySem.W.fnOf "_law_rows" "_law_rows" (defArgs sRows) (defBody sRows) (defScope sRows) .none kVW dcW pmW anW cdW ctW), slW⟩) (cW : PySem.W.codeIn K cdW "_law_rows" = true) (kW : PySem.W.keepIn K (.ref fW) = true)
    (aO : PySem.W.nsIn K mainGlobals "_law_some_rows" = some (some (.ref fO))) (lO : K.lookup fO = some ⟨ocO, odO, .func (PySem.W.fnOf "_law_some_rows" "_law_some_rows" (defArgs sSome) (defBody sSome) (defScope sSome) .none kVO dcO pmO anO cdO ctO), slO⟩) (cO : PySem.W.codeIn K cdO "_law_some_rows" = true) (kO : PySem.W.keepIn K (.ref fO) = true)
    (aC : PySem.W.nsIn K mainGlobals "_law_cut" = some (some (.ref fC))) (lC : K.lookup fC = some ⟨ocC, odC, .func (PySem.W.fnOf "_law_cut" "_law_cut" (defArgs sCut) (defBody sCut) (defScope sCut) .none kVC dcC pmC anC cdC ctC), slC⟩) (cC : PySem.W.codeIn K cdC "_law_cut" = true) (kC : PySem.W.keepIn K (.ref fC) = true)
    (aE : PySem.W.nsIn K mainGlobals "_law_stepped" = some (some (.ref fE))) (lE : K.lookup fE = some ⟨ocE, odE, .func (PySem.W.fnOf "_law_stepped" "_law_stepped" (defArgs sStepped) (defBody sStepped) (defScope sStepped) .none kVE dcE pmE anE cdE ctE), slE⟩) (cE : PySem.W.codeIn K cdE "_law_stepped" = true) (kE : PySem.W.keepIn K (.ref fE) = true)
    (aH : PySem.W.nsIn K mainGlobals "_law_tight" = some (some (.ref fH))) (lH : K.lookup fH = some ⟨ocH, odH, .func (PySem.W.fnOf "_law_tight" "_law_tight" (defArgs sTight) (defBody sTight) (defScope sTight) .none kVH dcH pmH anH cdH ctH), slH⟩) (cH : PySem.W.codeIn K cdH "_law_tight" = true) (kH : PySem.W.keepIn K (.ref fH) = true)
    (aD : PySem.W.nsIn K mainGlobals "_law_due" = some (some (.ref fD))) (lD : K.lookup fD = some ⟨ocD, odD, .func (PySem.W.fnOf "_law_due" "_law_due" (defArgs sDue) (defBody sDue) (defScope sDue) .none kVD dcD pmD anD cdD ctD), slD⟩) (cD : PySem.W.codeIn K cdD "_law_due" = true) (kD : PySem.W.keepIn K (.ref fD) = true)
    (aZ : PySem.W.nsIn K mainGlobals "law" = some (some (.ref fZ))) (lZ : K.lookup fZ = some ⟨ocZ, odZ, .func (PySem.W.fnOf "law" "law" (defArgs sLaw) (defBody sLaw) (defScope sLaw) .none kVZ dcZ pmZ anZ cdZ ctZ), slZ⟩) (cZ : PySem.W.codeIn K cdZ "law" = true) (kZ : PySem.W.keepIn K (.ref fZ) = true)
    {fNO : Addr} {odNO : Option Addr} {itNO : Array Value} {nNO : Nat} {slNO : Array (Option Value)} {fON : Addr} {odON : Option Addr} {itON : Array Value} {nON : Nat} {slON : Array (Option Value)} {fWH : Addr} {odWH : Option Addr} {itWH : Array Value} {nWH : Nat} {slWH : Array (Option Value)} 
    (y_abs : PySem.W.nsIn K mainGlobals "abs" = some none)
    (y_list : PySem.W.nsIn K mainGlobals "list" = some none)
    (y_len : PySem.W.nsIn K mainGlobals "len" = some none)
    (y_divmod : PySem.W.nsIn K mainGlobals "divmod" = some none)
    (y_range : PySem.W.nsIn K mainGlobals "range" = some none)
    (y_min : PySem.W.nsIn K mainGlobals "min" = some none)
    (y_tuple : PySem.W.nsIn K mainGlobals "tuple" = some none)
    (y_int : PySem.W.nsIn K mainGlobals "int" = some none)
    (y_isinstance : PySem.W.nsIn K mainGlobals "isinstance" = some none)
    (y_bool : PySem.W.nsIn K mainGlobals "bool" = some none)
    (y_enumerate : PySem.W.nsIn K mainGlobals "enumerate" = some none)
    (aNO : PySem.W.nsIn K mainGlobals "NOTHING" = some (some (.ref fNO)))
    (lNO : K.lookup fNO = some ⟨.type "tuple", odNO, .seq itNO nNO, slNO⟩)
    (vNO : Vals [.int 0, .int 1] itNO.toList)
    (aON : PySem.W.nsIn K mainGlobals "ONE" = some (some (.ref fON)))
    (lON : K.lookup fON = some ⟨.type "tuple", odON, .seq itON nON, slON⟩)
    (vON : Vals [.int 1, .int 1] itON.toList)
    (aWH : PySem.W.nsIn K mainGlobals "WHOLE_COIN_ROWS" = some (some (.ref fWH)))
    (lWH : K.lookup fWH = some ⟨.type "tuple", odWH, .seq itWH nWH, slWH⟩)
    (vWH : Vals [.str "of", .str "steps"] itWH.toList)
    : ∃ fd : FuncData, (∀ (s : Shared) (v : Value), BindsTo s fd ⟨[v], []⟩ [("_law_script", v)]) ∧ ∀ base : Heap, K.In base → base.Ns mainGlobals mg → FnOk l.prog w K mg base CX0 6 fa fd ["_law_script"] (spLaw K) := by
  have e := hfa.symm.trans (PySem.W.mg_of X G aZ)
  cases e
  have z_abs := PySem.W.mg_none_of X G y_abs
  have z_list := PySem.W.mg_none_of X G y_list
  have z_len := PySem.W.mg_none_of X G y_len
  have z_divmod := PySem.W.mg_none_of X G y_divmod
  have z_range := PySem.W.mg_none_of X G y_range
  have z_min := PySem.W.mg_none_of X G y_min
  have z_tuple := PySem.W.mg_none_of X G y_tuple
  have z_int := PySem.W.mg_none_of X G y_int
  have z_isinstance := PySem.W.mg_none_of X G y_isinstance
  have z_bool := PySem.W.mg_none_of X G y_bool
  have z_enumerate := PySem.W.mg_none_of X G y_enumerate
  have FG := fun_mk (st := sGcd) lG cG kG
  have mG := PySem.W.mg_of X G aG
  have bG := FG.binds (ps := ["one", "other"]) fun _ _ _ _ _ _ us hl => match us, hl with | [_, _], _ => rfl
  have FP := fun_mk (st := sPlus) lP cP kP
  have mP := PySem.W.mg_of X G aP
  have bP := FP.binds (ps := ["one", "other"]) fun _ _ _ _ _ _ us hl => match us, hl with | [_, _], _ => rfl
  have FU := fun_mk (st := sSum) lU cU kU
  have mU := PySem.W.mg_of X G aU
  have bU := FU.binds (ps := ["parts"]) fun _ _ _ _ _ _ us hl => match us, hl with | [_], _ => rfl
  have FI := fun_mk (st := sLess) lI cI kI
  have mI := PySem.W.mg_of X G aI
  have bI := FI.binds (ps := ["one", "other"]) fun _ _ _ _ _ _ us hl => match us, hl with | [_, _], _ => rfl
  have FM := fun_mk (st := sMuch) lM cM kM
  have mM := PySem.W.mg_of X G aM
  have bM := FM.binds (ps := ["rows"]) fun _ _ _ _ _ _ us hl => match us, hl with | [_], _ => rfl
  have FQ := fun_mk (st := sGreat) lQ cQ kQ
  have mQ := PySem.W.mg_of X G aQ
  have bQ := FQ.binds (ps := ["row"]) fun _ _ _ _ _ _ us hl => match us, hl with | [_], _ => rfl
  have FB := fun_mk (st := sBegin) lB cB kB
  have mB := PySem.W.mg_of X G aB
  have bB := FB.binds (ps := ["_law_script"]) fun _ _ _ _ _ _ us hl => match us, hl with | [_], _ => rfl
  have FT := fun_mk (st := sTake) lT cT kT
  have mT := PySem.W.mg_of X G aT
  have bT := FT.binds (ps := ["_law_state", "_law_many"]) fun _ _ _ _ _ _ us hl => match us, hl with | [_, _], _ => rfl
  have FL := fun_mk (st := sLow) lL cL kL
  have mL := PySem.W.mg_of X G aL
  have bL := FL.binds (ps := ["_law_top", "_law_below"]) fun _ _ _ _ _ _ us hl => match us, hl with | [_, _], _ => rfl
  have FV := fun_mk (st := sLSum) lV cV kV
  have mV := PySem.W.mg_of X G aV
  have bV := FV.binds (ps := ["_law_parts"]) fun _ _ _ _ _ _ us hl => match us, hl with | [_], _ => rfl
  have FN := fun_mk (st := sNames) lN cN kN
  have mN := PySem.W.mg_of X G aN
  have bN := FN.binds (ps := ["_law_state", "_law_many"]) fun _ _ _ _ _ _ us hl => match us, hl with | [_, _], _ => rfl
  have FA := fun_mk (st := sPart) lA cA kA
  have mA := PySem.W.mg_of X G aA
  have bA := FA.binds (ps := ["_law_state"]) fun _ _ _ _ _ _ us hl => match us, hl with | [_], _ => rfl
  have FR := fun_mk (st := sRow) lR cR kR
  have mR := PySem.W.mg_of X G aR
  have bR := FR.binds (ps := ["_law_state", "_law_name", "_law_room"]) fun _ _ _ _ _ _ us hl => match us, hl with | [_, _, _], _ => rfl
  have FW := fun_mk (st := sRows) lW cW kW
  have mW := PySem.W.mg_of X G aW
  have bW := FW.binds (ps := ["_law_state", "_law_names_here", "_law_many"]) fun _ _ _ _ _ _ us hl => match us, hl with | [_, _, _], _ => rfl
  have FO := fun_mk (st := sSome) lO cO kO
  have mO := PySem.W.mg_of X G aO
  have bO := FO.binds (ps := ["_law_state"]) fun _ _ _ _ _ _ us hl => match us, hl with | [_], _ => rfl
  have FC := fun_mk (st := sCut) lC cC kC
  have mC := PySem.W.mg_of X G aC
  have bC := FC.binds (ps := ["_law_state"]) fun _ _ _ _ _ _ us hl => match us, hl with | [_], _ => rfl
  have FE := fun_mk (st := sStepped) lE cE kE
  have mE := PySem.W.mg_of X G aE
  have bE := FE.binds (ps := ["_law_state", "_law_name", "_law_part_here"]) fun _ _ _ _ _ _ us hl => match us, hl with | [_, _, _], _ => rfl
  have FH := fun_mk (st := sTight) lH cH kH
  have mH := PySem.W.mg_of X G aH
  have bH := FH.binds (ps := ["_law_state"]) fun _ _ _ _ _ _ us hl => match us, hl with | [_], _ => rfl
  have FD := fun_mk (st := sDue) lD cD kD
  have mD := PySem.W.mg_of X G aD
  have bD := FD.binds (ps := ["_law_rows_here"]) fun _ _ _ _ _ _ us hl => match us, hl with | [_], _ => rfl
  have FZ := fun_mk (st := sLaw) lZ cZ kZ
  have mZ := PySem.W.mg_of X G aZ
  refine ⟨PySem.W.fnOf "law" "law" (defArgs sLaw) (defBody sLaw) (defScope sLaw) .none kVZ dcZ pmZ anZ cdZ ctZ, fun s v => .of_eq rfl, fun base _ _ => ?_⟩
  have mNO := PySem.W.mg_of X G aNO
  have mON := PySem.W.mg_of X G aON
  have mWH := PySem.W.mg_of X G aWH
  have hNO : ∀ H : Hp, SqT K H fNO [.int 0, .int 1] := fun H => SqT.const lNO vNO (by decide)
  have hON : ∀ H : Hp, SqT K H fON [.int 1, .int 1] := fun H => SqT.const lON vON (by decide)
  have hWH : ∀ H : Hp, SqT K H fWH [.str "of", .str "steps"] := fun H => SqT.const lWH vWH (by decide)
  have oG : FnOk l.prog w K mg base CX0 1 fG _ ["one", "other"] spGcd := ok_gcd FG z_abs
  have oP : FnOk l.prog w K mg base CX0 2 fP _ ["one", "other"] (spPlus K) := ok_plus FP oG bG mG kG
  have oU : FnOk l.prog w K mg base CX0 3 fU _ ["parts"] (spSumN K) := ok_sum FU oP bP mP kP mNO hNO
  have oI : FnOk l.prog w K mg base CX0 1 fI _ ["one", "other"] (spLess K) := ok_less FI
  have oQ : FnOk l.prog w K mg base CX0 2 fQ _ ["row"] (spGreat K) := ok_great FQ oI bI mI kI mNO hNO
  have oM : FnOk l.prog w K mg base CX0 4 fM _ ["rows"] (spMuch K) := ok_much FM oI bI mI kI oU bU mU kU oQ bQ mQ kQ mON hON mWH hWH
  have oB : FnOk l.prog w K mg base CX0 1 fB _ ["_law_script"] (spBegin K) := ok_begin FB z_list
  have oT : FnOk l.prog w K mg base CX0 1 fT _ ["_law_state", "_law_many"] spTake := ok_take FT z_len z_divmod
  have oL : FnOk l.prog w K mg base CX0 1 fL _ ["_law_top", "_law_below"] spLow := ok_low FL z_abs
  have oV : FnOk l.prog w K mg base CX0 2 fV _ ["_law_parts"] (spSum K) := ok_lsum FV oL bL mL kL
  have oN : FnOk l.prog w K mg base CX0 2 fN _ ["_law_state", "_law_many"] spNames := ok_names FN oT bT mT kT z_range z_len
  have oA : FnOk l.prog w K mg base CX0 2 fA _ ["_law_state"] spPart := ok_part FA oT bT mT kT oL bL mL kL
  have oR : FnOk l.prog w K mg base CX0 3 fR _ ["_law_state", "_law_name", "_law_room"] (spRow K) := ok_row FR oT bT mT kT oL bL mL kL oA bA mA kA z_range z_min z_tuple
  have oW : FnOk l.prog w K mg base CX0 4 fW _ ["_law_state", "_law_names_here", "_law_many"] (spRows K) := ok_rows FW oT bT mT kT oR bR mR kR z_range z_len z_tuple z_int
  have oO : FnOk l.prog w K mg base CX0 5 fO _ ["_law_state"] (spSome K) := ok_some FO oT bT mT kT oN bN mN kN oW bW mW kW z_int
  have oC : FnOk l.prog w K mg base CX0 2 fC _ ["_law_state"] (spCut K) := ok_cut FC oT bT mT kT oL bL mL kL z_min z_int
  have oE : FnOk l.prog w K mg base CX0 2 fE _ ["_law_state", "_law_name", "_law_part_here"] (spStepped K) := ok_stepped FE oT bT mT kT oL bL mL kL z_len z_tuple z_enumerate
  have oH : FnOk l.prog w K mg base CX0 3 fH _ ["_law_state"] (spTight K) := ok_tight FH oT bT mT kT oN bN mN kN oC bC mC kC oE bE mE kE z_tuple
  have oD : FnOk l.prog w K mg base CX0 3 fD _ ["_law_rows_here"] (spMuch K) := ok_due FD oV bV mV kV
  exact ok_law FZ oB bB mB kB oO bO mO kO oM bM mM kM oD bD mD kD oH bH mH kH oA bA mA kA z_range z_isinstance z_bool
theorem walk {l : PySem.W.OpenLaw} {q : Program} {loose : List Str} {XP : (Str → Option Value) → Heap → Prop} {YP : World → Heap → Prop} {d : DefRec} {K : Params → PySem.W.Frag} (hn : l.most = some 63) (hdf : d.params.defaults = [])
    (hY : ∀ (w : World) (h : Heap), YP w h → (K w.params).In h)
    (F : ∀ (w : World) (mg : Str → Option Value) (fa : Addr) (h : Heap), (K w.params).In h → h.Ns mainGlobals mg → mg d.name = some (.ref fa) →
      ∃ fd : FuncData, (∀ (s : Shared) (u : Value), BindsTo s fd ⟨[u], []⟩ [("_law_script", u)]) ∧ ∀ base : Heap, (K w.params).In base → base.Ns mainGlobals mg → FnOk l.prog w (K w.params) mg base CX0 6 fa fd ["_law_script"] (spLaw (K w.params))) :
    PySem.W.WalkO q loose XP YP l.row.toRowW d [] (fun f vs => PySem.call f vs) :=
  L2.walk_of (n := 63) (k := 6) (x := "_law_script") (CX := fun _ => CX0) (sp := fun w => spLaw (K w.params)) hn (by decide) hdf ⟨rfl, by decide, by decide⟩ hY F (fun _ _ a ns hl _ hS => ⟨a, ns, rfl, hS, hl, fun _ => rfl⟩) fun _ _ _ _ _ z => z
end Ro
open PySem PySem.W PyProof.Rows
set_option maxRecDepth 100000 in
set_option maxHeartbeats 0 in
theorem PySem.Challenge.cw_royaltree_k07_rows_that_part_too_much_holds : PySem.Challenge.rw_royaltree_k07_rows_that_part_too_much.Holds := by
  w_on; o_law; k_head; (case hw => w_witness2)
  k_fill
  refine Ro.walk (l := PySem.Challenge.rw_royaltree_k07_rows_that_part_too_much) rfl rfl (fun w h Y => PySem.W.kIn_of Y) ?F
  case F =>
    intro w mg fa h KX G hmg
    refine' Ro.all_mk KX G hmg ?aG ?lG ?cG ?kG ?aP ?lP ?cP ?kP ?aU ?lU ?cU ?kU ?aI ?lI ?cI ?kI ?aM ?lM ?cM ?kM ?aQ ?lQ ?cQ ?kQ ?aB ?lB ?cB ?kB ?aT ?lT ?cT ?kT ?aL ?lL ?cL ?kL ?aV ?lV ?cV ?kV ?aN ?lN ?cN ?kN ?aA ?lA ?cA ?kA ?aR ?lR ?cR ?kR ?aW ?lW ?cW ?kW ?aO ?lO ?cO ?kO ?aC ?lC ?cC ?kC ?aE ?lE ?cE ?kE ?aH ?lH ?cH ?kH ?aD ?lD ?cD ?kD ?aZ ?lZ ?cZ ?kZ ?y_abs ?y_list ?y_len ?y_divmod ?y_range ?y_min ?y_tuple ?y_int ?y_isinstance ?y_bool ?y_enumerate ?aNO ?lNO ?vNO ?aON ?lON ?vON ?aWH ?lWH ?vWH
    (case aG => k_is)
    (case lG => k_is)
    (case cG => k_is)
    (case kG => k_is)
    (case aP => k_is)
    (case lP => k_is)
    (case cP => k_is)
    (case kP => k_is)
    (case aU => k_is)
    (case lU => k_is)
    (case cU => k_is)
    (case kU => k_is)
    (case aI => k_is)
    (case lI => k_is)
    (case cI => k_is)
    (case kI => k_is)
    (case aM => k_is)
    (case lM => k_is)
    (case cM => k_is)
    (case kM => k_is)
    (case aQ => k_is)
    (case lQ => k_is)
    (case cQ => k_is)
    (case kQ => k_is)
    (case aB => k_is)
    (case lB => k_is)
    (case cB => k_is)
    (case kB => k_is)
    (case aT => k_is)
    (case lT => k_is)
    (case cT => k_is)
    (case kT => k_is)
    (case aL => k_is)
    (case lL => k_is)
    (case cL => k_is)
    (case kL => k_is)
    (case aV => k_is)
    (case lV => k_is)
    (case cV => k_is)
    (case kV => k_is)
    (case aN => k_is)
    (case lN => k_is)
    (case cN => k_is)
    (case kN => k_is)
    (case aA => k_is)
    (case lA => k_is)
    (case cA => k_is)
    (case kA => k_is)
    (case aR => k_is)
    (case lR => k_is)
    (case cR => k_is)
    (case kR => k_is)
    (case aW => k_is)
    (case lW => k_is)
    (case cW => k_is)
    (case kW => k_is)
    (case aO => k_is)
    (case lO => k_is)
    (case cO => k_is)
    (case kO => k_is)
    (case aC => k_is)
    (case lC => k_is)
    (case cC => k_is)
    (case kC => k_is)
    (case aE => k_is)
    (case lE => k_is)
    (case cE => k_is)
    (case kE => k_is)
    (case aH => k_is)
    (case lH => k_is)
    (case cH => k_is)
    (case kH => k_is)
    (case aD => k_is)
    (case lD => k_is)
    (case cD => k_is)
    (case kD => k_is)
    (case aZ => k_is)
    (case lZ => k_is)
    (case cZ => k_is)
    (case kZ => k_is)
    (case y_abs => k_is)
    (case y_list => k_is)
    (case y_len => k_is)
    (case y_divmod => k_is)
    (case y_range => k_is)
    (case y_min => k_is)
    (case y_tuple => k_is)
    (case y_int => k_is)
    (case y_isinstance => k_is)
    (case y_bool => k_is)
    (case y_enumerate => k_is)
    (case aNO => k_is)
    (case lNO => k_is)
    (case vNO => exact .cons ⟨_, rfl⟩ (.cons ⟨_, rfl⟩ .nil))
    (case aON => k_is)
    (case lON => k_is)
    (case vON => exact .cons ⟨_, rfl⟩ (.cons ⟨_, rfl⟩ .nil))
    (case aWH => k_is)
    (case lWH => k_is)
    (case vWH => exact .cons ⟨_, rfl⟩ (.cons ⟨_, rfl⟩ .nil))

