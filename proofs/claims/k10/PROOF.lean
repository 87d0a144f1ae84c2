import PyProof.Rows.All
import Wide.All
import OpenK.AllK
import Wide.FinOn
import Lean
import PyProof.EqAt
import PyProof.EqKinds
import PyProof.TupleCall
import PySem.Challenge.RW_royaltree_k10_stretches_of_units
set_option Elab.async false
set_option linter.all false
set_option maxRecDepth 100000
namespace L2
open PySem PySem.Spec PyProof.Rows
abbrev Key := Sum Int Str
def keyIs : Key -> Value -> Bool
  | .inl k, v => Value.isInt k v
  | .inr x, v => Value.isStrOf x v
def keyH (w : World) : Key -> Int
  | .inl k => hashInt k
  | .inr x => hashStr w x
theorem keyIs_shape : ∀ {k : Key} {v : Value}, keyIs k v = true -> (∃ i t, k = Sum.inl i /\ v = Value.int i t) ∨ (∃ x t, k = Sum.inr x /\ v = Value.str x t)
  | .inl i, v, h => by
    obtain ⟨t, e⟩ := Value.isInt_shape (k := i) (v := v) h
    exact .inl ⟨i, t, rfl, e⟩
  | .inr x, v, h => by
    obtain ⟨t, e⟩ := Value.isStrOf_shape (x := x) (v := v) h
    exact .inr ⟨x, t, rfl, e⟩
theorem keyIs_int (i : Int) (t : Tok) : keyIs (.inl i) (.int i t) = true := by simp [keyIs, Value.isInt]
theorem keyIs_str (x : Str) (t : Tok) : keyIs (.inr x) (.str x t) = true := by simp [keyIs, Value.isStrOf]
theorem key_ll (a b : Int) : decide ((Sum.inl a : Key) = Sum.inl b) = (a == b) := by
  by_cases e : a = b
  · subst e; simp
  · have h : ¬ (Sum.inl a : Key) = Sum.inl b := fun q => e (Sum.inl.inj q)
    rw [decide_eq_false h]
    exact (beq_eq_false_iff_ne.mpr e).symm
theorem key_rr (a b : Str) : decide ((Sum.inr a : Key) = Sum.inr b) = decide (a = b) := by
  by_cases e : a = b
  · subst e; simp
  · have h : ¬ (Sum.inr a : Key) = Sum.inr b := fun q => e (Sum.inr.inj q)
    rw [decide_eq_false h, decide_eq_false e]
theorem key_lr (a : Int) (b : Str) : decide ((Sum.inl a : Key) = Sum.inr b) = false := decide_eq_false (fun q => nomatch q)
theorem key_rl (a : Str) (b : Int) : decide ((Sum.inr a : Key) = Sum.inl b) = false := decide_eq_false (fun q => nomatch q)
def mixKind (prog : Program) (w : World) : PySem.KeyKind prog w Key where
  is := keyIs
  hash := keyH w
  inj := fun v a b ha hb => by
    rcases keyIs_shape ha with ⟨i, t, rfl, rfl⟩ | ⟨x, t, rfl, rfl⟩
    · rcases keyIs_shape hb with ⟨j, u, rfl, e⟩ | ⟨y, u, rfl, e⟩
      · injection e with e1 _; rw [e1]
      · exact nomatch e
    · rcases keyIs_shape hb with ⟨j, u, rfl, e⟩ | ⟨y, u, rfl, e⟩
      · exact nomatch e
      · injection e with e1 _; rw [e1]
  byValue := fun k v h => by
    rcases keyIs_shape h with ⟨i, t, rfl, rfl⟩ | ⟨x, t, rfl, rfl⟩ <;> rfl
  pyHash := fun hv h => by
    rcases keyIs_shape hv with ⟨i, t, rfl, rfl⟩ | ⟨x, t, rfl, rfl⟩
    · exact wpAny_pyHash_int h
    · exact wpAny_pyHash_str h
  eqBool := fun hu hv h => by
    rcases keyIs_shape hu with ⟨i, t, rfl, rfl⟩ | ⟨x, t, rfl, rfl⟩
    · rcases keyIs_shape hv with ⟨j, u, rfl, rfl⟩ | ⟨y, u, rfl, rfl⟩
      · rw [key_ll] at h; exact wpAny_eqBool_int h
      · rw [key_lr] at h; exact SeqAt.EqAt.int_str i t y u _ _ _ _ h
    · rcases keyIs_shape hv with ⟨j, u, rfl, rfl⟩ | ⟨y, u, rfl, rfl⟩
      · rw [key_rl] at h; exact SeqAt.EqAt.str_int x t j u _ _ _ _ h
      · rw [key_rr] at h; exact wpAny_eqBool_str h
  «strs» := fun k x t v h => by
    rcases keyIs_shape h with ⟨i, u, rfl, e⟩ | ⟨y, u, rfl, e⟩
    · exact nomatch e
    · injection e with e1 _
      subst e1
      cases v <;> rfl
theorem mixKind_int (prog : Program) (w : World) (i : Int) (t : Tok) : (mixKind prog w).is (.inl i) (.int i t) = true := keyIs_int i t
theorem mixKind_str (prog : Program) (w : World) (x : Str) (t : Tok) : (mixKind prog w).is (.inr x) (.str x t) = true := keyIs_str x t
end L2
namespace L2
open PySem PySem.Spec PyProof.Rows
inductive V where
  | non | bl (b : Bool) | int (i : Int) | str (x : Str) | byt (b : Array UInt8) | flt (b : UInt64) | ref (a : Addr) | ty (n : String)
  deriving DecidableEq
def RelV : V -> Value -> Prop
  | .non, u => u = Value.none
  | .bl b, u => u = Value.bool b
  | .int i, u => ∃ t, u = Value.int i t
  | .str x, u => ∃ t, u = Value.str x t
  | .byt b, u => ∃ t, u = Value.bytes b t
  | .flt b, u => ∃ t, u = Value.float b t
  | .ref a, u => u = Value.ref a
  | .ty n, u => u = Value.type n
abbrev Vals : List V -> List Value -> Prop := Paired RelV
theorem Vals.length {xs : List V} {us : List Value} (r : Vals xs us) : xs.length = us.length := Paired.length r
theorem Vals.get : ∀ {xs : List V} {us : List Value} {i : Nat} {x : V}, Vals xs us -> xs[i]? = some x -> ∃ u, us[i]? = some u /\ RelV x u
  | _, _, _, _, .nil, e => by simp at e
  | _, _, 0, _, .cons r _, e => by simp at e; subst e; exact ⟨_, rfl, r⟩
  | _, _, i + 1, x, .cons _ t, e => by
    obtain ⟨u, h1, h2⟩ := Vals.get (i := i) (x := x) t (by simpa using e)
    exact ⟨u, by simpa using h1, h2⟩
theorem Vals.set {x : V} {u : Value} (r : RelV x u) : ∀ {xs : List V} {us : List Value} (i : Nat), Vals xs us -> Vals (xs.set i x) (us.set i u)
  | _, _, _, .nil => .nil
  | _, _, 0, .cons _ t => .cons r t
  | _, _, i + 1, .cons q t => .cons q (Vals.set r i t)
theorem Vals.append : ∀ {xs ys : List V} {us ws : List Value}, Vals xs us -> Vals ys ws -> Vals (xs ++ ys) (us ++ ws)
  | _, _, _, _, .nil, s => s
  | _, _, _, _, .cons r t, s => .cons r (Vals.append t s)
theorem Vals.take : ∀ {xs : List V} {us : List Value} (n : Nat), Vals xs us -> Vals (xs.take n) (us.take n)
  | _, _, 0, _ => .nil
  | _, _, _ + 1, .nil => .nil
  | _, _, n + 1, .cons r t => .cons r (Vals.take n t)
theorem Vals.drop : ∀ {xs : List V} {us : List Value} (n : Nat), Vals xs us -> Vals (xs.drop n) (us.drop n)
  | _, _, 0, r => r
  | _, _, _ + 1, .nil => .nil
  | _, _, n + 1, .cons _ t => Vals.drop n t
def RelO : Option V -> Option Value -> Prop
  | some v, some u => RelV v u
  | none, none => True
  | _, _ => False
def KV {κ : Type} : List (κ × V) -> List (κ × Value) -> Prop := Paired fun (p : κ × V) (q : κ × Value) => p.1 = q.1 /\ RelV p.2 q.2
def kV : Key -> V
  | .inl i => .int i
  | .inr x => .str x
inductive HO where
  | lst (xs : List V)
  | tup (xs : List V)
  | dK (kvs : List (Key × V)) | dT (kvs : List (List Key × V))
  | set (S : Int -> Bool) (n : Nat)
  | ins (C dx : Addr) (fs : List (Str × V))
  | own (x : Addr)
  | xd (fs : List (Str × V))
  | met (f x : Addr)
  | rng (lo hi : Int)
  | frz (o : Obj) (u : HO)
  | tbl (ps : Array Value)
  | ext (φ : Heap -> Prop)
abbrev Hp := Addr -> Option HO
def upd (H : Hp) (a : Addr) (o : HO) : Hp := fun b => if b = a then some o else H b
theorem upd_same {H : Hp} {a : Addr} {o : HO} : upd H a o a = some o := by unfold upd; rw [if_pos rfl]
theorem upd_ne {H : Hp} {a b : Addr} {o : HO} (h : b ≠ a) : upd H a o b = H b := by unfold upd; rw [if_neg h]
theorem ne_of {H : Hp} {a b : Addr} {o u : HO} (h : H a = some o) (h' : H b = some u) (d : o ≠ u) : a ≠ b := by
  intro e; subst e; rw [h] at h'; exact d (Option.some.inj h')
theorem ne_of_none {H : Hp} {a b : Addr} {o : HO} (h : H a = some o) (h' : H b = none) : a ≠ b := by
  intro e; subst e; rw [h] at h'; cases h'
section
variable (P : Program) (w : World)
def ObjOk (H : Hp) (h : Heap) (a : Addr) : HO -> Prop
  | .lst xs => xs.length <= sizeLine /\ ∃ (its : List Value) (n : Nat), Vals xs its /\ h.get? a = some { cls := .type "list", data := .seq its.toArray n }
  | .tup xs => xs.length <= sizeLine /\ ∃ its : List Value, Vals xs its /\ IsTup h a its.toArray
  | .dK kvs => kvs.length <= sizeLine /\ (a == sysModules) = false /\ ∃ vs, KV kvs vs /\ h.DictOf (mixKind P w) a vs
  | .dT kvs => kvs.length <= sizeLine /\ (a == sysModules) = false /\ ∃ xs : List (List Key × Addr × Value),
      Paired (fun (p : List Key × V) (q : List Key × Addr × Value) => p.1 = q.1 /\ H q.2.1 = some (.tup (p.1.map kV)) /\ RelV p.2 q.2.2) kvs xs /\
      ∃ o es ep, h.get? a = some o /\ o.ExactDict /\ o.data = .dict es ep /\ es.toList = xs.map (entryOfKey (tupleKind (mixKind P w))) /\ (xs.map (·.1)).Nodup
  | .set S n => h.SetOf (intKind P w) a S n
  | .ins C dx fs => H dx = some (.own a) /\ fs.length <= 1000 /\ dx ≠ a /\ h.get? a = some (PySem.W.instObj C dx) /\
      ∃ mA, h.Ns1 dx mA /\ (∀ f, RelO (fs.lookup f) (mA f)) /\ PySem.Within mA (fs.map (·.1))
  | .own _ => ∃ o, h.get? a = some o
  | .xd fs => ∃ mA, h.Ns1 a mA /\ ∀ f, RelO (fs.lookup f) (mA f)
  | .rng lo hi => ∃ t u v, h.get? a = some { cls := .type "range", data := .fields #[.int lo t, .int hi u, .int 1 v] }
  | .frz o u => h.get? a = some o /\ ObjOk H h a u
  | .tbl ps => h.get? a = some { cls := .none, data := .fields ps }
  | .met f x => h.get? a = some (PySem.W.methodObj (.ref f) (.ref x))
  | .ext φ => φ h /\ (∃ o, h.get? a = some o) /\ ∀ h1 h2 : Heap, φ h1 -> (∀ o, h1.get? a = some o -> h2.get? a = some o) -> φ h2
def HOk (H : Hp) (h : Heap) : Prop := ∀ a o, H a = some o -> ObjOk P w H h a o
end
section
variable {P : Program} {w : World} {H H' : Hp} {h h' : Heap} {a : Addr} {o : HO}
theorem ObjOk.lt (x : ObjOk P w H h a o) : a < h.objs.size := by
  cases o with
  | lst xs => obtain ⟨_, _, _, _, e⟩ := x; exact Heap.lt_size e
  | tup xs => obtain ⟨_, _, _, p⟩ := x; exact p.lt
  | dK kvs => obtain ⟨_, _, _, _, o, _, _, e, _⟩ := x; exact Heap.lt_size e
  | dT kvs => obtain ⟨_, _, _, _, o, _, _, e, _⟩ := x; exact Heap.lt_size e
  | set S n => obtain ⟨o, _, _, _, e, _⟩ := x; exact Heap.lt_size e
  | ins C dx fs => obtain ⟨_, _, _, e, _⟩ := x; exact Heap.lt_size e
  | own y => obtain ⟨_, e⟩ := x; exact Heap.lt_size e
  | xd fs => obtain ⟨_, ⟨_, _, _, e, _⟩, _⟩ := x; exact Heap.lt_size e
  | rng lo hi => obtain ⟨_, _, _, e⟩ := x; exact Heap.lt_size e
  | frz ob u => obtain ⟨e, _⟩ := x; exact Heap.lt_size e
  | tbl ps => exact Heap.lt_size (show h.get? a = some _ from x)
  | met f y => exact Heap.lt_size (show h.get? a = some _ from x)
  | ext φ => obtain ⟨_, ⟨_, e⟩, _⟩ := x; exact Heap.lt_size e
theorem Paired.mapP {α β : Type} {F G : α -> β -> Prop} : ∀ {l₁ : List α} {l₂ : List β}, Paired F l₁ l₂ -> (∀ a b, F a b -> G a b) -> Paired G l₁ l₂
  | _, _, .nil, _ => .nil
  | _, _, .cons r t, f => .cons (f _ _ r) (Paired.mapP t f)
theorem ObjOk.stay (x : ObjOk P w H h a o) (k : ∀ b u, (b = a ∨ H b = some (.own a)) -> h.get? b = some u -> h'.get? b = some u)
    (ho : ∀ b, H b = some (.own a) -> H' b = some (.own a)) (ht : ∀ b xs, H b = some (.tup xs) -> H' b = some (.tup xs)) : ObjOk P w H' h' a o := by
  induction o with
  | lst xs => obtain ⟨z, its, n, r, e⟩ := x; exact ⟨z, its, n, r, k _ _ (.inl rfl) e⟩
  | tup xs => obtain ⟨z, its, r, ob, e, c⟩ := x; exact ⟨z, its, r, ob, k _ _ (.inl rfl) e, c⟩
  | dK kvs => obtain ⟨z, y, vs, r, ob, es, ep, e, c⟩ := x; exact ⟨z, y, vs, r, ob, es, ep, k _ _ (.inl rfl) e, c⟩
  | dT kvs =>
    obtain ⟨z, y, xs, r, ob, es, ep, e, c⟩ := x
    exact ⟨z, y, xs, Paired.mapP r fun p q z => ⟨z.1, ht _ _ z.2.1, z.2.2⟩, ob, es, ep, k _ _ (.inl rfl) e, c⟩
  | set S n => obtain ⟨ob, es, ep, t, e, c⟩ := x; exact ⟨ob, es, ep, t, k _ _ (.inl rfl) e, c⟩
  | ins C dx fs =>
    obtain ⟨d, z, ne, e, mA, ⟨od, es, ep, e2, c⟩, r⟩ := x
    exact ⟨ho _ d, z, ne, k _ _ (.inl rfl) e, mA, ⟨od, es, ep, k _ _ (.inr d) e2, c⟩, r⟩
  | own y => obtain ⟨ob, e⟩ := x; exact ⟨ob, k _ _ (.inl rfl) e⟩
  | xd fs => obtain ⟨mA, ⟨od, es, ep, e, c⟩, r⟩ := x; exact ⟨mA, ⟨od, es, ep, k _ _ (.inl rfl) e, c⟩, r⟩
  | rng lo hi => obtain ⟨t, u, v, e⟩ := x; exact ⟨t, u, v, k _ _ (.inl rfl) e⟩
  | frz ob u ih => obtain ⟨e, q⟩ := x; exact ⟨k _ _ (.inl rfl) e, ih q⟩
  | tbl ps =>
    have e : h.get? a = some { cls := .none, data := .fields ps } := x
    show h'.get? a = some { cls := .none, data := .fields ps }
    exact k a _ (.inl rfl) e
  | met f y =>
    have e : h.get? a = some (PySem.W.methodObj (.ref f) (.ref y)) := x
    show h'.get? a = some (PySem.W.methodObj (.ref f) (.ref y))
    exact k a _ (.inl rfl) e
  | ext φ => obtain ⟨p, ⟨o, e⟩, st⟩ := x; exact ⟨st _ _ p fun o q => k _ _ (.inl rfl) q, ⟨o, k _ _ (.inl rfl) e⟩, st⟩
theorem HOk.lt (x : HOk P w H h) (e : H a = some o) : a < h.objs.size := (x a o e).lt
theorem HOk.fresh (x : HOk P w H h) (e : h.objs.size <= a) : H a = none := by
  cases q : H a with
  | none => rfl
  | some u => exact absurd (Nat.lt_of_lt_of_le (x.lt q) e) (Nat.lt_irrefl _)
theorem HOk.kept (x : HOk P w H h) (k : ∀ b u, h.get? b = some u -> h'.get? b = some u) : HOk P w H h' := fun a o e =>
  (x a o e).stay (fun b u _ q => k b u q) (fun _ q => q) fun _ _ q => q
theorem HOk.laid (x : HOk P w H h) (k : ∀ b u, h.get? b = some u -> h'.get? b = some u) (hp : h.objs.size <= a) (new : ObjOk P w (upd H a o) h' a o) : HOk P w (upd H a o) h' := fun b u e => by
  have hn := x.fresh hp
  by_cases hb : b = a
  · subst hb; rw [upd_same] at e; cases e; exact new
  · rw [upd_ne hb] at e
    exact (x b u e).stay (fun c v _ q => k c v q) (fun c q => by rw [upd_ne (ne_of_none q hn)]; exact q) fun c xs q => by rw [upd_ne (ne_of_none q hn)]; exact q
end
def Rd (H : Hp) (a : Addr) (u : HO) : Prop := H a = some u ∨ ∃ o, H a = some (.frz o u)
theorem Rd.ok {P : Program} {w : World} {H : Hp} {h : Heap} {a : Addr} {u : HO} (r : Rd H a u) (x : HOk P w H h) : ObjOk P w H h a u := by
  rcases r with r | ⟨o, r⟩
  · exact x a u r
  · obtain ⟨_, q⟩ := x a _ r
    exact q
def Mut : Option HO -> Prop
  | some (.lst _) => True
  | some (.dK _) => True
  | some (.dT _) => True
  | some (.set _ _) => True
  | some (.ins _ _ _) => True
  | some (.ext _) => True
  | _ => False
section
variable {P : Program} {w : World} {H : Hp} {h h' : Heap} {x e : Addr} {o' : HO}
theorem HOk.write (ok : HOk P w H h) (mu : Mut (H x)) (he : e = x ∨ H e = some (.own x)) (k : ∀ b u, b ≠ e -> h.get? b = some u -> h'.get? b = some u) (heo : ∃ u, h'.get? e = some u)
    (new : ObjOk P w (upd H x o') h' x o') : HOk P w (upd H x o') h' := fun b u q => by
  have nown : ∀ c y, H c = some (.own y) -> c ≠ x := fun c y r z => by subst z; rw [r] at mu; exact mu
  have ntup : ∀ c xs, H c = some (.tup xs) -> c ≠ x := fun c xs r z => by subst z; rw [r] at mu; exact mu
  by_cases hb : b = x
  · subst hb; rw [upd_same] at q; cases q; exact new
  · rw [upd_ne hb] at q
    by_cases hbe : b = e
    · have q' : H b = some (.own x) := by
        rcases he with z | z
        · exact absurd (hbe.trans z) hb
        · rw [hbe]; exact z
      rw [q] at q'; cases q'
      obtain ⟨v, hv⟩ := heo
      exact ⟨v, by rw [hbe]; exact hv⟩
    · refine (ok b u q).stay (fun c v hc r => k c v ?_ r) (fun c r => by rw [upd_ne (nown c b r)]; exact r) fun c xs r => by rw [upd_ne (ntup c xs r)]; exact r
      rcases hc with rfl | hc
      · exact hbe
      · rintro rfl
        rcases he with z | z
        · exact nown c b hc z
        · rw [hc] at z; cases z; exact hb rfl
end
structure Un (fs ex : List Addr) (H H' : Hp) (h h' : Heap) : Prop where
  keep : ∀ b o, h.get? b = some o -> H b = none -> b ∉ fs -> b ∉ ex -> h'.get? b = some o
  slot : ∀ b o, h.get? b = some o -> H b = none -> b ∈ fs -> b ∉ ex -> ∃ sl, h'.get? b = some { o with slots := sl }
  free : ∀ b o, h.get? b = some o -> H b = none -> b ∉ ex -> H' b = none
  there : ∀ b o, h.get? b = some o -> b ∉ ex -> ∃ o', h'.get? b = some o'
  tups : ∀ b xs, H b = some (.tup xs) -> H' b = some (.tup xs)
  frzs : ∀ b o u, H b = some (.frz o u) -> H' b = some (.frz o u)
  tbls : ∀ b ps, H b = some (.tbl ps) -> ∃ more, H' b = some (.tbl (ps ++ more))
section
variable {fs fs' ex ex' : List Addr} {H H1 H2 : Hp} {h h1 h2 h' : Heap} {a x e : Addr} {o : HO}
theorem Un.any (u : Un fs ex H H1 h h1) {b : Addr} {ob : Obj} (q : h.get? b = some ob) (n : H b = none) (hx : b ∉ ex) : ∃ sl, h1.get? b = some { ob with slots := sl } := by
  by_cases hb : b ∈ fs
  · exact u.slot b ob q n hb hx
  · exact ⟨ob.slots, u.keep b ob q n hb hx⟩
theorem Un.kept (k : ∀ b u, h.get? b = some u -> h'.get? b = some u) : Un fs ex H H h h' :=
  ⟨fun b ob q _ _ _ => k b ob q, fun b ob q _ _ _ => ⟨ob.slots, k b ob q⟩, fun _ _ _ n _ => n, fun b ob q _ => ⟨ob, k b ob q⟩, fun _ _ q => q, fun _ _ _ q => q, fun _ ps q => ⟨#[], by rw [q]; simp⟩⟩
theorem Un.refl : Un fs ex H H h h := Un.kept fun _ _ q => q
theorem Un.laid (k : ∀ b u, h.get? b = some u -> h'.get? b = some u) (hp : h.objs.size <= a) (hn : H a = none) : Un fs ex H (upd H a o) h h' where
  keep := fun b u q _ _ _ => k b u q
  slot := fun b u q _ _ _ => ⟨u.slots, k b u q⟩
  free := fun b u q n _ => by rw [upd_ne (Nat.ne_of_lt (Nat.lt_of_lt_of_le (Heap.lt_size q) hp))]; exact n
  there := fun b u q _ => ⟨u, k b u q⟩
  tups := fun b xs q => by rw [upd_ne (ne_of_none q hn)]; exact q
  frzs := fun b u xs q => by rw [upd_ne (ne_of_none q hn)]; exact q
  tbls := fun b ps q => ⟨#[], by rw [upd_ne (ne_of_none q hn), q]; simp⟩
theorem Un.write (mu : Mut (H x)) (he : e = x ∨ H e = some (.own x)) (k : ∀ b u, b ≠ e -> h.get? b = some u -> h'.get? b = some u) (heo : ∃ u, h'.get? e = some u) : Un fs ex H (upd H x o) h h' := by
  have hx : ∀ b, H b = none -> b ≠ x := fun b n z => by subst z; rw [n] at mu; exact mu
  have hb : ∀ b, H b = none -> b ≠ e := fun b n z => by
    subst z
    rcases he with r | r
    · exact hx b n r
    · rw [n] at r; cases r
  have hm : ∀ b u, H b = some u -> ¬ Mut (some u) -> b ≠ x := fun b u q nm z => by subst z; rw [q] at mu; exact nm mu
  refine ⟨fun b u q n _ _ => k b u (hb b n) q, fun b u q n _ _ => ⟨u.slots, k b u (hb b n) q⟩, fun b u q n _ => by rw [upd_ne (hx b n)]; exact n, fun b u q _ => ?_,
    fun b xs q => by rw [upd_ne (hm b _ q fun z => z)]; exact q, fun b u xs q => by rw [upd_ne (hm b _ q fun z => z)]; exact q, fun b ps q => ⟨#[], by rw [upd_ne (hm b _ q fun z => z), q]; simp⟩⟩
  by_cases hbe : b = e
  · subst hbe; exact heo
  · exact ⟨u, k b u hbe q⟩
end
def trk (h : Heap) (H : Hp) : List Addr := (List.range h.objs.size).filter fun a => (H a).isSome
def hidT (h : Heap) (H : Hp) : Heap := PySem.W.hideAll h (trk h H)
theorem hidT_size (h : Heap) (H : Hp) : (hidT h H).objs.size = h.objs.size := PySem.W.hideAll_size _ _
theorem hidT_get {h : Heap} {H : Hp} {b : Addr} {o : Obj} (e : h.get? b = some o) (n : H b = none) : (hidT h H).get? b = some o :=
  PySem.W.hideAll_get _ e fun hm => by
    have q : (H b).isSome = true := (List.mem_filter.mp hm).2
    rw [n] at q; simp at q
theorem of_hidT {h : Heap} {H : Hp} {b : Addr} {o : Obj} (e : (hidT h H).get? b = some o) : h.get? b = some o /\ H b = none := by
  have e' : h.get? b = some o := PySem.W.of_hideAll (trk h H) e
  refine ⟨e', ?_⟩
  cases q : H b with
  | none => rfl
  | some x =>
    have hm : b ∈ trk h H := List.mem_filter.mpr ⟨List.mem_range.mpr (Heap.lt_size e'), by simp [q]⟩
    have z : (hidT h H).get? b = none := PySem.W.hideAll_none (trk h H) hm
    rw [z] at e; cases e
end L2
namespace L2
open PySem PySem.Spec PyProof.Rows
structure Mod (K : PySem.W.Frag) (mg : Str -> Option Value) (base : Heap) : Prop where
  kin : K.In base
  glob : base.Ns mainGlobals mg
  blt : ∃ mb, base.Ns builtinsNs mb /\ ∀ x : Str, x ≠ "__name__" -> mb x = bootBuiltins x
  nolimit : base.NoLimit
  nodig : base.NoDigits
  bmain : ∃ bm ob, mg "__builtins__" = some (.ref bm) /\ bm ≠ builtinsNs /\ base.get? bm = some ob /\ ob.cls = .type "module" /\ ob.dict = some builtinsNs /\ ob.data = .plain
structure Cx where
  prog : Program
  w : World
  K : PySem.W.Frag
  mg : Str -> Option Value
  base : Heap
  A : Around
  N : List Str
  s₀ : Shared
  H₀ : Hp
  env : Env
  outer : List Env
  stack : List Env
  ex : List Addr
  fn : Str -> Bool
  calm : Bool
  pn : List (Addr × Obj)
  xe : Value -> Shared -> Prop
def frs (l : List Env) : List Addr := l.filterMap (·.frame)
abbrev Cx.fs (X : Cx) : List Addr := frs X.outer
def Vis (sc : Scope) (x : Str) : Prop := sc.names.lookup x = some .local ∨ sc.names.lookup x = some .cell ∨ sc.names.lookup x = some .free
def Loc (sc : Scope) (x : Str) : Prop := sc.names.lookup x = some .local ∨ sc.names.lookup x = some .cell
def Look (env : Env) (h : Heap) (m : Str -> Option Value) (x : Str) (u : Value) : Prop :=
  (env.kindOf x = some .local /\ m x = some u) ∨ ((env.kindOf x = some .cell ∨ env.kindOf x = some .free) /\ ∃ c, env.cells.lookup x = some c /\ h.IsCell c (some u))
structure Cx.Ok (X : Cx) : Prop where
  mod : Mod X.K X.mg X.base
  kind : X.env.scope.kind = .function
  glob : X.env.globals = mainGlobals
  blt : X.env.builtins = builtinsNs
  above : X.s₀.heap.objs.size <= X.env.locals
  inj : ∀ x y c, X.env.cells.lookup x = some c -> X.env.cells.lookup y = some c -> x = y
  has : ∀ x, (X.env.kindOf x = some .cell ∨ X.env.kindOf x = some .free) -> ∃ c, X.env.cells.lookup x = some c
  cab : ∀ x c, X.fn x = true -> X.env.cells.lookup x = some c -> X.s₀.heap.objs.size <= c
  hd : X.calm = true -> X.A.handled = none
  frames : X.A.frames = some X.stack
  stk : X.stack = X.outer ∨ (X.stack = X.env :: X.outer /\ X.env.frame = some X.env.locals)
  exf : ∀ b ∈ X.ex, b ≠ X.env.locals /\ ∀ x c, X.env.cells.lookup x = some c -> c ≠ b
  bs : ∀ b o, X.base.get? b = some o -> X.s₀.heap.get? b = some o /\ X.H₀ b = none
  bsz : X.base.objs.size <= X.s₀.heap.objs.size
  noex : ∀ b o, X.base.get? b = some o -> b ∉ X.ex
  exfs : ∀ b ∈ X.ex, b ∉ X.fs
  funs : X.s₀.heap.FunFrames X.base X.outer
  frf : ∀ b ∈ X.fs, X.H₀ b = none
structure Inv (X : Cx) (pins : List (Addr × Obj)) (σ : List (Option V)) (H : Hp) (s : Shared) : Prop where
  ok : X.Ok
  os : s.os = X.s₀.os
  bare : AllBare s.gens
  base : Un X.fs X.ex X.H₀ H X.s₀.heap s.heap
  loc : ∃ m, s.heap.Ns X.env.locals m /\ ∀ (i : Nat) (x : Str) (v : V), X.N[i]? = some x -> σ[i]? = some (some v) -> Vis X.env.scope x -> ∃ u, RelV v u /\ Look X.env s.heap m x u
  cell : ∀ x c, X.env.cells.lookup x = some c -> ∃ v, s.heap.IsCell c v
  free : H X.env.locals = none
  freeC : ∀ x c, X.env.cells.lookup x = some c -> H c = none
  pin : ∀ p ∈ X.pn ++ pins, s.heap.get? p.1 = some p.2 /\ H p.1 = none /\ p.1 ≠ X.env.locals /\ p.1 ∉ X.fs /\ ∀ v, p.2.data ≠ .cell v
  hok : HOk X.prog X.w H s.heap
  len : σ.length = X.N.length
section
variable {X : Cx} {pins : List (Addr × Obj)} {σ : List (Option V)} {H H' : Hp} {s : Shared} {h' : Heap}
theorem Cx.Ok.nofr (ok : X.Ok) {b : Addr} {o : Obj} (e : X.base.get? b = some o) : b ∉ X.fs := fun hb => by
  have := (ok.funs.mem hb).1
  rw [e] at this; cases this
theorem Inv.bs (I : Inv X pins σ H s) : ∀ b o, X.base.get? b = some o -> s.heap.get? b = some o /\ H b = none := fun b o e =>
  ⟨I.base.keep b o (I.ok.bs b o e).1 (I.ok.bs b o e).2 (I.ok.nofr e) (I.ok.noex b o e), I.base.free b o (I.ok.bs b o e).1 (I.ok.bs b o e).2 (I.ok.noex b o e)⟩
theorem Inv.bk (I : Inv X pins σ H s) : ∀ b o, X.base.get? b = some o -> s.heap.get? b = some o := fun b o e => (I.bs b o e).1
theorem Inv.mod (I : Inv X pins σ H s) : Mod X.K X.mg X.base := I.ok.mod
theorem Inv.kIn (I : Inv X pins σ H s) : X.K.In s.heap := I.ok.mod.kin.keeps I.bk
theorem Inv.lt (I : Inv X pins σ H s) : X.env.locals < s.heap.objs.size := let ⟨_, hn, _⟩ := I.loc; hn.lt
theorem Inv.sz (I : Inv X pins σ H s) : X.s₀.heap.objs.size <= s.heap.objs.size := Nat.le_trans I.ok.above (Nat.le_of_lt I.lt)
theorem Inv.nofs (I : Inv X pins σ H s) {a : Addr} (h : s.heap.objs.size <= a) : a ∉ X.fs := fun hb => by
  obtain ⟨_, o, ho, _⟩ := I.ok.funs.mem hb
  exact absurd (Nat.lt_of_lt_of_le (Heap.lt_size ho) (Nat.le_trans I.sz h)) (Nat.lt_irrefl _)
theorem Inv.cne (I : Inv X pins σ H s) : ∀ x c, X.env.cells.lookup x = some c -> c ≠ X.env.locals := fun x c e z => by
  obtain ⟨v, o, ho, hd⟩ := I.cell x c e
  obtain ⟨m, ⟨o', es, ep, ho', hd', _⟩, _⟩ := I.loc
  rw [z, ho'] at ho; cases ho; rw [hd'] at hd; cases hd
theorem Inv.funs (I : Inv X pins σ H s) : s.heap.FunFrames X.base X.outer := by
  have all : ∀ (l : List Env), (∀ b ∈ frs l, b ∈ X.fs) -> X.s₀.heap.FunFrames X.base l -> s.heap.FunFrames X.base l := by
    intro l
    induction l with
    | nil => intro _ _; trivial
    | cons env r ih =>
      intro hs hl
      obtain ⟨hk, ⟨L, o, hf, hn, ho, hd⟩, hr⟩ := hl
      have hL : L ∈ X.fs := hs L (by unfold frs; rw [List.filterMap_cons, hf]; exact List.mem_cons_self)
      obtain ⟨sl, e⟩ := I.base.slot L o ho (I.ok.frf L hL) hL fun z => I.ok.exfs L z hL
      exact ⟨hk, ⟨L, _, hf, hn, e, hd⟩, ih (fun b hb => hs b (by unfold frs; rw [List.filterMap_cons, hf]; exact List.mem_cons_of_mem _ hb)) hr⟩
  exact all X.outer (fun _ hb => hb) I.ok.funs
theorem Inv.stack (I : Inv X pins σ H s) : s.heap.FunFrames X.base X.stack := by
  rcases I.ok.stk with e | ⟨e, hf⟩
  · rw [e]; exact I.funs
  · rw [e]
    obtain ⟨m, hn, _⟩ := I.loc
    refine .cons (by rw [I.ok.kind]; decide) hf hn ?_ I.funs
    exact Heap.get?_none_of_le (Nat.le_trans I.ok.bsz I.ok.above)
theorem Inv.stkSub (I : Inv X pins σ H s) : ∀ b ∈ frs X.stack, b ∈ X.env.locals :: X.fs := fun b hb => by
  rcases I.ok.stk with e | ⟨e, hf⟩
  · rw [e] at hb; exact List.mem_cons_of_mem _ hb
  · rw [e] at hb
    unfold frs at hb
    rw [List.filterMap_cons, hf] at hb
    exact hb
theorem Inv.stkFree (I : Inv X pins σ H s) : ∀ b ∈ frs X.stack, H b = none := fun b hb => by
  rcases List.mem_cons.mp (I.stkSub b hb) with e | hb
  · rw [e]; exact I.free
  · obtain ⟨_, o, ho, _⟩ := I.ok.funs.mem hb
    exact I.base.free b o ho (I.ok.frf b hb) fun z => I.ok.exfs b z hb
theorem Inv.step {g' : Array GenState} {t' : Nat} {d' : Drawn} {ch : List Addr} (I : Inv X pins σ H s)
    (hch : ∀ b ∈ ch, (b ∈ X.ex ∨ X.s₀.heap.objs.size <= b) /\ b ≠ X.env.locals /\ (∀ x c, X.env.cells.lookup x = some c -> c ≠ b) /\ ∀ p ∈ X.pn ++ pins, p.1 ≠ b)
    (keep : ∀ b o, b ≠ X.env.locals -> b ∉ X.fs -> b ∉ ch -> s.heap.get? b = some o -> H b = none -> h'.get? b = some o)
    (slot : ∀ b o, b ≠ X.env.locals -> b ∈ X.fs -> b ∉ ch -> s.heap.get? b = some o -> H b = none -> ∃ sl, h'.get? b = some { o with slots := sl }) (free : ∀ b o, b ∉ ch -> s.heap.get? b = some o -> H b = none -> H' b = none)
    (there : ∀ b o, b ∉ ch -> s.heap.get? b = some o -> ∃ o', h'.get? b = some o')
    (tups : ∀ b xs, H b = some (.tup xs) -> H' b = some (.tup xs)) (frzs : ∀ b o u, H b = some (.frz o u) -> H' b = some (.frz o u)) (tbls : ∀ b ps, H b = some (.tbl ps) -> ∃ more, H' b = some (.tbl (ps ++ more)))
    (ns : ∀ m, s.heap.Ns X.env.locals m -> h'.Ns X.env.locals m) (hok : HOk X.prog X.w H' h') (hg : AllBare g') :
    Inv X pins σ H' { s with heap := h', gens := g', drawn := d', toks := t' } := by
  have neL : ∀ b o, X.s₀.heap.get? b = some o -> b ≠ X.env.locals := fun b o e => Nat.ne_of_lt (Nat.lt_of_lt_of_le (Heap.lt_size e) I.ok.above)
  have neC : ∀ b o, X.s₀.heap.get? b = some o -> b ∉ X.ex -> b ∉ ch := fun b o e hx hb => by
    rcases (hch b hb).1 with z | z
    · exact hx z
    · exact absurd (Nat.lt_of_lt_of_le (Heap.lt_size e) z) (Nat.lt_irrefl _)
  have cellK : ∀ x c, X.env.cells.lookup x = some c -> ∀ v, s.heap.IsCell c v -> h'.IsCell c v := fun x c e v ⟨o, ho, hd⟩ => by
    have nch : c ∉ ch := fun z => (hch c z).2.2.1 x c e rfl
    by_cases hc : c ∈ X.fs
    · obtain ⟨sl, q⟩ := slot c o (I.cne x c e) hc nch ho (I.freeC x c e)
      exact ⟨_, q, hd⟩
    · exact ⟨o, keep c o (I.cne x c e) hc nch ho (I.freeC x c e), hd⟩
  refine ⟨I.ok, I.os, hg, ⟨fun b o e n hb hx => ?_, fun b o e n hb hx => ?_, fun b o e n hx => ?_, fun b o e hx => ?_, fun b xs e => tups b xs (I.base.tups b xs e), fun b o xs e => frzs b o xs (I.base.frzs b o xs e), fun b ps e => ?_⟩, ?_, fun x c e => ?_, ?_, fun x c e => ?_, fun p hp => ?_, hok, I.len⟩
  · exact keep b o (neL b o e) hb (neC b o e hx) (I.base.keep b o e n hb hx) (I.base.free b o e n hx)
  · obtain ⟨sl, e1⟩ := I.base.slot b o e n hb hx
    obtain ⟨sl', e2⟩ := slot b _ (neL b o e) hb (neC b o e hx) e1 (I.base.free b o e n hx)
    exact ⟨sl', e2⟩
  · obtain ⟨o', e1⟩ := I.base.there b o e hx
    exact free b o' (neC b o e hx) e1 (I.base.free b o e n hx)
  · obtain ⟨o', e1⟩ := I.base.there b o e hx
    exact there b o' (neC b o e hx) e1
  · obtain ⟨m1, e1⟩ := I.base.tbls b ps e
    obtain ⟨m2, e2⟩ := tbls b _ e1
    exact ⟨m1 ++ m2, by rw [e2, Array.append_assoc]⟩
  · obtain ⟨m, hn, hl⟩ := I.loc
    refine ⟨m, ns m hn, fun i x v e1 e2 e3 => ?_⟩
    obtain ⟨u, r, l⟩ := hl i x v e1 e2 e3
    refine ⟨u, r, ?_⟩
    rcases l with l | ⟨k, c, e, z⟩
    · exact .inl l
    · exact .inr ⟨k, c, e, cellK x c e _ z⟩
  · obtain ⟨v, z⟩ := I.cell x c e
    exact ⟨v, cellK x c e v z⟩
  · obtain ⟨m, ⟨o, _, _, ho, _⟩, _⟩ := I.loc
    exact free _ o (fun z => (hch _ z).2.1 rfl) ho I.free
  · obtain ⟨v, o, ho, hd⟩ := I.cell x c e
    exact free c o (fun z => (hch c z).2.2.1 x c e rfl) ho (I.freeC x c e)
  · obtain ⟨e, n, ne, nf, d⟩ := I.pin p hp
    have nch : p.1 ∉ ch := fun z => (hch p.1 z).2.2.2 p hp rfl
    exact ⟨keep p.1 p.2 ne nf nch e n, free p.1 p.2 nch e n, ne, nf, d⟩
theorem Inv.un {t' : Nat} (I : Inv X pins σ H s) (u : Un X.fs [] H H' s.heap h') (hok : HOk X.prog X.w H' h') : Inv X pins σ H' { s with heap := h', toks := t' } := by
  obtain ⟨m, ⟨o, es, ep, ho, r⟩, _⟩ := id I.loc
  obtain ⟨sl, hL⟩ := u.any ho I.free (by simp)
  exact I.step (g' := s.gens) (d' := s.drawn) (ch := []) (fun _ z => nomatch z) (fun b o _ hb _ e n => u.keep b o e n hb (by simp)) (fun b o _ hb _ e n => u.slot b o e n hb (by simp)) (fun b o _ e n => u.free b o e n (by simp)) (fun b o _ e => u.there b o e (by simp)) u.tups u.frzs u.tbls (fun m' hm => by
    obtain ⟨o', es', ep', ho', r'⟩ := hm
    rw [ho] at ho'; cases ho'
    exact ⟨_, es', ep', hL, r'⟩) hok I.bare
theorem Inv.call {g' : Array GenState} {t' : Nat} {d' : Drawn} {ch : List Addr} (I : Inv X pins σ H s) (u : Un (frs X.stack) ch H H' s.heap h') (hok : HOk X.prog X.w H' h') (hg : AllBare g')
    (hch : ∀ b ∈ ch, (b ∈ X.ex ∨ X.s₀.heap.objs.size <= b) /\ b ≠ X.env.locals /\ (∀ x c, X.env.cells.lookup x = some c -> c ≠ b) /\ ∀ p ∈ X.pn ++ pins, p.1 ≠ b) :
    Inv X pins σ H' { s with heap := h', gens := g', drawn := d', toks := t' } := by
  obtain ⟨m, ⟨o, es, ep, ho, r⟩, _⟩ := id I.loc
  obtain ⟨sl, hL⟩ := u.any ho I.free fun z => (hch _ z).2.1 rfl
  exact I.step (ch := ch) hch (fun b o hL hb hc e n => u.keep b o e n (fun z => (List.mem_cons.mp (I.stkSub b z)).elim hL hb) hc) (fun b o _ _ hc e n => u.any e n hc) (fun b o hc e n => u.free b o e n hc) (fun b o hc e => u.there b o e hc) u.tups u.frzs u.tbls (fun m' hm => by
    obtain ⟨o', es', ep', ho', r'⟩ := hm
    rw [ho] at ho'; cases ho'
    exact ⟨_, es', ep', hL, r'⟩) hok hg
theorem Inv.turned {t' : Nat} {it : Addr} (I : Inv X pins σ H s) (k : ∀ b o, b ≠ it -> s.heap.get? b = some o -> h'.get? b = some o) (hn : H it = none) (hL : it ≠ X.env.locals)
    (h1 : it ∈ X.ex ∨ X.s₀.heap.objs.size <= it) (h2 : ∀ x c, X.env.cells.lookup x = some c -> c ≠ it) (h3 : ∀ p ∈ X.pn ++ pins, p.1 ≠ it) : Inv X pins σ H { s with heap := h', toks := t' } := by
  have nit : ∀ b u, H b = some u -> b ≠ it := fun b u e z => by rw [z, hn] at e; cases e
  refine I.step (g' := s.gens) (d' := s.drawn) (ch := [it]) (fun b hb => ?_) (fun b o _ _ hc e _ => k b o (fun z => hc (by simp [z])) e) (fun b o _ _ hc e _ => ⟨o.slots, k b o (fun z => hc (by simp [z])) e⟩) (fun _ _ _ _ n => n)
    (fun b o hc e => ⟨o, k b o (fun z => hc (by simp [z])) e⟩) (fun _ _ e => e) (fun _ _ _ e => e) (fun b ps e => ⟨#[], by rw [e]; simp⟩) (fun m hm => ?_) (fun b u e => ?_) I.bare
  · have e : b = it := by simpa using hb
    subst e
    exact ⟨h1, hL, h2, h3⟩
  · obtain ⟨o, es, ep, ho, r⟩ := hm
    exact ⟨o, es, ep, k _ o (Ne.symm hL) ho, r⟩
  · refine (I.hok b u e).stay (fun c v hc q => k c v ?_ q) (fun _ q => q) fun _ _ q => q
    rcases hc with z | z
    · rw [z]; exact nit b u e
    · exact nit c _ z
theorem Inv.tok (I : Inv X pins σ H s) (t : Nat) : Inv X pins σ H { s with toks := t } := I.un (h' := s.heap) (t' := t) Un.refl I.hok
theorem Inv.kept {t' : Nat} (I : Inv X pins σ H s) (k : ∀ b u, s.heap.get? b = some u -> h'.get? b = some u) : Inv X pins σ H { s with heap := h', toks := t' } := I.un (Un.kept k) (I.hok.kept k)
theorem Inv.laid {a : Addr} {o : HO} {t' : Nat} (I : Inv X pins σ H s) (k : ∀ b u, s.heap.get? b = some u -> h'.get? b = some u) (hp : s.heap.objs.size <= a) (new : ObjOk X.prog X.w (upd H a o) h' a o) :
    Inv X pins σ (upd H a o) { s with heap := h', toks := t' } := I.un (Un.laid k hp (I.hok.fresh hp)) (I.hok.laid k hp new)
theorem Inv.write {x e : Addr} {o : HO} {t' : Nat} (I : Inv X pins σ H s) (mu : Mut (H x)) (he : e = x ∨ H e = some (.own x)) (k : ∀ b u, b ≠ e -> s.heap.get? b = some u -> h'.get? b = some u) (heo : ∃ u, h'.get? e = some u)
    (new : ObjOk X.prog X.w (upd H x o) h' x o) : Inv X pins σ (upd H x o) { s with heap := h', toks := t' } := I.un (Un.write mu he k heo) (I.hok.write mu he k heo new)
theorem Inv.pins_of {pins' : List (Addr × Obj)} (I : Inv X pins σ H s) (h : ∀ p ∈ pins', s.heap.get? p.1 = some p.2 /\ H p.1 = none /\ p.1 ≠ X.env.locals /\ p.1 ∉ X.fs /\ ∀ v, p.2.data ≠ .cell v) : Inv X pins' σ H s :=
  ⟨I.ok, I.os, I.bare, I.base, I.loc, I.cell, I.free, I.freeC, fun p hp => (List.mem_append.mp hp).elim (fun z => I.pin p (List.mem_append_left _ z)) (h p), I.hok, I.len⟩
theorem nodup_ix {N : List Str} (hN : N.Nodup) {i j : Nat} {x : Str} (a : N[i]? = some x) (b : N[j]? = some x) : i = j := by
  obtain ⟨h1, e1⟩ := List.getElem?_eq_some_iff.mp a
  obtain ⟨h2, e2⟩ := List.getElem?_eq_some_iff.mp b
  exact (List.getElem_inj hN).mp (e1.trans e2.symm)
theorem store_ok2 {M : Model} {A : Around} {E : Value -> Shared -> Prop} {i : Nat} {x : Str} {v : V} {u : Value} {Q : Unit -> Shared -> Prop} (I : Inv X pins σ H s) (hN : X.N.Nodup) (hi : X.N[i]? = some x) (hx : Loc X.env.scope x) (r : RelV v u)
    (h : ∀ s', Inv X pins (σ.set i (some v)) H s' -> (∃ a, Heap.SameBut a s.heap s'.heap /\ (a = X.env.locals ∨ X.env.cells.lookup x = some a)) -> Q () s') (hf : X.fn x = true ∨ X.env.scope.names.lookup x = some .local := by first | exact .inl rfl | exact .inr rfl | assumption) : wpAny M A (storeName X.env x u) Q E s := by
  obtain ⟨m, hn, hl⟩ := id I.loc
  have hcls : (X.env.scope.kind == .class || (X.env.scope.kind == .module && X.env.locals != X.env.globals)) = false := by rw [I.ok.kind]; rfl
  have hiσ : i < σ.length := by rw [I.len]; exact (List.getElem?_eq_some_iff.mp hi).1
  have cne := I.cne
  have tracked : ∀ {a : Addr} {h' : Heap}, (∃ o, s.heap.get? a = some o /\ H a = none) -> Heap.SameBut a s.heap h' -> HOk X.prog X.w H h' := fun {a h'} ha hs b ob e => by
    obtain ⟨_, _, hfree⟩ := ha
    refine (I.hok b ob e).stay (fun c w' hc q => (hs.2 c ?_).trans q) (fun _ q => q) fun _ _ q => q
    rintro rfl
    rcases hc with rfl | hc
    · rw [hfree] at e; cases e
    · rw [hfree] at hc; cases hc
  rcases hx with hk | hk
  · refine wpAny_storeName_local hk hn (fun h' hn' hs => ?_) hcls
    obtain ⟨oL, _, _, hoL, _⟩ := id hn
    refine h _ ⟨I.ok, I.os, I.bare, ⟨fun b o e n hb hx => ?_, fun b o e n hb hx => ?_, I.base.free, fun b o e hx => ?_, I.base.tups, I.base.frzs, I.base.tbls⟩, ⟨_, hn', fun j y v' e1 e2 e3 => ?_⟩, fun y c e => ?_, I.free, I.freeC, fun p hp => ?_, tracked ⟨oL, hoL, I.free⟩ hs, by simpa using I.len⟩ ⟨_, hs, .inl rfl⟩
    · exact (hs.2 b (Nat.ne_of_lt (Nat.lt_of_lt_of_le (Heap.lt_size e) I.ok.above))).trans (I.base.keep b o e n hb hx)
    · obtain ⟨sl, e1⟩ := I.base.slot b o e n hb hx
      exact ⟨sl, (hs.2 b (Nat.ne_of_lt (Nat.lt_of_lt_of_le (Heap.lt_size e) I.ok.above))).trans e1⟩
    · obtain ⟨o', e1⟩ := I.base.there b o e hx
      exact ⟨o', (hs.2 b (Nat.ne_of_lt (Nat.lt_of_lt_of_le (Heap.lt_size e) I.ok.above))).trans e1⟩
    · by_cases hj : j = i
      · subst hj
        rw [hi] at e1; cases e1
        rw [List.getElem?_set_self hiσ] at e2
        cases e2
        exact ⟨u, r, .inl ⟨hk, by simp⟩⟩
      · rw [List.getElem?_set_ne (Ne.symm hj)] at e2
        obtain ⟨u', r', q⟩ := hl j y v' e1 e2 e3
        refine ⟨u', r', ?_⟩
        rcases q with ⟨k, e⟩ | ⟨k, c, e, z⟩
        · refine .inl ⟨k, ?_⟩
          have : y ≠ x := fun e => hj (nodup_ix hN e1 (e ▸ hi))
          simp [this, e]
        · exact .inr ⟨k, c, e, z.sameBut hs (cne y c e)⟩
    · obtain ⟨w', z⟩ := I.cell y c e
      exact ⟨w', z.sameBut hs (cne y c e)⟩
    · obtain ⟨e, n, ne, nf, d⟩ := I.pin p hp
      exact ⟨(hs.2 p.1 ne).trans e, n, ne, nf, d⟩
  · have hfn : X.fn x = true := by
      rcases hf with z | z
      · exact z
      · rw [z] at hk; cases hk
    obtain ⟨c, hc⟩ := I.ok.has x (.inl hk)
    obtain ⟨w', z⟩ := I.cell x c hc
    refine wpAny_storeName_cell I.ok.kind hk hc z (fun h' hc' hs => ?_)
    obtain ⟨oc, hoc, hocd⟩ := id z
    refine h { s with heap := h' } ⟨I.ok, I.os, I.bare, ⟨fun b o e n hb hx => ?_, fun b o e n hb hx => ?_, I.base.free, fun b o e hx => ?_, I.base.tups, I.base.frzs, I.base.tbls⟩, ⟨m, hn.sameBut hs (Ne.symm (cne x c hc)), fun j y v' e1 e2 e3 => ?_⟩, fun y c' e => ?_, I.free, I.freeC, fun p hp => ?_, tracked ⟨oc, hoc, I.freeC x c hc⟩ hs, by simpa using I.len⟩ ⟨c, hs, .inr hc⟩
    · exact (hs.2 b (Nat.ne_of_lt (Nat.lt_of_lt_of_le (Heap.lt_size e) (I.ok.cab x c hfn hc)))).trans (I.base.keep b o e n hb hx)
    · obtain ⟨sl, e1⟩ := I.base.slot b o e n hb hx
      exact ⟨sl, (hs.2 b (Nat.ne_of_lt (Nat.lt_of_lt_of_le (Heap.lt_size e) (I.ok.cab x c hfn hc)))).trans e1⟩
    · obtain ⟨o', e1⟩ := I.base.there b o e hx
      exact ⟨o', (hs.2 b (Nat.ne_of_lt (Nat.lt_of_lt_of_le (Heap.lt_size e) (I.ok.cab x c hfn hc)))).trans e1⟩
    · by_cases hj : j = i
      · subst hj
        rw [hi] at e1; cases e1
        rw [List.getElem?_set_self hiσ] at e2
        cases e2
        exact ⟨u, r, .inr ⟨.inl hk, c, hc, hc'⟩⟩
      · rw [List.getElem?_set_ne (Ne.symm hj)] at e2
        obtain ⟨u', r', q⟩ := hl j y v' e1 e2 e3
        refine ⟨u', r', ?_⟩
        rcases q with q | ⟨k, c', e, z'⟩
        · exact .inl q
        · refine .inr ⟨k, c', e, z'.sameBut hs ?_⟩
          rintro rfl
          exact hj (nodup_ix hN e1 (I.ok.inj _ _ _ e hc ▸ hi))
    · by_cases hcc : c' = c
      · subst hcc; exact ⟨_, hc'⟩
      · obtain ⟨w2, z2⟩ := I.cell y c' e
        exact ⟨w2, z2.sameBut hs hcc⟩
    · obtain ⟨e, n, ne, nf, d⟩ := I.pin p hp
      refine ⟨(hs.2 p.1 ?_).trans e, n, ne, nf, d⟩
      intro q
      rw [q, hoc] at e
      have q' : oc = p.2 := Option.some.inj e
      exact d w' (by rw [← q']; exact hocd)
theorem store_ok {M : Model} {A : Around} {E : Value -> Shared -> Prop} {i : Nat} {x : Str} {v : V} {u : Value} {Q : Unit -> Shared -> Prop} (I : Inv X pins σ H s) (hN : X.N.Nodup) (hi : X.N[i]? = some x) (hx : Loc X.env.scope x) (r : RelV v u)
    (h : ∀ s', Inv X pins (σ.set i (some v)) H s' -> Q () s') (hf : X.fn x = true ∨ X.env.scope.names.lookup x = some .local := by first | exact .inl rfl | exact .inr rfl | assumption) : wpAny M A (storeName X.env x u) Q E s :=
  store_ok2 I hN hi hx r (fun s' I' _ => h s' I') hf
theorem Inv.call' {s' : Shared} {ch : List Addr} (I : Inv X pins σ H s) (ho : s'.os = s.os) (u : Un (frs X.stack) ch H H' s.heap s'.heap) (hok : HOk X.prog X.w H' s'.heap) (hg : AllBare s'.gens)
    (hch : ∀ b ∈ ch, (b ∈ X.ex ∨ X.s₀.heap.objs.size <= b) /\ b ≠ X.env.locals /\ (∀ x c, X.env.cells.lookup x = some c -> c ≠ b) /\ ∀ p ∈ X.pn ++ pins, p.1 ≠ b) : Inv X pins σ H' s' := by
  obtain ⟨h', g', d', t', o'⟩ := s'
  have e : o' = s.os := ho
  subst e
  exact I.call (g' := g') (t' := t') (d' := d') u hok hg hch
end
abbrev XK := Value -> Option Addr -> Hp -> Prop
abbrev St := List (Option V)
abbrev VK := V -> Hp -> Prop
abbrev TE := St -> Hp -> VK -> Prop
abbrev TT := St -> Hp -> (Bool -> Hp -> Prop) -> Prop
abbrev TA := St -> Hp -> (List V -> Hp -> Prop) -> Prop
structure Ends where
  nx : St -> Hp -> Prop
  rt : VK
  bk : St -> Hp -> Prop := fun _ _ => False
  ct : St -> Hp -> Prop := fun _ _ => False
abbrev TS := Ends -> St -> Hp -> Prop
def EP (X : Cx) (pins : List (Addr × Obj)) (σ : St) (Q : VK) (u : Value) (s' : Shared) : Prop := ∃ v H', Inv X pins σ H' s' /\ RelV v u /\ Q v H'
def TP (X : Cx) (pins : List (Addr × Obj)) (σ : St) (Q : Bool -> Hp -> Prop) (b : Bool) (s' : Shared) : Prop := ∃ H', Inv X pins σ H' s' /\ Q b H'
def AP (X : Cx) (pins : List (Addr × Obj)) (σ : St) (Q : List V -> Hp -> Prop) (us : List Value) (s' : Shared) : Prop := ∃ vs H', Inv X pins σ H' s' /\ Vals vs us /\ Q vs H'
def SP (X : Cx) (pins : List (Addr × Obj)) (D : Ends) (f : Flow) (s' : Shared) : Prop :=
  match f with
  | .next => ∃ σ' H', Inv X pins σ' H' s' /\ D.nx σ' H'
  | .brk => ∃ σ' H', Inv X pins σ' H' s' /\ D.bk σ' H'
  | .cont => ∃ σ' H', Inv X pins σ' H' s' /\ D.ct σ' H'
  | .ret u => ∃ v σ' H', Inv X pins σ' H' s' /\ RelV v u /\ D.rt v H'
def PE (X : Cx) (e : Expr) (t : TE) : Prop :=
  ∀ (pins : List (Addr × Obj)) (s : Shared) (σ : St) (H : Hp) (Q : VK), Inv X pins σ H s -> t σ H Q -> wpAny (model X.prog X.w) X.A (eval e X.env) (EP X pins σ Q) X.xe s
def PT (X : Cx) (e : Expr) (t : TT) : Prop :=
  ∀ (pins : List (Addr × Obj)) (s : Shared) (σ : St) (H : Hp) (Q : Bool -> Hp -> Prop), Inv X pins σ H s -> t σ H Q -> wpAny (model X.prog X.w) X.A (isTrue e X.env (eval e X.env)) (TP X pins σ Q) X.xe s
def PW (X : Cx) (e : Expr) (t : TT) : Prop :=
  ∀ (whole : Sem Value) (pins : List (Addr × Obj)) (s : Shared) (σ : St) (H : Hp) (Q : Bool -> Hp -> Prop), Inv X pins σ H s -> t σ H Q -> wpAny (model X.prog X.w) X.A (isTrue e X.env whole) (TP X pins σ Q) X.xe s
theorem PW.pt {X : Cx} {e : Expr} {t : TT} (h : PW X e t) : PT X e t := h _
def PA (X : Cx) (es : List Expr) (t : TA) : Prop :=
  ∀ (pos : Pos) (pins : List (Addr × Obj)) (s : Shared) (σ : St) (H : Hp) (Q : List V -> Hp -> Prop), Inv X pins σ H s -> t σ H Q -> wpAny (model X.prog X.w) X.A (spliced (backTo pos (starEach es X.env))) (AP X pins σ Q) X.xe s
def PS (X : Cx) (st : Stmt) (t : TS) : Prop :=
  ∀ (pins : List (Addr × Obj)) (s : Shared) (σ : St) (H : Hp) (D : Ends), Inv X pins σ H s -> t D σ H -> wpAny (model X.prog X.w) X.A (exec st X.env) (SP X pins D) X.xe s
def PSs (X : Cx) (st : List Stmt) (t : TS) : Prop :=
  ∀ (pins : List (Addr × Obj)) (s : Shared) (σ : St) (H : Hp) (D : Ends), Inv X pins σ H s -> t D σ H -> wpAny (model X.prog X.w) X.A (execs st X.env) (SP X pins D) X.xe s
theorem thn {α : Type} {t : Sem α} {Q Q' : α -> Shared -> Prop} {M : Model} {A : Around} {E : Value -> Shared -> Prop} {s : Shared} (h : wpAny M A t Q E s) (hQ : ∀ a s, Q a s -> Q' a s) : wpAny M A t Q' E s := wpAny_mono h hQ fun _ _ x => x
end L2
namespace L2
open PySem PySem.Spec PyProof.Rows
section
variable {X : Cx}
theorem bin {a b : Expr} {ta tb : TE} (ha : PE X a ta) (hb : PE X b tb) {pins : List (Addr × Obj)} {s : Shared} {σ : St} {H : Hp} {R : V -> V -> Hp -> Prop} (I : Inv X pins σ H s) (h : ta σ H fun x H1 => tb σ H1 fun y H2 => R x y H2)
    {α : Type} {Q : α -> Shared -> Prop} {f : Value -> Value -> Sem α}
    (hf : ∀ v u s2 x y H2, Inv X pins σ H2 s2 -> RelV x v -> RelV y u -> R x y H2 -> wpAny (model X.prog X.w) X.A (f v u) Q X.xe s2) :
    wpAny (model X.prog X.w) X.A (eval a X.env) (fun v s₁ => wpAny (model X.prog X.w) X.A (eval b X.env) (fun u s₂ => wpAny (model X.prog X.w) X.A (f v u) Q X.xe s₂) X.xe s₁) X.xe s := by
  refine thn (ha pins s σ H _ I h) fun v s1 ⟨x, H1, I1, r1, q1⟩ => ?_
  refine thn (hb pins s1 σ H1 _ I1 q1) fun u s2 ⟨y, H2, I2, r2, q2⟩ => ?_
  exact hf v u s2 x y H2 I2 r1 r2 q2
def tVar (i : Nat) : TE := fun σ H Q => ∃ v, σ[i]? = some (some v) /\ Q v H
def tC (v : V) : TE := fun _ H Q => Q v H
theorem pe_var {i : Nat} {x : Str} {pos : Pos} (hN : X.N[i]? = some x) (hv : Vis X.env.scope x) (hd : (x == ("__debug__" : Str)) = false := by decide) (hcd : (x == ("__classdict__" : Str)) = false := by decide) : PE X (.Name x pos) (tVar i) := by
  intro pins s σ H Q I h
  obtain ⟨v, e, h⟩ := h
  obtain ⟨m, hn, hl⟩ := I.loc
  obtain ⟨u, r, l⟩ := hl i x v hN e hv
  have fin : EP X pins σ Q u s := ⟨v, H, I, r, h⟩
  rcases l with ⟨hk, hm⟩ | ⟨hk, c, hc, hcell⟩
  · exact wpAny_Name (wpAny_loadName_local I.ok.kind hk hn hm fin) hd
  · rcases hk with hk | hk
    · exact wpAny_Name (wpAny_loadName_cell I.ok.kind hk hc hcell fin) hd
    · exact wpAny_Name (wpAny_loadName_free I.ok.kind hk hc hcell fin hcd) hd
theorem pe_int {i j pos} : PE X (.Constant (.int i) j pos) (tC (.int i)) := fun _ _ _ H _ I h => wpAny_Constant_int ⟨.int i, H, I.tok _, ⟨_, rfl⟩, h⟩
theorem pe_bl {b j pos} : PE X (.Constant (.bool b) j pos) (tC (.bl b)) := fun _ _ _ H _ I h => Constant_bool ⟨.bl b, H, I, rfl, h⟩
theorem pe_non {j pos} : PE X (.Constant .none j pos) (tC .non) := fun _ _ _ H _ I h => Constant_none ⟨.non, H, I, rfl, h⟩
theorem pe_str {x j pos} : PE X (.Constant (.str x) j pos) (tC (.str x)) := fun _ _ _ H _ I h => Calls.Constant_str ⟨.str x, H, I.tok _, ⟨_, rfl⟩, h⟩
def Gl (X : Cx) (x : Str) : Prop := X.env.kindOf x = some .globalImplicit
theorem ld_glob {E : Value -> Shared -> Prop} {pins : List (Addr × Obj)} {s : Shared} {σ : St} {H : Hp} {x : Str} {u : Value} {pos : Pos} {Q : Value -> Shared -> Prop} (I : Inv X pins σ H s) (hg : Gl X x) (hm : X.mg x = some u) (h : Q u s)
    (hd : (x == ("__debug__" : Str)) = false := by decide) : wpAny (model X.prog X.w) X.A (eval (.Name x pos) X.env) Q E s :=
  Calls.Name_function_global I.ok.kind hg (Calls.loadGlobal_global (by rw [I.ok.glob]; exact I.mod.glob.keeps I.bk) hm h) hd
theorem ld_blt {E : Value -> Shared -> Prop} {pins : List (Addr × Obj)} {s : Shared} {σ : St} {H : Hp} {x : Str} {u : Value} {pos : Pos} {Q : Value -> Shared -> Prop} (I : Inv X pins σ H s) (hg : Gl X x) (hm : X.mg x = none) (hv : bootBuiltins x = some u) (h : Q u s)
    (hn : x ≠ "__name__" := by decide) (hd : (x == ("__debug__" : Str)) = false := by decide) : wpAny (model X.prog X.w) X.A (eval (.Name x pos) X.env) Q E s := by
  obtain ⟨mb, h1, h2⟩ := I.mod.blt
  exact Calls.Name_function_global I.ok.kind hg (Calls.loadGlobal_builtin (by rw [I.ok.glob]; exact I.mod.glob.keeps I.bk) hm (by rw [I.ok.blt]; exact h1.keeps I.bk) ((h2 x hn).trans hv) h) hd
theorem pe_bltn {x : Str} {v : V} {u : Value} {pos : Pos} (hg : Gl X x) (hm : X.mg x = none) (hv : bootBuiltins x = some u) (r : RelV v u) (hn : x ≠ "__name__" := by decide) (hd : (x == ("__debug__" : Str)) = false := by decide) : PE X (.Name x pos) (tC v) :=
  fun _ _ _ H _ I h => ld_blt I hg hm hv ⟨v, H, I, r, h⟩ hn hd
variable {a b : Expr} {ta tb : TE} {pos : Pos}
variable {tA tB' : TT} {rest : List Expr}
def tAnd (t u : TT) : TT := fun σ H Q => t σ H fun c H1 => if c = true then u σ H1 Q else Q false H1
def tOr (t u : TT) : TT := fun σ H Q => t σ H fun c H1 => if c = true then Q true H1 else u σ H1 Q
def tNot (t : TT) : TT := fun σ H Q => t σ H fun c H1 => Q (!c) H1
theorem pw_and1 (ha : PT X a tA) : PW X (.BoolOp .And [a] pos) tA := by
  intro wh pins s σ H Q I h
  refine isTrue_and (thn (ha pins s σ H Q I h) fun c s1 e => ?_)
  cases c with
  | true => exact isTrue_and_nil e
  | false => exact e
theorem pw_or1 (ha : PT X a tA) : PW X (.BoolOp .Or [a] pos) tA := by
  intro wh pins s σ H Q I h
  refine isTrue_or (thn (ha pins s σ H Q I h) fun c s1 e => ?_)
  cases c with
  | false => exact isTrue_or_nil e
  | true => exact e
theorem pw_and (ha : PT X a tA) (hb : PW X (.BoolOp .And (b :: rest) pos) tB') : PW X (.BoolOp .And (a :: b :: rest) pos) (tAnd tA tB') := by
  intro wh pins s σ H Q I h
  refine isTrue_and (thn (ha pins s σ H _ I h) fun c s1 ⟨H1, I1, q1⟩ => ?_)
  cases c with
  | true => exact hb wh pins s1 σ H1 Q I1 q1
  | false => exact ⟨H1, I1, q1⟩
theorem pw_or (ha : PT X a tA) (hb : PW X (.BoolOp .Or (b :: rest) pos) tB') : PW X (.BoolOp .Or (a :: b :: rest) pos) (tOr tA tB') := by
  intro wh pins s σ H Q I h
  refine isTrue_or (thn (ha pins s σ H _ I h) fun c s1 ⟨H1, I1, q1⟩ => ?_)
  cases c with
  | true => exact ⟨H1, I1, q1⟩
  | false => exact hb wh pins s1 σ H1 Q I1 q1
theorem pt_not (ha : PT X a tA) : PT X (.UnaryOp .Not a pos) (tNot tA) := by
  intro pins s σ H Q I h
  exact isTrue_not (ha pins s σ H (fun c H1 => Q (!c) H1) I h)
def tAndV (ta tb : TE) : TE := fun σ H Q => ta σ H fun x H1 => ∃ c, x = .bl c /\ if c = true then tb σ H1 Q else Q (.bl false) H1
def tNotV (ta : TE) : TE := fun σ H Q => ta σ H fun x H1 => ∃ c, x = .bl c /\ Q (.bl (!c)) H1
theorem pe_and (ha : PE X a ta) (hb : PE X (.BoolOp .And (b :: rest) pos) tb) : PE X (.BoolOp .And (a :: b :: rest) pos) (tAndV ta tb) := by
  intro pins s σ H Q I h
  refine BoolOp_and (thn (ha pins s σ H _ I h) fun v s1 ⟨x, H1, I1, r1, q1⟩ => ?_)
  obtain ⟨c, rfl, q1⟩ := q1
  cases r1
  refine wpAny_truthy_bool ?_
  cases c with
  | true => exact hb pins s1 σ H1 Q I1 q1
  | false => exact ⟨.bl false, H1, I1, rfl, q1⟩
theorem pe_not (ha : PE X a ta) : PE X (.UnaryOp .Not a pos) (tNotV ta) := by
  intro pins s σ H Q I h
  refine UnaryOp_ (thn (ha pins s σ H _ I h) fun v s1 ⟨x, H1, I1, r1, q1⟩ => ?_)
  obtain ⟨c, rfl, q1⟩ := q1
  cases r1
  exact not_of (wpAny_truthy_bool ⟨.bl (!c), H1, I1, rfl, q1⟩)
def tIf (t : TT) (ta tb : TE) : TE := fun σ H Q => t σ H fun c H1 => if c = true then ta σ H1 Q else tb σ H1 Q
theorem pe_ifExp {c : Expr} (hc : PT X c tA) (ha : PE X a ta) (hb : PE X b tb) : PE X (.IfExp c a b pos) (tIf tA ta tb) := by
  intro pins s σ H Q I h
  refine wpAny_IfExp (thn (hc pins s σ H _ I h) fun d s1 ⟨H1, I1, q1⟩ => ?_)
  cases d with
  | true => exact ha pins s1 σ H1 Q I1 q1
  | false => exact hb pins s1 σ H1 Q I1 q1
end
end L2
namespace L2
open PySem PySem.Spec PyProof.Rows
def SqL (K : PySem.W.Frag) (H : Hp) (a : Addr) (xs : List V) : Prop :=
  Rd H a (.lst xs) ∨
    ∃ (o : Obj) (its : Array Value) (n : Nat), K.lookup a = some o /\ o.cls = .type "list" /\ o.dict = none /\ o.data = .seq its n /\ its.size <= sizeLine /\ Vals xs its.toList
def SqT (K : PySem.W.Frag) (H : Hp) (a : Addr) (xs : List V) : Prop :=
  Rd H a (.tup xs) ∨
    ∃ (o : Obj) (its : Array Value) (n : Nat), K.lookup a = some o /\ o.cls = .type "tuple" /\ o.data = .seq its n /\ its.size <= sizeLine /\ Vals xs its.toList
def absV : Value -> Option V
  | .none => some .non
  | .bool b => some (.bl b)
  | .int i _ => some (.int i)
  | .str x _ => some (.str x)
  | .bytes b _ => some (.byt b)
  | .float b _ => some (.flt b)
  | .ref a => some (.ref a)
  | .type n => some (.ty n)
  | _ => none
theorem RelV.abs {x : V} {u : Value} (r : RelV x u) : absV u = some x := by
  cases x with
  | non => cases r; rfl
  | bl _ => cases r; rfl
  | int _ => obtain ⟨t, rfl⟩ := r; rfl
  | str _ => obtain ⟨t, rfl⟩ := r; rfl
  | byt _ => obtain ⟨t, rfl⟩ := r; rfl
  | flt _ => obtain ⟨t, rfl⟩ := r; rfl
  | ref _ => cases r; rfl
  | ty _ => cases r; rfl
theorem RelV.inj {x y : V} {u : Value} (r : RelV x u) (q : RelV y u) : x = y := Option.some.inj (r.abs.symm.trans q.abs)
theorem Vals.inj : ∀ {xs ys : List V} {us : List Value}, Vals xs us -> Vals ys us -> xs = ys
  | _, _, _, .nil, .nil => rfl
  | _, _, _, .cons r t, .cons r' t' => by rw [r.inj r', Vals.inj t t']
section
variable {X : Cx} {pins : List (Addr × Obj)} {σ : St} {H : Hp} {s : Shared} {a : Addr} {xs ys : List V}
theorem SqL.of {K : PySem.W.Frag} (h : H a = some (.lst xs)) : SqL K H a xs := .inl (.inl h)
theorem SqT.of {K : PySem.W.Frag} (h : H a = some (.tup xs)) : SqT K H a xs := .inl (.inl h)
theorem Inv.list (I : Inv X pins σ H s) (h : SqL X.K H a xs) : ∃ its : List Value, Vals xs its /\ PlainL s.heap a its.toArray /\ xs.length <= sizeLine := by
  rcases h with h | ⟨o, its, n, hk, hc, hd, hs, hz, r⟩
  · obtain ⟨z, its, n, r, e⟩ := h.ok I.hok
    exact ⟨its, r, ⟨_, n, e, rfl, rfl, rfl⟩, z⟩
  · refine ⟨its.toList, r, ⟨o, n, I.kIn a o hk, hc, hd, by simpa using hs⟩, ?_⟩
    have e := r.length
    simp only [Array.length_toList] at e
    omega
theorem Inv.tuple (I : Inv X pins σ H s) (h : SqT X.K H a xs) : ∃ its : List Value, Vals xs its /\ IsTup s.heap a its.toArray /\ xs.length <= sizeLine := by
  rcases h with h | ⟨o, its, n, hk, hc, hs, hz, r⟩
  · obtain ⟨z, its, r, p⟩ := h.ok I.hok
    exact ⟨its, r, p, z⟩
  · refine ⟨its.toList, r, ⟨o, I.kIn a o hk, hc, n, by simpa using hs⟩, ?_⟩
    have e := r.length
    simp only [Array.length_toList] at e
    omega
theorem Inv.list_inj (I : Inv X pins σ H s) (h : SqL X.K H a xs) (h' : SqL X.K H a ys) : xs = ys := by
  obtain ⟨its, r, ⟨o, n, e, _, _, d⟩, _⟩ := I.list h
  obtain ⟨its', r', ⟨o', n', e', _, _, d'⟩, _⟩ := I.list h'
  rw [e] at e'; cases e'
  rw [d] at d'
  injection d' with d1 _
  have : its = its' := by simpa using congrArg Array.toList d1
  subst this
  exact r.inj r'
theorem Inv.tuple_inj (I : Inv X pins σ H s) (h : SqT X.K H a xs) (h' : SqT X.K H a ys) : xs = ys := by
  obtain ⟨its, r, ⟨o, e, _, n, d⟩, _⟩ := I.tuple h
  obtain ⟨its', r', ⟨o', e', _, n', d'⟩, _⟩ := I.tuple h'
  rw [e] at e'; cases e'
  rw [d] at d'
  injection d' with d1 _
  have : its = its' := by simpa using congrArg Array.toList d1
  subst this
  exact r.inj r'
end
abbrev Cx.wish (X : Cx) (E : Value -> Shared -> Prop) : Cx := { X with xe := E }
abbrev Cx.nox (X : Cx) : Cx := X.wish fun _ _ => False
theorem Cx.Ok.wish {X : Cx} (ok : X.Ok) (E : Value -> Shared -> Prop) : (X.wish E).Ok :=
  ⟨ok.mod, ok.kind, ok.glob, ok.blt, ok.above, ok.inj, ok.has, ok.cab, ok.hd, ok.frames, ok.stk, ok.exf, ok.bs, ok.bsz, ok.noex, ok.exfs, ok.funs, ok.frf⟩
theorem Cx.Ok.unwish {X : Cx} {E : Value -> Shared -> Prop} (ok : (X.wish E).Ok) : X.Ok :=
  ⟨ok.mod, ok.kind, ok.glob, ok.blt, ok.above, ok.inj, ok.has, ok.cab, ok.hd, ok.frames, ok.stk, ok.exf, ok.bs, ok.bsz, ok.noex, ok.exfs, ok.funs, ok.frf⟩
section
variable {X : Cx} {pins : List (Addr × Obj)} {σ : St} {H : Hp} {s : Shared} {E : Value -> Shared -> Prop}
theorem Inv.wish (I : Inv X pins σ H s) (E : Value -> Shared -> Prop) : Inv (X.wish E) pins σ H s := ⟨I.ok.wish E, I.os, I.bare, I.base, I.loc, I.cell, I.free, I.freeC, I.pin, I.hok, I.len⟩
theorem Inv.unwish (I : Inv (X.wish E) pins σ H s) : Inv X pins σ H s := ⟨I.ok.unwish, I.os, I.bare, I.base, I.loc, I.cell, I.free, I.freeC, I.pin, I.hok, I.len⟩
theorem SP.unwish {D : Ends} {f : Flow} {s' : Shared} (h : SP (X.wish E) pins D f s') : SP X pins D f s' := by
  cases f with
  | next => obtain ⟨σ', H', I, q⟩ := h; exact ⟨σ', H', I.unwish, q⟩
  | brk => obtain ⟨σ', H', I, q⟩ := h; exact ⟨σ', H', I.unwish, q⟩
  | cont => obtain ⟨σ', H', I, q⟩ := h; exact ⟨σ', H', I.unwish, q⟩
  | ret u => obtain ⟨v, σ', H', I, r, q⟩ := h; exact ⟨v, σ', H', I.unwish, r, q⟩
theorem PSs.nox {st : List Stmt} {t : TS} (h : PSs X.nox st t) : PSs X st t := fun pins s σ H D I hw =>
  wpAny_mono (h pins s σ H D (I.wish _) hw) (fun _ _ q => q.unwish) fun _ _ z => False.elim z
end
section
variable {X : Cx} {st : Stmt} {rest : List Stmt} {t u : TS} {e : Expr} {te : TE} {pos : Pos}
def tNext : TS := fun D σ H => D.nx σ H
def tSeq (t u : TS) : TS := fun D σ H => t { D with nx := u D } σ H
theorem pss_nil : PSs X [] tNext := fun _ _ σ H _ I h => wpAny_execs_nil ⟨σ, H, I, h⟩
theorem pss_cons (h1 : PS X st t) (h2 : PSs X rest u) : PSs X (st :: rest) (tSeq t u) := by
  intro pins s σ H D I h
  refine wpAny_execs_cons (thn (h1 pins s σ H { D with nx := u D } I h) fun f s1 q => ?_)
  cases f with
  | next =>
    obtain ⟨σ', H', I', q⟩ := q
    exact h2 pins s1 σ' H' D I' q
  | ret v => exact q
  | brk => exact q
  | cont => exact q
theorem pss_one (h1 : PS X st t) : PSs X [st] t := by
  intro pins s σ H D I h
  refine wpAny_execs_cons (thn (h1 pins s σ H D I h) fun f s1 q => ?_)
  cases f with
  | next => exact wpAny_execs_nil q
  | ret v => exact q
  | brk => exact q
  | cont => exact q
theorem Inv.quiet {pins : List (Addr × Obj)} {σ : St} {H : Hp} {s : Shared} (I : Inv X pins σ H s) : interactive X.env = false := by simp [interactive, I.ok.kind]
def tDrop (te : TE) : TS := fun D σ H => te σ H fun _ H1 => D.nx σ H1
theorem ps_expr (he : PE X e te) (hs : swapsWith e none pos.line X.env = pure false := by rfl) : PS X (.Expr e pos) (tDrop te) := by
  intro pins s σ H D I h
  exact wpAny_Expr_any (thn (he pins s σ H _ I h) fun v s1 ⟨x, H1, I1, r1, q1⟩ => ⟨σ, H1, I1, q1⟩) I.quiet hs
def tRet (te : TE) : TS := fun D σ H => te σ H D.rt
theorem ps_ret (he : PE X e te) : PS X (.Return (some e) pos) (tRet te) := by
  intro pins s σ H D I h
  exact wpAny_Return_some (thn (he pins s σ H _ I h) fun v s1 ⟨x, H1, I1, r1, q1⟩ => ⟨x, σ, H1, I1, r1, q1⟩)
def tIfS (c : TT) (t u : TS) : TS := fun D σ H => c σ H fun b H1 => if b = true then t D σ H1 else u D σ H1
theorem ps_if {c : Expr} {a b : List Stmt} {tc : TT} (hc : PT X c tc) (ha : PSs X a t) (hb : PSs X b u) : PS X (.If c a b pos) (tIfS tc t u) := by
  intro pins s σ H D I h
  refine wpAny_If (thn (hc pins s σ H _ I h) fun d s1 ⟨H1, I1, q1⟩ => ?_)
  cases d with
  | true => exact ha pins s1 σ H1 D I1 q1
  | false => exact hb pins s1 σ H1 D I1 q1
end
abbrev TG := V -> St -> Hp -> (St -> Hp -> Prop) -> Prop
abbrev TGs := List V -> St -> Hp -> (St -> Hp -> Prop) -> Prop
def PG (X : Cx) (target : Expr) (t : TG) : Prop :=
  ∀ (pins : List (Addr × Obj)) (s : Shared) (σ : St) (H : Hp) (v : V) (u : Value) (Q : St -> Hp -> Prop), Inv X pins σ H s -> RelV v u -> t v σ H Q ->
    wpAny (model X.prog X.w) X.A (assign target X.env u) (fun _ s' => ∃ σ' H', Inv X pins σ' H' s' /\ Q σ' H') X.xe s
def PGs (X : Cx) (ts : List Expr) (t : TGs) : Prop :=
  ∀ (pins : List (Addr × Obj)) (s : Shared) (σ : St) (H : Hp) (vs : List V) (us : List Value) (Q : St -> Hp -> Prop), Inv X pins σ H s -> Vals vs us -> t vs σ H Q ->
    wpAny (model X.prog X.w) X.A (assignInOrder ((assignEach ts X.env).map (·.2)) us) (fun _ s' => ∃ σ' H', Inv X pins σ' H' s' /\ Q σ' H') X.xe s
abbrev TSet := V -> V -> V -> Hp -> (Hp -> Prop) -> Prop
def PSet (X : Cx) (t : TSet) : Prop :=
  ∀ (pins : List (Addr × Obj)) (s : Shared) (σ : St) (H : Hp) (o i v : V) (ov iv u : Value) (Q : Hp -> Prop), Inv X pins σ H s -> RelV o ov -> RelV i iv -> RelV v u -> t o i v H Q ->
    wpAny (model X.prog X.w) X.A (setItem ov iv u) (fun _ s' => ∃ H', Inv X pins σ H' s' /\ Q H') X.xe s
section
variable {X : Cx} {pos : Pos}
def gName (i : Nat) : TG := fun v σ H Q => Q (σ.set i (some v)) H
theorem pg_name {i : Nat} {x : Str} (hN : X.N.Nodup) (hi : X.N[i]? = some x) (hx : Loc X.env.scope x) (hf : X.fn x = true ∨ X.env.scope.names.lookup x = some .local := by first | exact .inl rfl | exact .inr rfl | assumption) : PG X (.Name x pos) (gName i) := by
  intro pins s σ H v u Q I r h
  exact wpAny_assign_Name (store_ok I hN hi hx r (fun s' I' => ⟨_, H, I', h⟩) hf)
def gNil : TGs := fun vs σ H Q => vs = [] /\ Q σ H
def gCons (t : TG) (u : TGs) : TGs := fun vs σ H Q => ∃ v r, vs = v :: r /\ t v σ H fun σ' H' => u r σ' H' Q
theorem pgs_nil : PGs X [] gNil := by
  intro pins s σ H vs us Q I r h
  obtain ⟨e, h⟩ := h
  subst e
  cases r
  exact assignInOrder_nil ⟨σ, H, I, h⟩
theorem pgs_cons {e : Expr} {es : List Expr} {t : TG} {u : TGs} (h1 : PG X e t) (h2 : PGs X es u)
    (hs : (assignEach (e :: es) X.env).map (·.2) = assign e X.env :: (assignEach es X.env).map (·.2) := by rfl) : PGs X (e :: es) (gCons t u) := by
  intro pins s σ H vs us Q I r h
  obtain ⟨v, vr, e1, h⟩ := h
  subst e1
  cases r with
  | cons r rr =>
    rw [hs]
    refine assignInOrder_cons (thn (h1 pins s σ H _ _ _ I r h) fun _ s1 ⟨σ1, H1, I1, q1⟩ => ?_)
    exact h2 pins s1 σ1 H1 _ _ Q I1 rr q1
def gTup (K : PySem.W.Frag) (n : Nat) (t : TGs) : TG := fun v σ H Q => ∃ a xs, v = .ref a /\ SqT K H a xs /\ xs.length = n /\ t xs σ H Q
theorem pg_tup {es : List Expr} {k : Nat} {t : TGs} {n : Nat} (hc : X.calm = true) (h : PGs X es t)
    (hn : (assignEach es X.env).length = n := by rfl) (hst : (assignEach es X.env).findIdx? (·.1) = none := by rfl) : PG X (.Tuple es k pos) (gTup X.K n t) := by
  intro pins s σ H v u Q I r hw
  obtain ⟨a, xs, e1, hq, hl, hw⟩ := hw
  subst e1
  cases r
  obtain ⟨its, rv, ht, hz⟩ := I.tuple hq
  refine assign_Tuple_tuple (I.ok.hd hc) ht (by simp [hn, ← hl, rv.length]) hst fun h' hx => ?_
  have I1 : Inv X pins σ H { s with heap := h' } := I.kept (t' := s.toks) fun b o e => hx b o (Nat.ne_of_lt (Heap.lt_size e)) e
  exact h pins _ σ H xs _ Q I1 (by simpa using rv) hw
def gSub (to ti : TE) (t : TSet) : TG := fun v σ H Q => to σ H fun o H1 => ti σ H1 fun i H2 => t o i v H2 fun H3 => Q σ H3
theorem pg_sub {o i : Expr} {to ti : TE} {t : TSet} (ho : PE X o to) (hi : PE X i ti) (hs : PSet X t)
    (ha : ∀ v, assign (.Subscript o i pos) X.env v = (do
      let ov ← holding [v] (eval o X.env)
      let iv ← holding [v, ov] (eval i X.env)
      standAt pos
      holding [v, ov, iv] (setItem ov iv v)
      release [v, ov, iv] []) := by intro _; rfl) : PG X (.Subscript o i pos) (gSub to ti t) := by
  intro pins s σ H v u Q I r h
  rw [ha]
  refine wpAny_bind (wpAny_holding (thn (ho pins s σ H _ I h) fun ov s1 ⟨x, H1, I1, r1, q1⟩ => ?_))
  refine wpAny_bind (wpAny_holding (thn (hi pins s1 σ H1 _ I1 q1) fun iv s2 ⟨y, H2, I2, r2, q2⟩ => ?_))
  refine wpAny_bind (wpAny_standAt (wpAny_bind (wpAny_holding (thn (hs pins s2 σ H2 x y v ov iv u _ I2 r1 r2 r q2) fun _ s3 ⟨H3, I3, q3⟩ => ?_))))
  exact wpAny_release ⟨σ, H3, I3, q3⟩
def tAsg (te : TE) (g : TG) : TS := fun D σ H => te σ H fun x H1 => g x σ H1 D.nx
theorem ps_asg {tg e : Expr} {te : TE} {g : TG} (he : PE X e te) (hg : PG X tg g) (hs : swapsWithSole [tg] e pos.line X.env = pure false := by rfl) (hw : swappedStores [tg] e X.env = pure none := by rfl)
    (h1 : (assignEach [tg] X.env).map (·.2) = [assign tg X.env] := by rfl) : PS X (.Assign [tg] e pos) (tAsg te g) := by
  intro pins s σ H D I h
  refine wpAny_Assign_stores (thn (he pins s σ H _ I h) fun v s1 ⟨x, H1, I1, r1, q1⟩ => ?_) hs hw
  rw [h1]
  exact thn (hg pins s1 σ H1 x v _ I1 r1 q1) fun _ s2 q => q
theorem ps_set {i : Nat} {x : Str} {e : Expr} {te : TE} {pos' : Pos} (hN : X.N.Nodup) (hi : X.N[i]? = some x) (hx : Loc X.env.scope x) (he : PE X e te) (hs : swapsWith e (some (.Name x pos')) pos.line X.env = pure false := by rfl) (hf : X.fn x = true ∨ X.env.scope.names.lookup x = some .local := by first | exact .inl rfl | exact .inr rfl | assumption) :
    PS X (.Assign [.Name x pos'] e pos) (tAsg te (gName i)) := by
  intro pins s σ H D I h
  refine wpAny_Assign_Name (thn (he pins s σ H _ I h) fun v s1 ⟨y, H1, I1, r1, q1⟩ => ?_) hs
  exact store_ok I1 hN hi hx r1 (fun s2 I2 => ⟨_, H1, I2, q1⟩) hf
def tPar (i j : Nat) (ta : TA) : TS := fun D σ H => ta σ H fun vs H1 => ∃ v w, vs = [v, w] /\ D.nx ((σ.set i (some v)).set j (some w)) H1
theorem ps_par {i j : Nat} {x y : Str} {a b : Expr} {ta : TA} {px py pt : Pos} {kt k2 pt2} (hc : X.calm = true) (hN : X.N.Nodup) (hi : X.N[i]? = some x) (hj : X.N[j]? = some y) (hij : i ≠ j)
    (hx : X.env.scope.names.lookup x = some .local) (hy : X.env.scope.names.lookup y = some .local) (ha : PA X [a, b] ta)
    (hw : swappedStores [.Tuple [.Name x px, .Name y py] kt pt] (.Tuple [a, b] k2 pt2) X.env = pure (some [x, y]))
    (hs : swapsWithSole [.Tuple [.Name x px, .Name y py] kt pt] (.Tuple [a, b] k2 pt2) pos.line X.env = pure false := by rfl) :
    PS X (.Assign [.Tuple [.Name x px, .Name y py] kt pt] (.Tuple [a, b] k2 pt2) pos) (tPar i j ta) := by
  intro pins s σ H D I h
  rw [exec_Assign_arm]
  refine wpAny_bind (wpAny_standAt ?_)
  rw [hs]
  refine wpAny_bind (wpAny_pure ?_)
  rw [if_neg (by decide)]
  refine wpAny_bind (Tuple_ (thn (ha _ pins s σ H _ I h) fun us s1 ⟨vs, H1, I1, r1, q1⟩ => ?_))
  obtain ⟨v, w, e1, q1⟩ := q1
  subst e1
  obtain ⟨u1, u2, rfl, rv, rw'⟩ : ∃ u1 u2, us = [u1, u2] /\ RelV v u1 /\ RelV w u2 := by
    cases r1 with
    | cons p q =>
      cases q with
      | cons p' q' =>
        cases q'
        exact ⟨_, _, rfl, p, p'⟩
  refine wpAny_newObj_type ?_ (by show 2 <= sizeLine; decide)
  have I2 : Inv X pins σ H1 { s1 with heap := s1.heap.push { cls := .type "tuple", data := .seq [u1, u2].toArray } } := I1.kept (t' := s1.toks) fun b o e => Heap.get?_push_of_some _ e
  rw [hw]
  refine wpAny_bind (wpAny_pure ?_)
  show wpAny (model X.prog X.w) X.A (do rule "assign.swapped-stores"; let items ← unpackItems (.ref s1.heap.objs.size) 2 none; assignInOrder [fun v => bindName X.env y v, fun v => bindName X.env x v] items.reverse; pure Flow.next) _ _ _
  refine wpAny_bind (wpAny_rule (wpAny_bind (unpackItems_tuple (items := #[u1, u2]) (I.ok.hd hc) (IsTup.new s1.heap _) fun h' hx' => ?_)))
  have I3 := I2.kept (h' := h') (t' := s1.toks) fun b o e => hx' b o (Nat.ne_of_lt (Heap.lt_size e)) e
  show wpAny _ _ (assignInOrder [fun v => bindName X.env y v, fun v => bindName X.env x v] [u2, u1] >>= fun _ => pure Flow.next) _ _ _
  refine wpAny_bind (assignInOrder_cons (wpAny_bindName (store_ok I3 hN hj (.inl hy) rw' (fun s2 I4 => ?_) (.inr hy))))
  refine assignInOrder_cons (wpAny_bindName (store_ok I4 hN hi (.inl hx) rv (fun s3 I5 => assignInOrder_nil (wpAny_pure ?_)) (.inr hx)))
  rw [List.set_comm _ _ (Ne.symm hij)] at I5
  exact ⟨_, H1, I5, q1⟩
end
section
variable {X : Cx} {pos : Pos}
def tWhile (c : TT) (tb : TS) : TS := fun D σ H => ∃ W : Nat -> St -> Hp -> Prop, (∃ m, W m σ H) /\ ∀ m σ H, W m σ H ->
  c σ H fun b H1 => if b = true then ∃ N : St -> Hp -> Prop, (∀ σ' H', N σ' H' -> ∃ m', m' < m /\ W m' σ' H') /\ tb { D with nx := N, ct := N, bk := D.nx } σ H1 else D.nx σ H1
theorem ps_while {c : Expr} {body : List Stmt} {tc : TT} {tb : TS} (hp : PassesOwn (model X.prog X.w) X.A X.env X.xe) (hc : PT X c tc) (hb : PSs X body tb) : PS X (.While c body [] pos) (tWhile tc tb) := by
  intro pins s σ H D I h
  obtain ⟨W, ⟨m0, w0⟩, turn⟩ := h
  refine wpAny_While (codeAny_whileLoop (fun n s' => ∃ σ' H', Inv X pins σ' H' s' /\ W n σ' H') ?_ m0 ⟨σ, H, I, w0⟩)
  rintro n s1 ⟨σ1, H1, I1, w1⟩
  refine wpAny_passesOwn hp (thn (hc pins s1 σ1 H1 _ I1 (turn n σ1 H1 w1)) fun b s2 ⟨H2, I2, q2⟩ => ?_)
  cases b with
  | true =>
    obtain ⟨N, hN, q2⟩ := q2
    rw [if_pos rfl]
    refine wpAny_passesOwn hp (thn (hb pins s2 σ1 H2 _ I2 q2) fun f s3 q3 => ?_)
    cases f with
    | next =>
      obtain ⟨σ3, H3, I3, n3⟩ := q3
      obtain ⟨m', hm, w3⟩ := hN σ3 H3 n3
      exact ⟨m', hm, σ3, H3, I3, w3⟩
    | cont =>
      obtain ⟨σ3, H3, I3, n3⟩ := q3
      obtain ⟨m', hm, w3⟩ := hN σ3 H3 n3
      exact ⟨m', hm, σ3, H3, I3, w3⟩
    | brk => exact q3
    | ret v => exact q3
  | false =>
    rw [if_neg Bool.false_ne_true]
    exact wpAny_execs_nil ⟨σ1, H2, I2, q2⟩
end
structure It where
  go : Nat -> Hp -> Prop
  yld : Nat -> Hp -> V -> Hp -> Prop
  stop : Nat -> Hp -> Prop
def FpOk (X : Cx) (pins : List (Addr × Obj)) (H : Hp) (b : Addr) : Prop :=
  H b = none /\ b ≠ X.env.locals /\ b ∉ X.fs /\ (b ∈ X.ex ∨ X.s₀.heap.objs.size <= b) /\ (∀ x c, X.env.cells.lookup x = some c -> c ≠ b) /\ ∀ p ∈ X.pn ++ pins, p.1 ≠ b
theorem Inv.fpOk {X : Cx} {pins : List (Addr × Obj)} {σ : St} {H H' : Hp} {s : Shared} {b : Addr} (I : Inv X pins σ H s) (hb : s.heap.objs.size <= b) (hn : H' b = none) : FpOk X pins H' b := by
  refine ⟨hn, Nat.ne_of_gt (Nat.lt_of_lt_of_le I.lt hb), I.nofs hb, .inr (Nat.le_trans I.sz hb), fun x c e z => ?_, fun p hp z => ?_⟩
  · obtain ⟨v, q⟩ := I.cell x c e
    exact absurd (Nat.lt_of_lt_of_le q.lt (by rw [z]; exact hb)) (Nat.lt_irrefl _)
  · exact absurd (Nat.lt_of_lt_of_le (Heap.lt_size (I.pin p hp).1) (by rw [z]; exact hb)) (Nat.lt_irrefl _)
structure Turn (P : Program) (w : World) (K : PySem.W.Frag) (tg : Expr) (J : It) (fp : List Addr) (it : Addr) (tn : Nat -> Heap -> Prop) : Prop where
  mem : it ∈ fp
  obj : ∀ i h, tn i h -> ∀ b ∈ fp, ∃ o, h.get? b = some o /\ ∀ v, o.data ≠ .cell v
  keep : ∀ i h h', tn i h -> (∀ b ∈ fp, ∀ o, h.get? b = some o -> h'.get? b = some o) -> tn i h'
  item : ∀ (X : Cx), X.prog = P -> X.w = w -> X.K = K -> X.calm = true -> ∀ (i : Nat) (pins : List (Addr × Obj)) (s : Shared) (σ : St) (H : Hp) (E : Value -> Shared -> Prop), Inv X pins σ H s -> (∀ b ∈ fp, FpOk X pins H b) -> tn i s.heap -> J.go i H ->
    wpAny (model P w) X.A (pyNext (.ref it)) (fun r s1 => ∃ u, r = some u /\
      wpAny (model P w) X.A (letOwnedTupleGo tg (.ref it) u) (fun _ s2 => ∃ x H', Inv X pins σ H' s2 /\ RelV x u /\ J.yld i H x H' /\ tn (i + 1) s2.heap /\ ∀ b ∈ fp, H' b = none) E s1) E s
  done : ∀ (X : Cx), X.prog = P -> X.w = w -> X.K = K -> X.calm = true -> ∀ (i : Nat) (pins : List (Addr × Obj)) (s : Shared) (σ : St) (H : Hp) (E : Value -> Shared -> Prop), Inv X pins σ H s -> (∀ b ∈ fp, FpOk X pins H b) -> tn i s.heap -> J.stop i H ->
    wpAny (model P w) X.A (pyNext (.ref it)) (fun r s1 => r = none /\ Inv X pins σ H s1) E s
  self : ∀ (A : Around) (i : Nat) (s : Shared) (Q : Value -> Shared -> Prop) (E : Value -> Shared -> Prop), tn i s.heap -> Q (.ref it) s -> wpAny (model P w) A (pyIter (.ref it)) Q E s
abbrev TI := St -> Hp -> (It -> Hp -> Prop) -> Prop
def PIE (X : Cx) (pins : List (Addr × Obj)) (σ : St) (tg : Expr) (R : It -> Hp -> Prop) (itv : Value) (s2 : Shared) : Prop :=
  ∃ (it : Addr) (fp : List Addr) (tn : Nat -> Heap -> Prop) (J : It) (H' : Hp), itv = .ref it /\ Inv X pins σ H' s2 /\ Turn X.prog X.w X.K tg J fp it tn /\ tn 0 s2.heap /\ (∀ b ∈ fp, FpOk X pins H' b) /\ R J H'
def PI (X : Cx) (tg iter : Expr) (wi : TI) : Prop :=
  ∀ (pins : List (Addr × Obj)) (s : Shared) (σ : St) (H : Hp) (R : It -> Hp -> Prop), Inv X pins σ H s -> wi σ H R ->
    wpAny (model X.prog X.w) X.A (eval iter X.env) (fun v s1 => wpAny (model X.prog X.w) X.A (pyIter v) (PIE X pins σ tg R) X.xe s1) X.xe s
theorem go_of {M : Model} {A : Around} {E : Value -> Shared -> Prop} {s : Shared} {tg : Expr} {it : Addr} {u : Value} {o : Obj} {n : String} {vs : Array Value} {Q : Unit -> Shared -> Prop} (ho : s.heap.get? it = some o) (hc : o.cls = .type n) (hd : o.data = .fields vs)
    (hn : ["enumerate", "zip", "dict_itemiterator", "dict_reverseitemiterator", "odict_iterator", "itertools.zip_longest", "itertools.pairwise"].contains n = false) (hQ : Q () s) : wpAny M A (letOwnedTupleGo tg (.ref it) u) Q E s := by
  unfold letOwnedTupleGo
  cases tg <;> first
    | exact wpAny_pure hQ
    | (cases u <;> first
        | exact wpAny_pure hQ
        | (refine wpAny_bind (wpAny_load ho ?_)
           rw [hc, hd]
           show wpAny M A (if (["enumerate", "zip", "dict_itemiterator", "dict_reverseitemiterator", "odict_iterator", "itertools.zip_longest", "itertools.pairwise"].contains n && vs[0]? == some (rawInt _)) = true then _ else _) Q E s
           rw [if_neg (by intro h; rw [hn, Bool.false_and] at h; cases h)]
           exact wpAny_pure hQ))
def Itl (K : PySem.W.Frag) (a : Addr) : It :=
  ⟨fun i H => ∃ xs x, SqL K H a xs /\ xs[i]? = some x, fun i H x H' => H' = H /\ ∀ xs, SqL K H a xs -> xs[i]? = some x, fun i H => ∃ xs, SqL K H a xs /\ xs.length <= i⟩
def Itt (K : PySem.W.Frag) (a : Addr) : It :=
  ⟨fun i H => ∃ xs x, SqT K H a xs /\ xs[i]? = some x, fun i H x H' => H' = H /\ ∀ xs, SqT K H a xs -> xs[i]? = some x, fun i H => ∃ xs, SqT K H a xs /\ xs.length <= i⟩
def Itr (lo : Int) (n : Nat) : It := ⟨fun i _ => i < n, fun i H x H' => H' = H /\ x = .int (lo + i), fun i _ => n <= i⟩
theorem turn_list {P : Program} {w : World} {K : PySem.W.Frag} {tg : Expr} (a it : Addr) : Turn P w K tg (Itl K a) [it] it (fun i h => h.IsListIter it a i) where
  mem := by simp
  obj := fun i h st b hb => by
    have e : b = it := by simpa using hb
    subst e
    obtain ⟨o, e, c, d⟩ := st
    exact ⟨o, e, fun v z => by rw [d] at z; cases z⟩
  keep := fun i h h' st k => st.at fun o e => k it (by simp) o e
  item := by
    intro X hP hw hK hc i pins s σ H E I hf st hg
    subst hP hw hK
    obtain ⟨xs, x, hq, hx⟩ := hg
    obtain ⟨its, rv, p, hz⟩ := I.list hq
    obtain ⟨u, hu, ru⟩ := rv.get hx
    obtain ⟨f0, f1, f2, f3, f4, f5⟩ := hf it (by simp)
    refine wpAny_pyNext_list_item st p.isList (x := u) (by simpa using hu) fun h' st' sb => ?_
    have I1 : Inv X pins σ H { s with heap := h' } := I.turned (t' := s.toks) (fun b o hb e => (sb.2 b hb).trans e) f0 f1 f3 f4 f5
    obtain ⟨o, e, c, d⟩ := id st'
    exact ⟨u, rfl, go_of (s := { s with heap := h' }) e c d (by decide) ⟨x, H, I1, ru, ⟨rfl, fun ys hy => by rw [I.list_inj hy hq]; exact hx⟩, st', fun b hb => (hf b hb).1⟩⟩
  done := by
    intro X hP hw hK hc i pins s σ H E I hf st hg
    subst hP hw hK
    obtain ⟨xs, hq, hx⟩ := hg
    obtain ⟨its, rv, p, hz⟩ := I.list hq
    obtain ⟨f0, f1, f2, f3, f4, f5⟩ := hf it (by simp)
    have hl := rv.length
    exact wpAny_pyNext_list_end (I.ok.hd hc) st p.isList (by simp; omega) fun h' eb => ⟨rfl, I.turned (t' := s.toks) (fun b o hb e => eb b o hb e) f0 f1 f3 f4 f5⟩
  self := fun _ _ _ _ _ st h => wpAny_pyIter_listiter st h
theorem turn_tuple {P : Program} {w : World} {K : PySem.W.Frag} {tg : Expr} (a it : Addr) : Turn P w K tg (Itt K a) [it] it (fun i h => h.IsTupleIter it a i) where
  mem := by simp
  obj := fun i h st b hb => by
    have e : b = it := by simpa using hb
    subst e
    obtain ⟨o, e, c, d⟩ := st
    exact ⟨o, e, fun v z => by rw [d] at z; cases z⟩
  keep := fun i h h' st k => st.at fun o e => k it (by simp) o e
  item := by
    intro X hP hw hK hc i pins s σ H E I hf st hg
    subst hP hw hK
    obtain ⟨xs, x, hq, hx⟩ := hg
    obtain ⟨its, rv, p, hz⟩ := I.tuple hq
    obtain ⟨u, hu, ru⟩ := rv.get hx
    obtain ⟨f0, f1, f2, f3, f4, f5⟩ := hf it (by simp)
    refine wpAny_pyNext_tuple_item st (show s.heap.IsTuple a its.toArray from p) (x := u) (by simpa using hu) fun h' st' sb => ?_
    have I1 : Inv X pins σ H { s with heap := h' } := I.turned (t' := s.toks) (fun b o hb e => (sb.2 b hb).trans e) f0 f1 f3 f4 f5
    obtain ⟨o, e, c, d⟩ := id st'
    exact ⟨u, rfl, go_of (s := { s with heap := h' }) e c d (by decide) ⟨x, H, I1, ru, ⟨rfl, fun ys hy => by rw [I.tuple_inj hy hq]; exact hx⟩, st', fun b hb => (hf b hb).1⟩⟩
  done := by
    intro X hP hw hK hc i pins s σ H E I hf st hg
    subst hP hw hK
    obtain ⟨xs, hq, hx⟩ := hg
    obtain ⟨its, rv, p, hz⟩ := I.tuple hq
    obtain ⟨f0, f1, f2, f3, f4, f5⟩ := hf it (by simp)
    have hl := rv.length
    exact wpAny_pyNext_tuple_end (I.ok.hd hc) st (show s.heap.IsTuple a its.toArray from p) (by simp; omega) fun h' eb => ⟨rfl, I.turned (t' := s.toks) (fun b o hb e => eb b o hb e) f0 f1 f3 f4 f5⟩
  self := fun _ _ _ _ _ st h => wpAny_pyIter_tupleiter st h
theorem turn_range {P : Program} {w : World} {K : PySem.W.Frag} {tg : Expr} (it : Addr) (lo : Int) (n : Nat) : Turn P w K tg (Itr lo n) [it] it (fun i h => IsRangeIter h it (lo + (i : Nat) * 1) ((n : Int) - (i : Nat)) 1) where
  mem := by simp
  obj := fun i h st b hb => by
    have e : b = it := by simpa using hb
    subst e
    exact ⟨_, st, fun v z => by
      have z' : Data.fields _ = Data.cell v := z
      cases z'⟩
  keep := fun i h h' st k => k it (by simp) _ st
  item := by
    intro X hP hw hK hc i pins s σ H E I hf st hg
    subst hP hw hK
    obtain ⟨f0, f1, f2, f3, f4, f5⟩ := hf it (by simp)
    have W := Walks.range (prog := X.prog) (w := X.w) (I.ok.hd hc) it lo 1 n
    refine W.item i s _ _ hg st fun v h' tk hv st' kk => ?_
    obtain ⟨t, rfl⟩ := hv
    have I1 : Inv X pins σ H { s with heap := h', toks := tk } := I.turned (fun b o hb e => kk b o (by simpa using hb) e) f0 f1 f3 f4 f5
    refine ⟨_, rfl, go_of (s := { s with heap := h', toks := tk }) (n := "range_iterator") st' rfl rfl (by decide) ⟨.int (lo + i), H, I1, ⟨t, ?_⟩, ⟨rfl, rfl⟩, st', fun b hb => (hf b hb).1⟩⟩
    rw [Int.mul_one]
  done := by
    intro X hP hw hK hc i pins s σ H E I hf st hg
    subst hP hw hK
    obtain ⟨f0, f1, f2, f3, f4, f5⟩ := hf it (by simp)
    exact wpAny_pyNext_range_end (I.ok.hd hc) st (by have : n <= i := hg; omega) fun h' eb => ⟨rfl, I.turned (t' := s.toks) (fun b o hb e => eb b o hb e) f0 f1 f3 f4 f5⟩
  self := fun _ _ _ _ _ st h => wpAny_pyIter_rangeiter st h
end L2
namespace L2
open PySem PySem.Spec PyProof.Rows
section
variable {X : Cx} {tg : Expr}
def iList (K : PySem.W.Frag) (tl : TE) : TI := fun σ H R => tl σ H fun x H1 => ∃ a, x = .ref a /\ (∃ xs, SqL K H1 a xs) /\ R (Itl K a) H1
theorem pi_list {l : Expr} {tl : TE} (hl : PE X l tl) : PI X tg l (iList X.K tl) := by
  intro pins s σ H R I h
  refine thn (hl pins s σ H _ I h) fun v s1 ⟨x, H1, I1, r1, q1⟩ => ?_
  obtain ⟨a, e, ⟨xs, hq⟩, q⟩ := q1
  subst e
  cases r1
  obtain ⟨its, rv, p, hz⟩ := I1.list hq
  refine wpAny_pyIter_list p.isList ?_
  refine ⟨s1.heap.objs.size, [s1.heap.objs.size], _, _, H1, rfl, I1.kept (t' := s1.toks) fun b o e => Heap.get?_push_of_some _ e, turn_list a _, ⟨_, Heap.get?_push_size _ rfl, rfl, rfl⟩, fun b hb => ?_, q⟩
  have e : b = s1.heap.objs.size := by simpa using hb
  subst e
  exact I1.fpOk (Nat.le_refl _) (I1.hok.fresh (Nat.le_refl _))
theorem range_it {pins : List (Addr × Obj)} {σ : St} {H : Hp} {s : Shared} {R : It -> Hp -> Prop} {E : Value -> Shared -> Prop} {lo hi : Int} {t u v : Tok} {tk : Nat} (I : Inv X pins σ H s) (h1 : -(2 ^ 62) <= lo) (h2 : lo < 2 ^ 62) (h3 : -(2 ^ 62) <= hi) (h4 : hi < 2 ^ 62)
    (q : R (Itr lo (hi - lo).toNat) H) : wpAny (model X.prog X.w) X.A (pyIter (.ref s.heap.objs.size)) (PIE X pins σ tg R) E { s with heap := s.heap.push { cls := .type "range", data := .fields #[.int lo t, .int hi u, .int 1 v] }, toks := tk } := by
  refine wpAny_pyIter_range (IsRange.new ..) (small_one h1 h2 h3 h4) ?_
  have I1 : Inv X pins σ H { s with heap := s.heap.push { cls := .type "range", data := .fields #[.int lo t, .int hi u, .int 1 v] }, toks := tk } := I.kept fun b o e => Heap.get?_push_of_some _ e
  refine ⟨(s.heap.push { cls := .type "range", data := .fields #[.int lo t, .int hi u, .int 1 v] }).objs.size, [(s.heap.push { cls := .type "range", data := .fields #[.int lo t, .int hi u, .int 1 v] }).objs.size], _, _, H, rfl,
    I1.kept (t' := tk) fun b o e => Heap.get?_push_of_some _ e, turn_range _ lo (hi - lo).toNat, ?_, fun b hb => ?_, q⟩
  · have e1 : lo + ((0 : Nat) : Int) * 1 = lo := by simp
    have e2 : (((hi - lo).toNat : Nat) : Int) - ((0 : Nat) : Int) = Builtin.Range.rangeSize lo hi 1 := by rw [rangeSize_one]; split <;> omega
    show IsRangeIter _ _ (lo + ((0 : Nat) : Int) * 1) ((((hi - lo).toNat : Nat) : Int) - ((0 : Nat) : Int)) 1
    rw [e1, e2]
    exact Heap.get?_push_size _ rfl
  · have e : b = (s.heap.push { cls := .type "range", data := .fields #[.int lo t, .int hi u, .int 1 v] }).objs.size := by simpa using hb
    subst e
    exact I1.fpOk (Nat.le_refl _) (I1.hok.fresh (Nat.le_refl _))
def iRng1 (ta : TA) : TI := fun σ H R => ta σ H fun vs H1 => ∃ j : Int, vs = [.int j] /\ -(2 ^ 62) <= j /\ j < 2 ^ 62 /\ R (Itr 0 j.toNat) H1
theorem pi_range1 {a : Expr} {ta : TA} {p pos : Pos} (hg : Gl X "range") (hm : X.mg "range" = none) (ha : PA X [a] ta) (hs : starEach [a] X.env = [(false, eval a X.env)] := by rfl) : PI X tg (.Call (.Name "range" p) [a] [] pos) (iRng1 ta) := by
  intro pins s σ H R I h
  refine Call_ (ld_blt I hg hm boot_range (PyProof.Rows.callWith_type1 (thn (ha pos pins s σ H _ I h) fun us s1 ⟨vs, H1, I1, r1, q1⟩ => ?_) hs rfl))
  obtain ⟨j, e, q1, q2, q⟩ := q1
  subst e
  cases r1 with
  | cons r rr =>
    cases rr
    obtain ⟨t, rfl⟩ := r
    exact call_range_1 (range_it I1 (by omega) (by omega) q1 q2 (by simpa using q))
def tFor (wi : TI) (g : TG) (tb : TS) : TS := fun D σ H => wi σ H fun J H1 => ∃ W : Nat -> Nat -> St -> Hp -> Prop, (∃ m, W 0 m σ H1) /\ ∀ i m σ H, W i m σ H ->
  (J.stop i H /\ D.nx σ H) ∨ (J.go i H /\ ∃ N : St -> Hp -> Prop, (∀ σ' H', N σ' H' -> ∃ m', m' < m /\ W (i + 1) m' σ' H') /\ ∀ x H', J.yld i H x H' -> g x σ H' fun σ2 H2 => tb { D with nx := N, ct := N, bk := D.nx } σ2 H2)
def pinsAt (fp : List Addr) (h : Heap) : List (Addr × Obj) := fp.filterMap fun b => (h.get? b).map fun o => (b, o)
theorem mem_pinsAt {fp : List Addr} {h : Heap} {b : Addr} {o : Obj} (hb : b ∈ fp) (e : h.get? b = some o) : (b, o) ∈ pinsAt fp h := List.mem_filterMap.mpr ⟨b, hb, by rw [e]; rfl⟩
theorem of_pinsAt {fp : List Addr} {h : Heap} {p : Addr × Obj} (hp : p ∈ pinsAt fp h) : p.1 ∈ fp /\ h.get? p.1 = some p.2 := by
  obtain ⟨b, hb, e⟩ := List.mem_filterMap.mp hp
  cases q : h.get? b with
  | none => rw [q] at e; cases e
  | some o =>
    rw [q] at e
    have e' : (b, o) = p := Option.some.inj e
    subst e'
    exact ⟨hb, q⟩
theorem Inv.pinned {pins : List (Addr × Obj)} {σ : St} {H : Hp} {s : Shared} {fp : List Addr} (I : Inv X pins σ H s) (hf : ∀ b ∈ fp, FpOk X pins H b) (ho : ∀ b ∈ fp, ∃ o, s.heap.get? b = some o /\ ∀ v, o.data ≠ .cell v) : Inv X (pins ++ pinsAt fp s.heap) σ H s :=
  I.pins_of fun p hp => (List.mem_append.mp hp).elim (fun z => I.pin p (List.mem_append_right _ z)) fun z => by
    obtain ⟨hb, e⟩ := of_pinsAt z
    obtain ⟨f0, f1, f2, _⟩ := hf p.1 hb
    obtain ⟨o, e', d⟩ := ho p.1 hb
    rw [e] at e'; cases e'
    exact ⟨e, f0, f1, f2, d⟩
theorem Inv.unpinned {pins pl : List (Addr × Obj)} {σ : St} {H : Hp} {s : Shared} (I : Inv X (pins ++ pl) σ H s) : Inv X pins σ H s := I.pins_of fun p hp => I.pin p (List.mem_append_right _ (List.mem_append_left _ hp))
theorem ps_for {iter : Expr} {body : List Stmt} {wi : TI} {g : TG} {tb : TS} {pos : Pos} (hp : PassesOwn (model X.prog X.w) X.A X.env X.xe) (hc : X.calm = true) (hi : PI X tg iter wi) (hg : PG X tg g) (hb : PSs X body tb)
    (hs : ∀ x, foldedSetIterable iter X.env x = pure x := by intro _; rfl) : PS X (.For tg iter body [] pos) (tFor wi g tb) := by
  intro pins s σ H D I h
  refine wpAny_For (thn (hi pins s σ H _ I h) fun v s1 h1 => thn h1 fun itv s2 h2 => ?_) hs
  obtain ⟨it, fp, tn, J, H2, e, I2, T, st2, f2, W, ⟨m0, w0⟩, turn⟩ := h2
  subst e
  have stat : ∀ {H' : Hp}, (∀ b ∈ fp, H' b = none) -> ∀ b ∈ fp, FpOk X pins H' b := fun hn b hb => ⟨hn b hb, (f2 b hb).2⟩
  refine codeAny_forLoop_any (fun n s' => ∃ i σ' H', Inv X pins σ' H' s' /\ tn i s'.heap /\ (∀ b ∈ fp, H' b = none) /\ W i n σ' H') ?_ m0 ⟨0, σ, H2, I2, st2, fun b hb => (f2 b hb).1, w0⟩
  rintro n s3 ⟨i, σ3, H3, I3, st3, fr3, w3⟩
  rcases turn i n σ3 H3 w3 with ⟨stop, qn⟩ | ⟨go, N, hN, step⟩
  · refine wpAny_passesOwn hp (thn (T.done X rfl rfl rfl hc i pins s3 σ3 H3 X.xe I3 (stat fr3) st3 stop) fun r s4 ⟨hr, I4⟩ => ?_)
    subst hr
    exact wpAny_execs_nil ⟨σ3, H3, I4, qn⟩
  · refine wpAny_passesOwn hp (thn (T.item X rfl rfl rfl hc i pins s3 σ3 H3 X.xe I3 (stat fr3) st3 go) fun r s4 ⟨u, hr, h4⟩ => ?_)
    subst hr
    refine wpAny_passesOwn hp (thn h4 fun _ s5 ⟨x, H5, I5, r5, y5, st5, fr5⟩ => ?_)
    have I5' := I5.pinned (stat fr5) (T.obj _ _ st5)
    refine wpAny_passesOwn hp (thn (hg _ s5 σ3 H5 x u _ I5' r5 (step x H5 y5)) fun _ s6 ⟨σ6, H6, I6, q6⟩ => ?_)
    refine wpAny_passesOwn hp (thn (hb _ s6 σ6 H6 _ I6 q6) fun f s7 q7 => ?_)
    have again : ∀ {σ7 : St} {H7 : Hp}, Inv X (pins ++ pinsAt fp s5.heap) σ7 H7 s7 -> N σ7 H7 -> ∃ m, m < n /\ ∃ i σ' H', Inv X pins σ' H' s7 /\ tn i s7.heap /\ (∀ b ∈ fp, H' b = none) /\ W i m σ' H' := fun {σ7 H7} I7 n7 => by
      obtain ⟨m', hm, w7⟩ := hN σ7 H7 n7
      refine ⟨m', hm, i + 1, σ7, H7, I7.unpinned, T.keep _ _ _ st5 fun b hb o e => (I7.pin (b, o) (List.mem_append_right _ (List.mem_append_right _ (mem_pinsAt hb e)))).1, fun b hb => ?_, w7⟩
      obtain ⟨o, e, d⟩ := T.obj _ _ st5 b hb
      exact (I7.pin (b, o) (List.mem_append_right _ (List.mem_append_right _ (mem_pinsAt hb e)))).2.1
    cases f with
    | next => obtain ⟨σ7, H7, I7, n7⟩ := q7; exact again I7 n7
    | cont => obtain ⟨σ7, H7, I7, n7⟩ := q7; exact again I7 n7
    | brk => obtain ⟨σ7, H7, I7, q7⟩ := q7; exact ⟨σ7, H7, I7.unpinned, q7⟩
    | ret v => obtain ⟨x7, σ7, H7, I7, r7, q7⟩ := q7; exact ⟨x7, σ7, H7, I7.unpinned, r7, q7⟩
end
end L2
namespace L2
open PySem PySem.Spec PyProof.Rows
abbrev R2 := V -> V -> Hp -> VK -> Prop
def OpR (X : Cx) (f : Value -> Value -> Sem Value) (r : R2) : Prop :=
  ∀ (pins : List (Addr × Obj)) (s : Shared) (σ : St) (H : Hp) (x y : V) (v u : Value) (Q : VK), Inv X pins σ H s -> RelV x v -> RelV y u -> r x y H Q ->
    wpAny (model X.prog X.w) X.A (f v u) (EP X pins σ Q) X.xe s
def UnR (X : Cx) (f : Value -> Sem Value) (r : V -> Hp -> VK -> Prop) : Prop :=
  ∀ (pins : List (Addr × Obj)) (s : Shared) (σ : St) (H : Hp) (x : V) (v : Value) (Q : VK), Inv X pins σ H s -> RelV x v -> r x H Q ->
    wpAny (model X.prog X.w) X.A (f v) (EP X pins σ Q) X.xe s
def CallR (X : Cx) (f : Value) (r : List V -> Hp -> VK -> Prop) : Prop :=
  ∀ (pins : List (Addr × Obj)) (s : Shared) (σ : St) (H : Hp) (xs : List V) (us : List Value) (Q : VK), Inv X pins σ H s -> Vals xs us -> r xs H Q ->
    wpAny (model X.prog X.w) X.A (call f us) (EP X pins σ Q) X.xe s
def TruR (X : Cx) (r : V -> Hp -> (Bool -> Hp -> Prop) -> Prop) : Prop :=
  ∀ (pins : List (Addr × Obj)) (s : Shared) (σ : St) (H : Hp) (x : V) (v : Value) (Q : Bool -> Hp -> Prop), Inv X pins σ H s -> RelV x v -> r x H Q ->
    wpAny (model X.prog X.w) X.A (truthy v) (TP X pins σ Q) X.xe s
def tOp (r : R2) (ta tb : TE) : TE := fun σ H Q => ta σ H fun x H1 => tb σ H1 fun y H2 => r x y H2 Q
def tUn (r : V -> Hp -> VK -> Prop) (ta : TE) : TE := fun σ H Q => ta σ H fun x H1 => r x H1 Q
def rI (C : Int -> Int -> Prop) (g : Int -> Int -> V) : R2 := fun x y H Q => ∃ i j, x = .int i /\ y = .int j /\ C i j /\ Q (g i j) H
def rI0 (g : Int -> Int -> V) : R2 := fun x y H Q => ∃ i j, x = .int i /\ y = .int j /\ Q (g i j) H
def rU (g : Int -> V) : V -> Hp -> VK -> Prop := fun x H Q => ∃ i, x = .int i /\ Q (g i) H
section
variable {X : Cx} {a b c : Expr} {ta tb tc : TE} {pos : Pos}
theorem binT (ha : PE X a ta) (hb : PE X b tb) {pins : List (Addr × Obj)} {s : Shared} {σ : St} {H : Hp} {R : V -> V -> Hp -> Prop} (I : Inv X pins σ H s)
    (h : ta σ H fun x H1 => tb σ H1 fun y H2 => R x y H2) {Q : Value -> Shared -> Prop} {f : Value -> Value -> Sem Value}
    (hf : ∀ v u s2 x y H2, Inv X pins σ H2 s2 -> RelV x v -> RelV y u -> R x y H2 -> wpAny (model X.prog X.w) X.A (f v u) Q X.xe s2) :
    wpAny (model X.prog X.w) X.A (eval a X.env) (fun v s₁ => wpAny (model X.prog X.w) X.A (eval b X.env) (fun u s₂ => wpAny (model X.prog X.w) X.A (f v u) Q X.xe s₂) X.xe s₁) X.xe s := by
  refine thn (ha pins s σ H _ I h) fun v s1 ⟨x, H1, I1, r1, q1⟩ => ?_
  refine thn (hb pins s1 σ H1 _ I1 q1) fun u s2 ⟨y, H2, I2, r2, q2⟩ => ?_
  exact hf v u s2 x y H2 I2 r1 r2 q2
theorem pe_op {op : Operator} {r : R2} (ho : OpR X (binaryOp op) r) (ha : PE X a ta) (hb : PE X b tb) : PE X (.BinOp a op b pos) (tOp r ta tb) := by
  intro pins s σ H Q I h
  exact wpAny_BinOp (binT ha hb I h fun v u s2 x y H2 I2 rx ry q => ho pins s2 σ H2 x y v u Q I2 rx ry q)
theorem pe_un {op : UnaryOp} {r : V -> Hp -> VK -> Prop} (ho : UnR X (unaryOp op) r) (ha : PE X a ta) : PE X (.UnaryOp op a pos) (tUn r ta) := by
  intro pins s σ H Q I h
  exact UnaryOp_ (thn (ha pins s σ H _ I h) fun v s1 ⟨x, H1, I1, r1, q1⟩ => ho pins s1 σ H1 x v Q I1 r1 q1)
theorem opI {f : Value -> Value -> Sem Value} {C : Int -> Int -> Prop} {g : Int -> Int -> Int}
    (rule : ∀ (i j : Int) (t u : Tok) (s : Shared) (Q : Value -> Shared -> Prop) (E : Value -> Shared -> Prop), C i j -> Q (.int (g i j) s.toks) { s with toks := s.toks + 1 } -> wpAny (model X.prog X.w) X.A (f (.int i t) (.int j u)) Q E s) :
    OpR X f (rI C fun i j => .int (g i j)) := by
  intro pins s σ H x y v u Q I rx ry h
  obtain ⟨i, j, rfl, rfl, hc, q⟩ := h
  obtain ⟨t, rfl⟩ := rx
  obtain ⟨t', rfl⟩ := ry
  exact rule i j t t' s _ _ hc ⟨.int (g i j), H, I.tok _, ⟨_, rfl⟩, q⟩
theorem opI0 {f : Value -> Value -> Sem Value} {g : Int -> Int -> Int}
    (rule : ∀ (i j : Int) (t u : Tok) (s : Shared) (Q : Value -> Shared -> Prop) (E : Value -> Shared -> Prop), Q (.int (g i j) s.toks) { s with toks := s.toks + 1 } -> wpAny (model X.prog X.w) X.A (f (.int i t) (.int j u)) Q E s) :
    OpR X f (rI0 fun i j => .int (g i j)) := by
  intro pins s σ H x y v u Q I rx ry h
  obtain ⟨i, j, rfl, rfl, q⟩ := h
  obtain ⟨t, rfl⟩ := rx
  obtain ⟨t', rfl⟩ := ry
  exact rule i j t t' s _ _ ⟨.int (g i j), H, I.tok _, ⟨_, rfl⟩, q⟩
theorem opB0 {f : Value -> Value -> Sem Value} {g : Int -> Int -> Bool}
    (rule : ∀ (i j : Int) (t u : Tok) (s : Shared) (Q : Value -> Shared -> Prop) (E : Value -> Shared -> Prop), Q (.bool (g i j)) s -> wpAny (model X.prog X.w) X.A (f (.int i t) (.int j u)) Q E s) :
    OpR X f (rI0 fun i j => .bl (g i j)) := by
  intro pins s σ H x y v u Q I rx ry h
  obtain ⟨i, j, rfl, rfl, q⟩ := h
  obtain ⟨t, rfl⟩ := rx
  obtain ⟨t', rfl⟩ := ry
  exact rule i j t t' s _ _ ⟨.bl (g i j), H, I, rfl, q⟩
def CPow (i j : Int) : Prop := 0 <= j /\ j <= 1000000 /\ i.natAbs < 2 ^ 64
theorem op_add : OpR X (binaryOp .Add) (rI0 fun i j => .int (i + j)) := opI0 fun _ _ _ _ _ _ _ q => add_int q
theorem op_sub : OpR X (binaryOp .Sub) (rI0 fun i j => .int (i - j)) := opI0 fun _ _ _ _ _ _ _ q => sub_int q
theorem op_modN : OpR X (binaryOp .Mod) (rI (fun _ j => j ≠ 0) fun i j => .int (i.fmod j)) := opI fun _ _ _ _ _ _ _ hc q => mod_int' hc q
theorem op_pow : OpR X (binaryOp .Pow) (rI CPow fun i j => .int (i ^ j.toNat)) := opI fun _ _ _ _ _ _ _ hc q => pow_int_small hc.1 hc.2.1 hc.2.2 q
theorem unI {f : Value -> Sem Value} {g : Int -> Int}
    (rule : ∀ (i : Int) (t : Tok) (s : Shared) (Q : Value -> Shared -> Prop) (E : Value -> Shared -> Prop), Q (.int (g i) s.toks) { s with toks := s.toks + 1 } -> wpAny (model X.prog X.w) X.A (f (.int i t)) Q E s) :
    UnR X f (rU fun i => .int (g i)) := by
  intro pins s σ H x v Q I rx h
  obtain ⟨i, rfl, q⟩ := h
  obtain ⟨t, rfl⟩ := rx
  exact rule i t s _ _ ⟨.int (g i), H, I.tok _, ⟨_, rfl⟩, q⟩
theorem un_neg : UnR X (unaryOp .USub) (rU fun i => .int (-i)) := unI fun _ _ _ _ _ q => neg_int q
end
def scal : V -> V -> Bool
  | .non, .non => true | .non, .int _ => true | .int _, .non => true | .non, .bl _ => true | .bl _, .non => true | .non, .str _ => true | .str _, .non => true
  | .int _, .int _ => true | .bl _, .bl _ => true | .str _, .str _ => true | .byt _, .byt _ => true
  | .int _, .str _ => true | .str _, .int _ => true | .bl _, .str _ => true | .str _, .bl _ => true
  | _, _ => false
def rEq : R2 := fun x y H Q => scal x y = true /\ Q (.bl (decide (x = y))) H
def rNe : R2 := fun x y H Q => scal x y = true /\ Q (.bl (!decide (x = y))) H
theorem dec_int {i j : Int} : decide (V.int i = V.int j) = (i == j) := by
  rw [Bool.eq_iff_iff]
  simp
theorem dec_bl {i j : Bool} : decide (V.bl i = V.bl j) = (i == j) := by
  rw [Bool.eq_iff_iff]
  simp
theorem dec_str {i j : Str} : decide (V.str i = V.str j) = (i == j) := by
  rw [Bool.eq_iff_iff]
  simp
theorem dec_byt {i j : Array UInt8} : decide (V.byt i = V.byt j) = (i.toList == j.toList) := by
  rw [Bool.eq_iff_iff]
  cases i
  cases j
  simp
section
variable {X : Cx} {a b c : Expr} {ta tb tc : TE} {pos : Pos}
theorem fin_bl {pins : List (Addr × Obj)} {σ : St} {H : Hp} {s : Shared} {Q : VK} {k k' : Bool} (I : Inv X pins σ H s) (q : Q (.bl k) H) (e : k = k') : EP X pins σ Q (.bool k') s := by
  subst e
  exact ⟨.bl k, H, I, rfl, q⟩
theorem op_eq : OpR X (compareOp .Eq) rEq := by
  intro pins s σ H x y v u Q I rx ry h
  obtain ⟨hs, q⟩ := h
  cases x with
  | non =>
    cases rx
    cases y with
    | non => cases ry; exact PySem.EqNone.eq_none_none (fin_bl I q (by simp))
    | bl j => cases ry; exact PySem.EqNone.eq_none_bool (fin_bl I q (by simp))
    | int j => obtain ⟨t', rfl⟩ := ry; exact PySem.EqNone.eq_none_int (fin_bl I q (by simp))
    | str j => obtain ⟨t', rfl⟩ := ry; exact PySem.EqNone.eq_none_str (fin_bl I q (by simp))
    | _ => exact absurd (show false = true from hs) Bool.false_ne_true
  | bl i =>
    cases rx
    cases y with
    | non => cases ry; exact PySem.EqNone.eq_bool_none (fin_bl I q (by simp))
    | bl j => cases ry; exact eq_bool (fin_bl I q dec_bl)
    | str j => obtain ⟨t', rfl⟩ := ry; exact PySem.EqMixed.eq_bool_str (fin_bl I q (by simp))
    | _ => exact absurd (show false = true from hs) Bool.false_ne_true
  | int i =>
    obtain ⟨t, rfl⟩ := rx
    cases y with
    | non => cases ry; exact PySem.EqNone.eq_int_none (fin_bl I q (by simp))
    | int j => obtain ⟨t', rfl⟩ := ry; exact eq_int (fin_bl I q dec_int)
    | str j => obtain ⟨t', rfl⟩ := ry; exact PySem.EqMixed.eq_int_str (fin_bl I q (by simp))
    | _ => exact absurd (show false = true from hs) Bool.false_ne_true
  | str i =>
    obtain ⟨t, rfl⟩ := rx
    cases y with
    | non => cases ry; exact PySem.EqNone.eq_str_none (fin_bl I q (by simp))
    | bl j => cases ry; exact PySem.EqMixed.eq_str_bool (fin_bl I q (by simp))
    | int j => obtain ⟨t', rfl⟩ := ry; exact PySem.EqMixed.eq_str_int (fin_bl I q (by simp))
    | str j => obtain ⟨t', rfl⟩ := ry; exact eq_str (fin_bl I q dec_str)
    | _ => exact absurd (show false = true from hs) Bool.false_ne_true
  | byt i =>
    obtain ⟨t, rfl⟩ := rx
    cases y with
    | byt j => obtain ⟨t', rfl⟩ := ry; exact PySem.W.eq_bytes (fin_bl I q dec_byt)
    | _ => exact absurd (show false = true from hs) Bool.false_ne_true
  | _ => cases y <;> exact absurd (show false = true from hs) Bool.false_ne_true
theorem op_ne : OpR X (compareOp .NotEq) rNe := by
  intro pins s σ H x y v u Q I rx ry h
  obtain ⟨hs, q⟩ := h
  cases x with
  | non =>
    cases rx
    cases y with
    | non => cases ry; exact PySem.EqNone.ne_none_none (fin_bl I q (by simp))
    | bl j => cases ry; exact PySem.EqNone.ne_none_bool (fin_bl I q (by simp))
    | int j => obtain ⟨t', rfl⟩ := ry; exact PySem.EqNone.ne_none_int (fin_bl I q (by simp))
    | str j => obtain ⟨t', rfl⟩ := ry; exact PySem.EqNone.ne_none_str (fin_bl I q (by simp))
    | _ => exact absurd (show false = true from hs) Bool.false_ne_true
  | bl i =>
    cases rx
    cases y with
    | non => cases ry; exact PySem.EqNone.ne_bool_none (fin_bl I q (by simp))
    | bl j => cases ry; exact ne_bool (fin_bl I q (congrArg not dec_bl))
    | str j => obtain ⟨t', rfl⟩ := ry; exact PySem.EqMixed.ne_bool_str (fin_bl I q (by simp))
    | _ => exact absurd (show false = true from hs) Bool.false_ne_true
  | int i =>
    obtain ⟨t, rfl⟩ := rx
    cases y with
    | non => cases ry; exact PySem.EqNone.ne_int_none (fin_bl I q (by simp))
    | int j => obtain ⟨t', rfl⟩ := ry; exact ne_int (fin_bl I q (congrArg not dec_int))
    | str j => obtain ⟨t', rfl⟩ := ry; exact PySem.EqMixed.ne_int_str (fin_bl I q (by simp))
    | _ => exact absurd (show false = true from hs) Bool.false_ne_true
  | str i =>
    obtain ⟨t, rfl⟩ := rx
    cases y with
    | non => cases ry; exact PySem.EqNone.ne_str_none (fin_bl I q (by simp))
    | bl j => cases ry; exact PySem.EqMixed.ne_str_bool (fin_bl I q (by simp))
    | int j => obtain ⟨t', rfl⟩ := ry; exact PySem.EqMixed.ne_str_int (fin_bl I q (by simp))
    | str j => obtain ⟨t', rfl⟩ := ry; exact ne_str (fin_bl I q (congrArg not dec_str))
    | _ => exact absurd (show false = true from hs) Bool.false_ne_true
  | byt i =>
    obtain ⟨t, rfl⟩ := rx
    cases y with
    | byt j => obtain ⟨t', rfl⟩ := ry; exact PySem.W.ne_bytes (fin_bl I q (congrArg not dec_byt))
    | _ => exact absurd (show false = true from hs) Bool.false_ne_true
  | _ => cases y <;> exact absurd (show false = true from hs) Bool.false_ne_true
theorem op_lt : OpR X (compareOp .Lt) (rI0 fun i j => .bl (decide (i < j))) := opB0 fun _ _ _ _ _ _ _ q => lt_int q
theorem op_gt : OpR X (compareOp .Gt) (rI0 fun i j => .bl (decide (j < i))) := opB0 fun _ _ _ _ _ _ _ q => gt_int q
theorem op_ge : OpR X (compareOp .GtE) (rI0 fun i j => .bl (decide (j <= i))) := opB0 fun _ _ _ _ _ _ _ q => ge_int q
theorem op_lt_str : OpR X (compareOp .Lt) (fun x y H Q => ∃ i j, x = .str i /\ y = .str j /\ Q (.bl (decide (i.cps.toList < j.cps.toList))) H) := by
  intro pins s σ H x y v u Q I rx ry h
  obtain ⟨i, j, rfl, rfl, q⟩ := h
  obtain ⟨t, rfl⟩ := rx
  obtain ⟨t', rfl⟩ := ry
  exact lt_str (fin_bl I q rfl)
theorem op_isN : OpR X (compareOp .Is) (fun x y H Q => y = .non /\ Q (.bl (decide (x = .non))) H) := by
  intro pins s σ H x y v u Q I rx ry h
  obtain ⟨rfl, q⟩ := h
  cases ry
  refine is_none_gen (fin_bl I q ?_)
  cases x <;> first
    | (cases rx; rfl)
    | (obtain ⟨t, rfl⟩ := rx; rfl)
theorem op_notN : OpR X (compareOp .IsNot) (fun x y H Q => y = .non /\ Q (.bl (!decide (x = .non))) H) := by
  intro pins s σ H x y v u Q I rx ry h
  obtain ⟨rfl, q⟩ := h
  cases ry
  refine isnot_none_gen (fin_bl I q ?_)
  cases x <;> first
    | (cases rx; rfl)
    | (obtain ⟨t, rfl⟩ := rx; rfl)
theorem pe_cmpR {op : CmpOp} {r : R2} (ho : OpR X (compareOp op) r) (ha : PE X a ta) (hb : PE X b tb) (hm : behindInMarks op b = false) : PE X (.Compare a [op] [b] pos) (tOp r ta tb) := by
  intro pins s σ H Q I h
  exact wpAny_Compare1 (binT ha hb I h fun v u s2 x y H2 I2 rx ry q => ho pins s2 σ H2 x y v u Q I2 rx ry q) hm
def tTest (t : TE) : TT := fun σ H Q => t σ H fun x H' => ∃ k, x = .bl k /\ Q k H'
theorem pt_cmpR {op : CmpOp} {r : R2} (ho : OpR X (compareOp op) r) (ha : PE X a ta) (hb : PE X b tb) (hm : behindInMarks op b = false) : PT X (.Compare a [op] [b] pos) (tTest (tOp r ta tb)) := by
  intro pins s σ H Q I h
  refine wpAny_isTrue_Compare1 (thn (ha pins s σ H _ I h) fun v s1 ⟨x, H1, I1, r1, q1⟩ => thn (hb pins s1 σ H1 _ I1 q1) fun u s2 ⟨y, H2, I2, r2, q2⟩ =>
    thn (ho pins s2 σ H2 x y v u _ I2 r1 r2 q2) fun c s3 ⟨z, H3, I3, r3, k, e, q3⟩ => ?_) hm
  subst e
  cases r3
  exact wpAny_truthy_bool ⟨H3, I3, q3⟩
def tChain (r r' : R2) (ta tb tc : TE) : TE := fun σ H Q => ta σ H fun x H1 => tb σ H1 fun y H2 => r x y H2 fun z H3 => ∃ k, z = .bl k /\
  (if k = true then tc σ H3 fun w' H4 => r' y w' H4 Q else Q (.bl false) H3)
theorem pt_chain {op op' : CmpOp} {r r' : R2} (ho : OpR X (compareOp op) r) (ho' : OpR X (compareOp op') r') (ha : PE X a ta) (hb : PE X b tb) (hc : PE X c tc)
    (hm : lastMarks [op, op'] [b, c] = false := by with_unfolding_all rfl) : PT X (.Compare a [op, op'] [b, c] pos) (tTest (tChain r r' ta tb tc)) := by
  intro pins s σ H Q I h
  refine isTrue_chain (thn (ha pins s σ H _ I h) fun v s1 ⟨x, H1, I1, r1, q1⟩ => test_link (thn (hb pins s1 σ H1 _ I1 q1) fun u s2 ⟨y, H2, I2, r2, q2⟩ =>
    thn (ho pins s2 σ H2 x y v u _ I2 r1 r2 q2) fun d s3 ⟨z, H3, I3, r3, k, e, q3⟩ => ?_)) hm
  subst e
  cases r3
  refine wpAny_truthy_bool ?_
  cases k with
  | false =>
    obtain ⟨k', e', q'⟩ := q3
    cases e'
    exact ite_ff ⟨H3, I3, q'⟩
  | true =>
    refine ite_tt (test_last (thn (hc pins s3 σ H3 _ I3 q3) fun w' s4 ⟨z', H4, I4, r4, q4⟩ => thn (ho' pins s4 σ H4 y z' u w' _ I4 r2 r4 q4) fun d' s5 ⟨z2, H5, I5, r5, k2, e2, q5⟩ => ?_))
    subst e2
    cases r5
    exact wpAny_truthy_bool ⟨H5, I5, q5⟩
def TruV (K : PySem.W.Frag) (x : V) (H : Hp) (k : Bool) : Prop :=
  match x with
  | .non => k = false
  | .bl b => k = b
  | .int i => k = (i != 0)
  | .str y => y.length <= sizeLine /\ k = ((y.length : Int) != 0)
  | .byt y => y.size <= sizeLine /\ k = ((y.size : Int) != 0)
  | .ref p => (∃ xs, SqL K H p xs /\ k = !xs.isEmpty) ∨ (∃ xs, SqT K H p xs /\ k = !xs.isEmpty) ∨ ∃ kvs, H p = some (.dK kvs) /\ k = !kvs.isEmpty
  | _ => False
theorem isEmpty_kv {κ : Type} {kvs : List (κ × V)} {vs : List (κ × Value)} (r : KV kvs vs) : (!vs.isEmpty) = !kvs.isEmpty := by
  cases r <;> rfl
theorem isEmpty_of {xs : List V} {its : List Value} (r : Vals xs its) : (!its.toArray.isEmpty) = !xs.isEmpty := by
  cases r <;> simp
theorem line63 : (sizeLine : Nat) < 2 ^ 63 := by rw [sizeLine_eq]; decide
theorem tru_ok : TruR X (fun x H Q => ∃ k, TruV X.K x H k /\ Q k H) := by
  intro pins s σ H x v Q I rx h
  obtain ⟨k, e, q⟩ := h
  have hl := line63
  have hs : sizeLine = 16777216 := sizeLine_eq
  cases x with
  | non =>
    cases rx
    have e' : k = false := e
    subst e'
    exact truthy_none ⟨H, I, q⟩
  | bl b =>
    cases rx
    have e' : k = b := e
    subst e'
    exact wpAny_truthy_bool ⟨H, I, q⟩
  | int i =>
    obtain ⟨t, rfl⟩ := rx
    have e' : k = (i != 0) := e
    subst e'
    exact PySem.P.truthy_int ⟨H, I, q⟩
  | str y =>
    obtain ⟨t, rfl⟩ := rx
    obtain ⟨hy, e'⟩ : y.length <= sizeLine /\ k = ((y.length : Int) != 0) := e
    subst e'
    exact PySem.P.truthy_str (by omega) ⟨H, I.tok _, q⟩
  | byt y =>
    obtain ⟨t, rfl⟩ := rx
    obtain ⟨hy, e'⟩ : y.size <= sizeLine /\ k = ((y.size : Int) != 0) := e
    subst e'
    exact PySem.W.truthy_bytes (by omega) ⟨H, I.tok _, q⟩
  | ref p =>
    cases rx
    have e' : (∃ xs, SqL X.K H p xs /\ k = !xs.isEmpty) ∨ (∃ xs, SqT X.K H p xs /\ k = !xs.isEmpty) ∨ ∃ kvs, H p = some (.dK kvs) /\ k = !kvs.isEmpty := e
    rcases e' with ⟨xs, hx, e'⟩ | ⟨xs, hx, e'⟩ | ⟨kvs, hx, e'⟩
    · subst e'
      obtain ⟨its, r, pl, hz⟩ := I.list hx
      have hlen := r.length
      exact wpAny_truthy_list pl.isList (by simp only [List.size_toArray]; omega) ⟨H, I.tok _, by rw [isEmpty_of r]; exact q⟩
    · subst e'
      obtain ⟨its, r, pl, hz⟩ := I.tuple hx
      have hlen := r.length
      exact truthy_tuple pl (by simp only [List.size_toArray]; omega) ⟨H, I.tok _, by rw [isEmpty_of r]; exact q⟩
    · subst e'
      obtain ⟨hz, hS, vs, r, m⟩ : kvs.length <= sizeLine /\ (p == sysModules) = false /\ ∃ vs, KV kvs vs /\ s.heap.DictOf (mixKind X.prog X.w) p vs := I.hok p _ hx
      have hlen : kvs.length = vs.length := Paired.length r
      exact wpAny_truthy_dict hS m (by omega) ⟨H, I.tok _, by rw [isEmpty_kv r]; exact q⟩
  | _ => exact (show False from e).elim
theorem pt_truth (ha : PE X a ta) (he : ∀ whole, isTrue a X.env whole = (do let v ← whole; standAt a.pos; holding [v] (truthy v))) :
    PT X a (fun σ H Q => ta σ H fun x H' => ∃ k, TruV X.K x H' k /\ Q k H') := by
  intro pins s σ H Q I h
  exact isTrue_plain (thn (ha pins s σ H _ I h) fun v s1 ⟨x, H1, I1, r1, q1⟩ => tru_ok pins s1 σ H1 x v Q I1 r1 q1) (he _)
theorem op_add_str : OpR X (binaryOp .Add) (fun x y H Q => ∃ i j, x = .str i /\ y = .str j /\ i.length + j.length <= sizeLine /\ Q (.str (i ++ j)) H) := by
  intro pins s σ H x y v u Q I rx ry h
  obtain ⟨i, j, rfl, rfl, hz, q⟩ := h
  obtain ⟨t, rfl⟩ := rx
  obtain ⟨t', rfl⟩ := ry
  exact add_str (fun t' tk => ⟨.str (i ++ j), H, I.tok _, ⟨_, rfl⟩, q⟩) hz
theorem vals1 {x : V} {us : List Value} (r : Vals [x] us) : ∃ u, us = [u] /\ RelV x u := by
  cases r with
  | cons r1 r2 => cases r2; exact ⟨_, rfl, r1⟩
theorem vals2 {x y : V} {us : List Value} (r : Vals [x, y] us) : ∃ u w', us = [u, w'] /\ RelV x u /\ RelV y w' := by
  cases r with
  | cons r1 r2 =>
    cases r2 with
    | cons r3 r4 => cases r4; exact ⟨_, _, rfl, r1, r3⟩
theorem call_abs : CallR X (.builtin "abs") (fun xs H Q => ∃ i, xs = [.int i] /\ Q (.int (if i < 0 then -i else i)) H) := by
  intro pins s σ H xs us Q I r h
  obtain ⟨i, rfl, q⟩ := h
  obtain ⟨u, rfl, t, rfl⟩ := vals1 r
  exact call_abs_int fun u tk => ⟨.int (if i < 0 then -i else i), H, I.tok _, ⟨_, rfl⟩, q⟩
theorem call_max2 (hc : X.calm = true) : CallR X (.builtin "max") (fun xs H Q => ∃ i j, xs = [.int i, .int j] /\ Q (.int (if j > i then j else i)) H) := by
  intro pins s σ H xs us Q I r h
  obtain ⟨i, j, rfl, q⟩ := h
  obtain ⟨u, w', rfl, ⟨t, rfl⟩, ⟨t', rfl⟩⟩ := vals2 r
  refine max_two_ints (I.ok.hd hc) fun h' tk k => ⟨_, H, I.kept k, ?_, q⟩
  by_cases hj : j > i
  · rw [if_pos hj, if_pos hj]; exact ⟨_, rfl⟩
  · rw [if_neg hj, if_neg hj]; exact ⟨_, rfl⟩
theorem call_min2 (hc : X.calm = true) : CallR X (.builtin "min") (fun xs H Q => ∃ i j, xs = [.int i, .int j] /\ Q (.int (if j < i then j else i)) H) := by
  intro pins s σ H xs us Q I r h
  obtain ⟨i, j, rfl, q⟩ := h
  obtain ⟨u, w', rfl, ⟨t, rfl⟩, ⟨t', rfl⟩⟩ := vals2 r
  refine min_two_ints (I.ok.hd hc) fun h' tk k => ⟨_, H, I.kept k, ?_, q⟩
  by_cases hj : j < i
  · rw [if_pos hj, if_pos hj]; exact ⟨_, rfl⟩
  · rw [if_neg hj, if_neg hj]; exact ⟨_, rfl⟩
theorem call_int1 : CallR X (.type "int") (fun xs H Q => (∃ i, xs = [.int i] /\ Q (.int i) H) ∨ ∃ k, xs = [.bl k] /\ Q (.int (if k then 1 else 0)) H) := by
  intro pins s σ H xs us Q I r h
  rcases h with ⟨i, rfl, q⟩ | ⟨k, rfl, q⟩
  · obtain ⟨u, rfl, t, rfl⟩ := vals1 r
    exact call_int_int ⟨.int i, H, I, ⟨_, rfl⟩, q⟩
  · obtain ⟨u, rfl, r1⟩ := vals1 r
    cases r1
    exact call_int_bool ⟨.int (if k then 1 else 0), H, I.tok _, ⟨_, rfl⟩, q⟩
end
end L2
namespace L2
open PySem PySem.Spec PyProof.Rows
structure ObjM (h : Heap) (x dx C : Addr) (mA : Str -> Option Value) : Prop where
  obj : h.get? x = some (PySem.W.instObj C dx)
  ns : h.Ns1 dx mA
  ne : dx ≠ x
theorem lookIn_ns {h : Heap} {dx : Addr} {mA : Str -> Option Value} (n : h.Ns1 dx mA) : ∃ od, h.get? dx = some od /\ ∀ name, PySem.W.lookIn name od = some (mA name) := by
  obtain ⟨o, es, ep, ho, hd, hk, _, hm⟩ := n
  refine ⟨o, ho, fun name => ?_⟩
  have e := hm name
  unfold nsFind findBy at e
  rw [← Array.find?_toList] at e
  unfold PySem.W.lookIn
  rw [hd]
  dsimp only
  split
  · rename_i y q
    rw [q] at e
    exact congrArg some e
  · rename_i q
    rw [q] at e
    have a : es.toList.any (·.refKey) = false := by
      rw [List.any_eq_false]
      intro y hy
      obtain ⟨z, t, hkey⟩ := hk y (Array.mem_toList_iff.mp hy)
      simp [DictEntry.refKey, hkey]
    have a' : ¬ es.toList.any (·.refKey) = true := by rw [a]; exact Bool.false_ne_true
    rw [if_neg a']
    exact congrArg some e
theorem ObjM.look {h : Heap} {x dx C : Addr} {mA : Str -> Option Value} (I : ObjM h x dx C mA) : ∃ od, PySem.W.InstAt h x (PySem.W.instObj C dx) C (some od) /\ ∀ name, PySem.W.lookIn name od = some (mA name) :=
  let ⟨od, ho, hl⟩ := lookIn_ns I.ns
  ⟨od, ⟨I.obj, rfl, rfl, ho⟩, hl⟩
section
variable {prog : Program} {w : World} {A : Around} {E : Value -> Shared -> Prop} {s : Shared} {K : PySem.W.Frag} {x dx C f : Addr} {mA : Str -> Option Value} {name : Str} {v : Value}
end
theorem RelO.some_of {v : V} {o : Option Value} (r : RelO (some v) o) : ∃ u, o = some u /\ RelV v u := by
  cases o with
  | none => exact (show False from r).elim
  | some u => exact ⟨u, rfl, r⟩
section
variable {P : Program} {w : World} {H H' : Hp} {h h' : Heap} {a C dx : Addr} {fs fs' : List (Str × V)}
theorem ins_get (hok : HOk P w H h) (e : H a = some (.ins C dx fs)) : ∃ mA, ObjM h a dx C mA /\ (∀ f, RelO (fs.lookup f) (mA f)) /\ PySem.Within mA (fs.map (·.1)) /\ fs.length <= 1000 /\ H dx = some (.own a) := by
  obtain ⟨d, z, ne, ob, mA, n, r, q⟩ := (show ObjOk P w H h a (.ins C dx fs) from hok a _ e)
  exact ⟨mA, ⟨ob, n, ne⟩, r, q, z, d⟩
end
structure Cls (K : PySem.W.Frag) (C : Addr) : Prop where
  pg : PySem.W.plainGet K C Str.empty = true
  hd : PySem.W.hasDictIn K C = true
  po : PySem.W.plainOver K C = true
  sa : PySem.W.findIn K (.ref C) "__setattr__" = some (some (.builtin "object.__setattr__"))
theorem Cls.get {K : PySem.W.Frag} {C : Addr} (c : Cls K C) (f : Str) : PySem.W.plainGet K C f = true := c.pg
section
variable {X : Cx} {pins : List (Addr × Obj)} {σ : St} {H : Hp} {s : Shared} {a C dx : Addr} {fs : List (Str × V)} {f : Str} {v : V} {A : Around} {E : Value -> Shared -> Prop}
end
section
variable {X : Cx} {o e value : Expr} {f : Str} {pos pos' tpos : Pos} {ta tv : TE}
end
section
variable {X : Cx} {pins : List (Addr × Obj)} {σ : St} {H : Hp} {s : Shared} {A : Around} {E : Value -> Shared -> Prop} {Q : Value -> Shared -> Prop} {c : Value} {b : Bool}
inductive TyOf (K : PySem.W.Frag) (H : Hp) : V -> Value -> Prop where
  | non : TyOf K H .non (.type "NoneType")
  | bl (x : Bool) : TyOf K H (.bl x) (.type "bool")
  | int (i : Int) : TyOf K H (.int i) (.type "int")
  | str (x : Str) : TyOf K H (.str x) (.type "str")
  | flt (x : UInt64) : TyOf K H (.flt x) (.type "float")
  | lst {a : Addr} {xs : List V} (e : H a = some (.lst xs)) : TyOf K H (.ref a) (.type "list")
  | frz {a : Addr} {o : Obj} {xs : List V} (e : H a = some (.frz o (.lst xs))) : TyOf K H (.ref a) (.type "list")
  | tup {a : Addr} {xs : List V} (e : H a = some (.tup xs)) : TyOf K H (.ref a) (.type "tuple")
  | dK {a : Addr} {kvs : List (Key × V)} (e : H a = some (.dK kvs)) : TyOf K H (.ref a) (.type "dict")
  | dT {a : Addr} {kvs : List (List Key × V)} (e : H a = some (.dT kvs)) : TyOf K H (.ref a) (.type "dict")
  | ins {a C dx : Addr} {fs : List (Str × V)} (e : H a = some (.ins C dx fs)) (cl : Cls K C) (ha : PySem.W.findIn K (.ref C) "__class__" = some (some (.builtin "object.__class__")))
      (hn : PySem.W.specialIn K (.builtin "object.__class__") "__get__" = some (some (.builtin "getset_descriptor.__get__"))) (htk : PySem.W.takesIn K (.builtin "object.__class__") = some true)
      (hm : PySem.W.mroIn K C (.type "object") = some true) : TyOf K H (.ref a) (.ref C)
theorem isinst_ok {x : V} {u t : Value} (I : Inv X pins σ H s) (rx : RelV x u) (ty : TyOf X.K H x t) (e : PySem.W.kitOne X.K t c = some b) (h : ∀ tk, Q (.bool b) { s with toks := tk }) :
    wpAny (model X.prog X.w) A (call (.builtin "isinstance") [u, c]) Q E s := by
  cases ty with
  | non => cases (show u = Value.none from rx); exact PySem.W.kia_one PySem.W.kitx_none I.kIn True.intro e (fun z => nomatch z) h
  | bl y => cases (show u = Value.bool y from rx); exact PySem.W.kia_one PySem.W.kitx_bool I.kIn True.intro e (fun z => nomatch z) h
  | int i => obtain ⟨t, q⟩ := (show ∃ t, u = Value.int i t from rx); cases q; exact PySem.W.kia_one PySem.W.kitx_int I.kIn True.intro e (fun z => nomatch z) h
  | str y => obtain ⟨t, q⟩ := (show ∃ t, u = Value.str y t from rx); cases q; exact PySem.W.kia_one PySem.W.kitx_str I.kIn True.intro e (fun z => nomatch z) h
  | flt y => obtain ⟨t, q⟩ := (show ∃ t, u = Value.float y t from rx); cases q; exact PySem.W.kia_one PySem.W.kitx_float I.kIn True.intro e (fun z => nomatch z) h
  | @lst a xs ea =>
    cases (show u = Value.ref a from rx)
    obtain ⟨_, _, n, _, h1⟩ := (show ObjOk X.prog X.w H s.heap a (.lst xs) from I.hok a _ ea)
    exact PySem.W.kia_one PySem.W.kitx_list I.kIn ⟨_, h1, rfl⟩ e (fun z => nomatch z) h
  | @frz a ob xs ea =>
    cases (show u = Value.ref a from rx)
    obtain ⟨_, _, _, n, _, h1⟩ := (show ObjOk X.prog X.w H s.heap a (.frz ob (.lst xs)) from I.hok a _ ea)
    exact PySem.W.kia_one PySem.W.kitx_list I.kIn ⟨_, h1, rfl⟩ e (fun z => nomatch z) h
  | @tup a xs ea =>
    cases (show u = Value.ref a from rx)
    obtain ⟨_, _, _, p⟩ := (show ObjOk X.prog X.w H s.heap a (.tup xs) from I.hok a _ ea)
    obtain ⟨o, h1, h2, _⟩ := p
    exact PySem.W.kia_one PySem.W.kitx_tuple I.kIn ⟨o, h1, h2⟩ e (fun z => nomatch z) h
  | @dK a kvs ea =>
    cases (show u = Value.ref a from rx)
    obtain ⟨_, _, vs, _, p⟩ := (show ObjOk X.prog X.w H s.heap a (.dK kvs) from I.hok a _ ea)
    obtain ⟨o, es, ep, h1, h2, _⟩ := p
    exact PySem.W.kia_one PySem.W.kitx_dict I.kIn ⟨o, h1, h2.1⟩ e (fun z => nomatch z) h
  | @dT a kvs ea =>
    cases (show u = Value.ref a from rx)
    obtain ⟨_, _, xs, _, o, es, ep, h1, h2, _⟩ := (show ObjOk X.prog X.w H s.heap a (.dT kvs) from I.hok a _ ea)
    exact PySem.W.kia_one PySem.W.kitx_dict I.kIn ⟨o, h1, h2.1⟩ e (fun z => nomatch z) h
  | @ins a C dx fs ea cl ha hn htk hm =>
    cases (show u = Value.ref a from rx)
    obtain ⟨mA, O, _⟩ := ins_get I.hok ea
    obtain ⟨od, J, _⟩ := O.look
    exact PySem.W.kia_one (PySem.W.kitx_own (cl.get _) cl.hd ha hn htk hm) I.kIn J e (fun z => nomatch z) h
end
end L2
namespace L2
open PySem PySem.Spec PyProof.Rows
structure Room (k : Nat) (A : Around) : Prop where
  hd : A.handled = none
  dp : A.depth + 3 * k + 5 < recursionLimit
  un : A.units + 16 * k + 200 < cLine
theorem Room.mono {j k : Nat} {A : Around} (r : Room k A) (h : j <= k) : Room j A := ⟨r.hd, by have := r.dp; omega, by have := r.un; omega⟩
theorem Room.deeper {k : Nat} {A : Around} (r : Room (k + 1) A) (env : Env) : Room k (A.deeper env) :=
  ⟨r.hd, by have := r.dp; show A.depth + 1 + 3 * k + 5 < _; omega, by have := r.un; show A.units + 3 + 16 * k + 200 < _; omega⟩
theorem Room.depth {k : Nat} {A : Around} (r : Room k A) : A.depth < recursionLimit := by have := r.dp; omega
theorem Room.units {k : Nat} {A : Around} (r : Room k A) : A.units + 64 < cLine := by have := r.un; omega
def tNil : TA := fun _ H Q => Q [] H
def tCons (ta : TE) (tr : TA) : TA := fun σ H Q => ta σ H fun x H1 => tr σ H1 fun xs H2 => Q (x :: xs) H2
section
variable {X : Cx} {e : Expr} {es : List Expr} {te : TE} {t : TA} {pos : Pos}
theorem pa_nil : PA X [] tNil := fun _ _ _ _ H Q I h => Calls.spliced_nil ⟨[], H, I, .nil, h⟩
theorem pa_cons (ha : PE X e te) (hr : PA X es t) (hs : starEach (e :: es) X.env = (false, eval e X.env) :: starEach es X.env := by rfl) : PA X (e :: es) (tCons te t) := by
  intro pos pins s σ H Q I h
  rw [hs]
  show wpAny _ _ (spliced ((false, eval e X.env) :: backTo pos (starEach es X.env))) _ _ s
  refine Calls.spliced_cons (thn (ha pins s σ H _ I h) fun u s1 ⟨x, H1, I1, r1, q1⟩ => ?_)
  exact thn (hr pos pins s1 σ H1 _ I1 q1) fun us s2 ⟨xs, H2, I2, r2, q2⟩ => ⟨x :: xs, H2, I2, .cons r1 r2, q2⟩
def tTup (t : TA) : TE := fun σ H Q => t σ H fun xs H1 => xs.length <= sizeLine /\ ∀ p, H1 p = none -> Q (.ref p) (upd H1 p (.tup xs))
def tLst (t : TA) : TE := fun σ H Q => t σ H fun xs H1 => xs.length <= sizeLine /\ ∀ p, H1 p = none -> Q (.ref p) (upd H1 p (.lst xs))
theorem pe_tup {x1} (h : PA X es t) : PE X (.Tuple es x1 pos) (tTup t) := by
  intro pins s σ H Q I hq
  refine wpAny_Tuple_spliced (thn (h pos pins s σ H _ I hq) fun us s1 ⟨xs, H1, I1, r, z, q⟩ => ⟨by rw [← r.length]; exact z, ?_⟩)
  have hf : H1 s1.heap.objs.size = none := I1.hok.fresh (Nat.le_refl _)
  refine ⟨.ref s1.heap.objs.size, upd H1 s1.heap.objs.size (.tup xs), I1.laid (t' := s1.toks) (fun b u e => Heap.get?_push_of_some _ e) (Nat.le_refl _) ?_, rfl, q _ hf⟩
  exact ⟨z, us, r, ⟨_, Heap.get?_push_size _ rfl, rfl, _, rfl⟩⟩
theorem pe_lst (h : PA X es t) : PE X (.List es pos) (tLst t) := by
  intro pins s σ H Q I hq
  refine wpAny_List_spliced (thn (h pos pins s σ H _ I hq) fun us s1 ⟨xs, H1, I1, r, z, q⟩ => ⟨by rw [← r.length]; exact z, ?_⟩)
  have hf : H1 s1.heap.objs.size = none := I1.hok.fresh (Nat.le_refl _)
  refine ⟨.ref s1.heap.objs.size, upd H1 s1.heap.objs.size (.lst xs), I1.laid (t' := s1.toks) (fun b u e => Heap.get?_push_of_some _ e) (Nat.le_refl _) ?_, rfl, q _ hf⟩
  exact ⟨z, us, 0, r, Heap.get?_push_size _ rfl⟩
end
abbrev Sp := List V -> Hp -> VK -> XK -> Prop
abbrev CXT := List Env -> Hp -> Shared -> XK -> Value -> Shared -> Prop
structure Env0 (P : Program) (w : World) (K : PySem.W.Frag) (mg : Str -> Option Value) (base : Heap) (A : Around) (outer : List Env) (s : Shared) (H : Hp) : Prop where
  frames : A.frames = some outer
  mod : Mod K mg base
  bs : ∀ b o, base.get? b = some o -> s.heap.get? b = some o /\ H b = none
  bsz : base.objs.size <= s.heap.objs.size
  funs : s.heap.FunFrames base outer
  frf : ∀ b ∈ frs outer, H b = none
  hok : HOk P w H s.heap
  bare : AllBare s.gens
def CE (outer : List Env) (P : Program) (w : World) (H : Hp) (s : Shared) (Q : VK) (u : Value) (s' : Shared) : Prop :=
  ∃ v H', s'.os = s.os /\ AllBare s'.gens /\ Un (frs outer) [] H H' s.heap s'.heap /\ HOk P w H' s'.heap /\ RelV v u /\ Q v H'
def CR (CX : CXT) (outer : List Env) (P : Program) (w : World) (H : Hp) (s : Shared) (Q : VK) (E : XK) (r : Result) (s' : Shared) : Prop :=
  match r with
  | .ok (.ret u) => CE outer P w H s Q u s'
  | .ok _ => False
  | .error e => CX outer H s E e s'
structure FnOk (P : Program) (w : World) (K : PySem.W.Frag) (mg : Str -> Option Value) (base : Heap) (CX : CXT) (k : Nat) (f : Addr) (fd : FuncData) (ps : List Str) (sp : Sp) : Prop where
  len : ∀ vs H Q E, sp vs H Q E -> vs.length = ps.length
  run : ∀ (A : Around) (outer : List Env) (s : Shared) (H : Hp) (args : Args) (us : List Value) (vs : List V) (Q : VK) (E : XK), Room k A -> Env0 P w K mg base A outer s H -> BindsTo s fd args (ps.zip us) -> Vals vs us -> sp vs H Q E ->
    codeAny (model P w) A (.call (.ref f) args) (CR CX outer P w H s Q E) s
section
variable {X : Cx} {pins : List (Addr × Obj)} {σ : St} {H : Hp} {s s' : Shared}
theorem Inv.env0 (I : Inv X pins σ H s) : Env0 X.prog X.w X.K X.mg X.base X.A X.stack s H :=
  ⟨I.ok.frames, I.ok.mod, I.bs, Nat.le_trans I.ok.bsz I.sz, I.stack, I.stkFree, I.hok, I.bare⟩
theorem Inv.after {Q : VK} {u : Value} (I : Inv X pins σ H s) (h : CE X.stack X.prog X.w H s Q u s') : EP X pins σ Q u s' := by
  obtain ⟨v, H', os, bare, un, hok, r, q⟩ := h
  obtain ⟨hh, g, d, t, os'⟩ := s'
  obtain rfl : os' = s.os := os
  exact ⟨v, H', I.call (h' := hh) (g' := g) (d' := d) (t' := t) (ch := []) un hok bare (fun b z => absurd z (by simp)), r, q⟩
end
def tCall (sp : Sp) (dvs : List V) (E : XK) (t : TA) : TE := fun σ H Q => t σ H fun vs H1 => sp (vs ++ dvs) H1 Q E
def Binds (K : PySem.W.Frag) (fd : FuncData) (ps : List Str) (ds : List Value) : Prop :=
  ∀ (s : Shared) (us : List Value), K.In s.heap -> (us ++ ds).length = ps.length -> BindsTo s fd ⟨us, []⟩ (ps.zip (us ++ ds))
theorem Binds.all {K : PySem.W.Frag} {fd : FuncData} {ps : List Str} (h : ∀ us : List Value, us.length = ps.length -> bindArgs fd ⟨us, []⟩ = pure (ps.zip us)) : Binds K fd ps [] := fun s us _ hl => by
  rw [List.append_nil] at hl ⊢
  exact .of_eq (h us hl)
def Passes (CX : CXT) (X : Cx) (E : XK) : Prop := ∀ (pins : List (Addr × Obj)) (σ : St) (H : Hp) (s : Shared) (e : Value) (s' : Shared), Inv X pins σ H s -> CX X.stack H s E e s' -> X.xe e s'
section
variable {X : Cx} {CX : CXT} {k : Nat} {f C : Addr} {fd : FuncData} {ps : List Str} {sp : Sp} {dvs : List V} {ds : List Value} {E : XK} {x m : Str} {p pos apos : Pos} {e o : Expr} {es : List Expr} {ta : TE} {t : TA}
theorem run_fn {pins : List (Addr × Obj)} {σ : St} {H : Hp} {s : Shared} {Q : VK} {us : List Value} {vs : List V} (F : FnOk X.prog X.w X.K X.mg X.base CX k f fd ps sp) (hr : Room k X.A) (hb : Binds X.K fd ps ds) (hd : Vals dvs ds) (hx : Passes CX X E)
    (I : Inv X pins σ H s) (r : Vals vs us) (h : sp (vs ++ dvs) H Q E) : wpAny (model X.prog X.w) X.A (call (.ref f) us) (EP X pins σ Q) X.xe s := by
  have r2 : Vals (vs ++ dvs) (us ++ ds) := r.append hd
  have hl : (us ++ ds).length = ps.length := by rw [← r2.length]; exact F.len _ _ _ _ h
  refine wpAny_call (codeAny_mono (F.run X.A X.stack s H ⟨us, []⟩ (us ++ ds) (vs ++ dvs) Q E hr I.env0 (hb s us I.kIn hl) r2 h) fun r s' hq => ?_)
  cases r with
  | error e => exact hx pins σ H s e s' I hq
  | ok fl =>
    cases fl with
    | ret u => exact I.after hq
    | next => exact False.elim hq
    | brk => exact False.elim hq
    | cont => exact False.elim hq
theorem pe_call (F : FnOk X.prog X.w X.K X.mg X.base CX k f fd ps sp) (hr : Room k X.A) (hg : Gl X x) (hm : X.mg x = some (.ref f)) (hk : PySem.W.keepIn X.K (.ref f) = true) (hb : Binds X.K fd ps ds) (hd : Vals dvs ds) (hx : Passes CX X E)
    (ha : PA X (e :: es) t) (hdb : (x == ("__debug__" : Str)) = false := by decide) (he : starEach (e :: es) X.env = (false, eval e X.env) :: starEach es X.env := by rfl) (hpl : (backTo pos (starEach es X.env)).any (·.1) = false := by rfl) :
    PE X (.Call (.Name x p) (e :: es) [] pos) (tCall sp dvs E t) := by
  intro pins s σ H Q I h
  refine wpAny_Call_Name_kw (ld_glob I hg hm ?_ hdb)
  refine PySem.W.callWith_K (h₀ := X.base) I.ok.mod.kin hk (thn (ha pos pins s σ H _ I h) fun us s1 ⟨vs, H1, I1, r, q⟩ => ⟨I1.kIn, ?_⟩) he hpl
  exact run_fn F hr hb hd hx I1 r q
end
section
variable {X : Cx} {CX : CXT} {k : Nat} {f C : Addr} {fd : FuncData} {ps ks : List Str} {sp : Sp} {E : XK} {x m : Str} {p pos apos kpos : Pos} {e o : Expr} {es : List Expr} {kws : List Keyword} {te ta : TE} {t tk : TA} {nm : Option Str}
variable {g : List Value -> List Value -> List Value} {gV : List V -> List V -> List V}
end
structure FnScope (N P : List Str) (sc : Scope) : Prop where
  kind : sc.kind = .function
  co : sc.isCoroutine = false
  gen : sc.isGenerator = false
  nd : N.Nodup
  pre : N.take P.length = P
  par : ∀ x ∈ P, sc.names.lookup x = some .local ∨ sc.names.lookup x = some .cell
  nofree : ∀ y ∈ sc.names, y.2 ≠ .free
theorem bindL_out {kindOf : Str -> Option NameKind} {x : Str} : ∀ {binds : List (Str × Value)} {m : Str -> Option Value}, (∀ v, (x, v) ∉ binds) -> bindL kindOf binds m x = m x
  | [], _, _ => rfl
  | (n, v) :: r, m, h => by
    unfold bindL
    rw [bindL_out fun w hw => h w (List.mem_cons_of_mem _ hw)]
    split
    · have : x ≠ n := by rintro rfl; exact h v List.mem_cons_self
      simp [this]
    · rfl
theorem bindC_out {kindOf : Str -> Option NameKind} {x : Str} : ∀ {binds : List (Str × Value)} {m : Str -> Option Value}, (∀ v, (x, v) ∉ binds) -> bindC kindOf binds m x = m x
  | [], _, _ => rfl
  | (n, v) :: r, m, h => by
    unfold bindC
    rw [bindC_out fun w hw => h w (List.mem_cons_of_mem _ hw)]
    split
    · rfl
    · have : x ≠ n := by rintro rfl; exact h v List.mem_cons_self
      simp [this]
theorem bindL_get {kindOf : Str -> Option NameKind} {x : Str} {v : Value} : ∀ {P : List Str} {vs : List Value} {i : Nat} {m : Str -> Option Value}, P.Nodup -> P[i]? = some x -> vs[i]? = some v -> kindOf x = some .local ->
    bindL kindOf (P.zip vs) m x = some v
  | [], _, _, _, _, h, _, _ => by simp at h
  | _ :: _, [], _, _, _, _, h, _ => by simp at h
  | p :: P, w :: vs, 0, m, nd, h1, h2, hk => by
    simp at h1 h2; subst h1; subst h2
    show bindL kindOf ((p, w) :: P.zip vs) m p = _
    unfold bindL
    rw [bindL_out fun v hv => (List.nodup_cons.mp nd).1 (List.of_mem_zip hv).1, if_pos hk]
    simp
  | p :: P, w :: vs, i + 1, m, nd, h1, h2, hk => by
    show bindL kindOf ((p, w) :: P.zip vs) m x = _
    unfold bindL
    exact bindL_get (i := i) (List.nodup_cons.mp nd).2 (by simpa using h1) (by simpa using h2) hk
theorem bindC_get {kindOf : Str -> Option NameKind} {x : Str} {v : Value} : ∀ {P : List Str} {vs : List Value} {i : Nat} {m : Str -> Option Value}, P.Nodup -> P[i]? = some x -> vs[i]? = some v -> kindOf x ≠ some .local ->
    bindC kindOf (P.zip vs) m x = some v
  | [], _, _, _, _, h, _, _ => by simp at h
  | _ :: _, [], _, _, _, _, h, _ => by simp at h
  | p :: P, w :: vs, 0, m, nd, h1, h2, hk => by
    simp at h1 h2; subst h1; subst h2
    show bindC kindOf ((p, w) :: P.zip vs) m p = _
    unfold bindC
    rw [bindC_out fun v hv => (List.nodup_cons.mp nd).1 (List.of_mem_zip hv).1, if_neg hk]
    simp
  | p :: P, w :: vs, i + 1, m, nd, h1, h2, hk => by
    show bindC kindOf ((p, w) :: P.zip vs) m x = _
    unfold bindC
    exact bindC_get (i := i) (List.nodup_cons.mp nd).2 (by simpa using h1) (by simpa using h2) hk
def start (N : List Str) (vs : List V) : St := vs.map some ++ List.replicate (N.length - vs.length) none
def cxOf (CX : CXT) (P : Program) (w : World) (K : PySem.W.Frag) (mg : Str -> Option Value) (base : Heap) (N : List Str) (qual : Str) (scope : Scope) (f : Addr) (cd : Value) (A : Around) (outer : List Env) (s : Shared) (H : Hp) (E : XK) : Cx where
  prog := P
  w := w
  K := K
  mg := mg
  base := base
  A := A.deeper (envOfC qual scope s.heap.objs.size f cd)
  N := N
  s₀ := s
  H₀ := H
  env := envOfC qual scope s.heap.objs.size f cd
  outer := outer
  stack := envOfC qual scope s.heap.objs.size f cd :: outer
  ex := []
  calm := true
  fn := fun _ => true
  pn := []
  xe := fun e s' => wpAny (model P w) (A.deeper (envOfC qual scope s.heap.objs.size f cd)) (leaving (envOfC qual scope s.heap.objs.size f cd) e) (fun _ s'' => CX outer H s E e s'') (fun e' s'' => CX outer H s E e' s'') s'
theorem cell_has {sc : Scope} {n : Nat} {x : Str} (h : sc.names.lookup x = some .cell) : ∃ c, (cellsFrom n sc.names []).lookup x = some c := by
  have q := PySem.W.cellsFrom_some sc.names n [] (.inl h)
  exact Option.isSome_iff_exists.mp q
theorem inv_start {CX : CXT} {P : Program} {w : World} {K : PySem.W.Frag} {mg : Str -> Option Value} {base : Heap} {N ps : List Str} {qual : Str} {scope : Scope} {f : Addr} {cd : Value} {A : Around} {outer : List Env} {s s1 : Shared} {H : Hp} {E : XK} {us : List Value} {vs : List V}
    (S : FnScope N ps scope) (hd : A.handled = none) (e0 : Env0 P w K mg base A outer s H) (hl : vs.length = ps.length) (r : Vals vs us)
    (x : InCallC s s.heap.objs.size (bindL (envOfC qual scope s.heap.objs.size f cd).kindOf (ps.zip us) fun _ => none) (cellsFrom (s.heap.objs.size + 1) scope.names []) (bindC (envOfC qual scope s.heap.objs.size f cd).kindOf (ps.zip us) fun _ => none) s1) :
    Inv (cxOf CX P w K mg base N qual scope f cd A outer s H E) [] (start N vs) H s1 := by
  have hpl : ps.length <= N.length := by have := congrArg List.length S.pre; rw [List.length_take] at this; omega
  obtain ⟨h1, tk, rfl, hk⟩ := x.done
  have noA : ∀ b : Addr, b ∉ (cxOf CX P w K mg base N qual scope f cd A outer s H E).ex := fun b z => absurd (show b ∈ ([] : List Addr) from z) (by simp)
  refine ⟨⟨e0.mod, S.kind, rfl, rfl, Nat.le_refl _, fun y z c h1 h2 => ?_, fun y hy => ?_, fun y c _ h => ?_, fun _ => hd, Around.frames_deeper e0.frames, .inr ⟨rfl, rfl⟩, fun b z => absurd z (noA b), e0.bs, e0.bsz, fun b _ _ => noA b, fun b z => absurd z (noA b), e0.funs, e0.frf⟩,
    rfl, e0.bare, Un.kept hk, ⟨_, x.toInCall.ns, fun i y v h1 h2 h3 => ?_⟩, fun y c h => ⟨_, x.cell y c h⟩, e0.hok.fresh (Nat.le_refl _), fun y c h => ?_, fun p hp => absurd (show p ∈ ([] : List (Addr × Obj)) from hp) (by simp), e0.hok.kept hk, ?_⟩
  · exact name_of_addr x.apart (PySem.mem_of_lookup h1) (PySem.mem_of_lookup h2)
  · have hy : scope.names.lookup y = some .cell ∨ scope.names.lookup y = some .free := hy
    rcases hy with hy | hy
    · exact cell_has hy
    · exact absurd rfl (S.nofree _ (PySem.mem_of_lookup hy))
  · exact Nat.le_of_lt (x.above y c (PySem.mem_of_lookup h))
  · have hi : i < vs.length := by
      unfold start at h2
      by_cases hi : i < vs.length
      · exact hi
      · rw [List.getElem?_append_right (by simpa using hi)] at h2
        rw [List.getElem?_replicate] at h2
        split at h2 <;> cases h2
    have ha : vs[i]? = some v := by
      unfold start at h2
      rw [List.getElem?_append_left (by simpa using hi), List.getElem?_map] at h2
      cases e : vs[i]? with
      | none => rw [e] at h2; cases h2
      | some a => rw [e] at h2; cases h2; rfl
    obtain ⟨u, hu, rv⟩ := r.get ha
    have hp : ps[i]? = some y := by
      rw [← S.pre, List.getElem?_take_of_lt (by omega)]; exact h1
    have ndP : ps.Nodup := by rw [← S.pre]; exact S.nd.sublist (List.take_sublist _ _)
    refine ⟨u, rv, ?_⟩
    rcases S.par y (List.mem_of_getElem? hp) with k | k
    · exact .inl ⟨k, bindL_get ndP hp hu k⟩
    · obtain ⟨c, e⟩ := cell_has (n := s.heap.objs.size + 1) k
      refine .inr ⟨.inl k, c, e, ?_⟩
      have q := x.cell y c e
      rw [bindC_get ndP hp hu (by show scope.names.lookup y ≠ _; rw [k]; decide)] at q
      exact q
  · exact e0.hok.fresh (Nat.le_of_lt (x.above y c (PySem.mem_of_lookup h)))
  · unfold start
    show _ = N.length
    rw [List.length_append, List.length_map, List.length_replicate]
    omega
theorem fn_of {CX : CXT} {P : Program} {w : World} {K : PySem.W.Frag} {mg : Str -> Option Value} {base : Heap} {k : Nat} {f : Addr} {name qual : Str} {params : Arguments} {body : List Stmt} {scope : Scope} {dV kV doc pm cdv ct oc : Value} {an od : Option Addr}
    {osl : Array (Option Value)} {N ps : List Str} {sp : Sp} (lk : K.lookup f = some ⟨oc, od, .func (PySem.W.fnOf name qual params body scope dV kV doc pm an cdv ct), osl⟩) (hcd : PySem.W.codeIn K cdv qual = true) (S : FnScope N ps scope)
    (len : ∀ vs H Q E, sp vs H Q E -> vs.length = ps.length)
    (hbody : ∀ (A : Around) (outer : List Env) (s : Shared) (H : Hp) (vs : List V) (Q : VK) (E : XK), Room k (A.deeper (envOfC qual scope s.heap.objs.size f cdv)) -> sp vs H Q E ->
      ∃ t, PSs (cxOf CX P w K mg base N qual scope f cdv A outer s H E) body t /\ t { nx := fun _ H' => Q .non H', rt := Q } (start N vs) H) :
    FnOk P w K mg base CX (k + 1) f (PySem.W.fnOf name qual params body scope dV kV doc pm an cdv ct) ps sp := by
  refine ⟨len, fun A outer s H args us vs Q E hr e0 hb r hsp => ?_⟩
  have hl := len _ _ _ _ hsp
  have KX : K.In s.heap := e0.mod.kin.keeps fun b o e => (e0.bs b o e).1
  have lim : s.heap.NoLimit := e0.mod.nolimit.keeps fun b o e => (e0.bs b o e).1
  have hkind : ∀ y ∈ ps.zip us, scope.names.lookup y.1 = some .local ∨ (scope.names.lookup y.1 = some .cell /\ ((cellsFrom (s.heap.objs.size + 1) scope.names []).lookup y.1).isSome = true) := fun ⟨n, v⟩ hy => by
    rcases S.par n (List.of_mem_zip hy).1 with q | q
    · exact .inl q
    · exact .inr ⟨q, PySem.W.cellsFrom_some _ _ _ (.inl q)⟩
  refine codeAny_call_function hr.depth (KX _ _ lk) rfl S.co S.gen rfl (PySem.W.codeRec_of KX hcd) (hb _ _ _ _ ?_)
  refine wpAny_newFunctionEnv_cells S.kind hkind fun env he s1 x => ?_
  subst he
  refine ⟨lim.keeps x.toInCall.keep, codeAny_func ?_⟩
  obtain ⟨t, ht, hq⟩ := hbody A outer s H vs Q E (hr.deeper _) hsp
  have I : Inv (cxOf CX P w K mg base N qual scope f cdv A outer s H E) [] (start N vs) H s1 := inv_start S hr.hd e0 hl r x
  refine wpAny_mono (ht [] s1 (start N vs) H _ I hq) (fun fl s' hs => ?_) fun e s' hs => hs
  have fin : ∀ {σ' : St} {H' : Hp} {v : V} {u : Value}, Inv (cxOf CX P w K mg base N qual scope f cdv A outer s H E) [] σ' H' s' -> RelV v u -> Q v H' -> CE outer P w H s Q u s' :=
    fun {σ' H' v u} J rv q => ⟨v, H', J.os, J.bare, J.base, J.hok, rv, q⟩
  cases fl with
  | ret u =>
    obtain ⟨v, σ', H', J, rv, q⟩ := hs
    exact fin J rv q
  | next =>
    obtain ⟨σ', H', J, q⟩ := hs
    exact fin (v := V.non) (u := Value.none) J rfl q
  | brk =>
    obtain ⟨_, _, _, q⟩ := hs
    exact False.elim q
  | cont =>
    obtain ⟨_, _, _, q⟩ := hs
    exact False.elim q
end L2
namespace L2
open PySem PySem.Spec PyProof.Rows
section
variable {X : Cx} {x : Str} {p pos : Pos} {e : Expr} {es : List Expr} {t : TA} {id T : String} {r : List V -> Hp -> VK -> Prop}
def tCB (r : List V -> Hp -> VK -> Prop) (t : TA) : TE := fun σ H Q => t σ H fun vs H1 => r vs H1 Q
theorem pe_callB (hc : CallR X (.builtin id) r) (hg : Gl X x) (hm : X.mg x = none) (hv : bootBuiltins x = some (.builtin id)) (ha : PA X (e :: es) t) (hn : x ≠ "__name__" := by decide) (hdb : (x == ("__debug__" : Str)) = false := by decide)
    (he : starEach (e :: es) X.env = (false, eval e X.env) :: starEach es X.env := by rfl) (hpl : (backTo pos (starEach es X.env)).any (·.1) = false := by rfl) : PE X (.Call (.Name x p) (e :: es) [] pos) (tCB r t) := by
  intro pins s σ H Q I h
  refine wpAny_Call_Name_kw (ld_blt I hg hm hv ?_ hn hdb)
  exact PyProof.Rows.callWith_builtin1 (thn (ha pos pins s σ H _ I h) fun us s1 ⟨vs, H1, I1, r1, q1⟩ => hc pins s1 σ H1 vs us Q I1 r1 q1) he hpl
theorem pe_callTy (hc : CallR X (.type T) r) (hg : Gl X x) (hm : X.mg x = none) (hv : bootBuiltins x = some (.type T)) (ha : PA X (e :: es) t) (hn : x ≠ "__name__" := by decide) (hdb : (x == ("__debug__" : Str)) = false := by decide)
    (he : starEach (e :: es) X.env = (false, eval e X.env) :: starEach es X.env := by rfl) (hpl : (backTo pos (starEach es X.env)).any (·.1) = false := by rfl) : PE X (.Call (.Name x p) (e :: es) [] pos) (tCB r t) := by
  intro pins s σ H Q I h
  refine wpAny_Call_Name_kw (ld_blt I hg hm hv ?_ hn hdb)
  exact PyProof.Rows.callWith_type1 (thn (ha pos pins s σ H _ I h) fun us s1 ⟨vs, H1, I1, r1, q1⟩ => hc pins s1 σ H1 vs us Q I1 r1 q1) he hpl
end
end L2
namespace HT
open PySem PyProof.Rows
section
open PySem.SeqAt
open PySem.AutoSeq1 (wpAny_loadPart')
open PySem.MeetsSeq PySem.MeetsSeq2 PySem.MeetsSeq3
end
section
variable {prog : Program} {w : World} {A : Around} {E : Value -> Shared -> Prop} {s : Shared}
theorem cat_tup {t b : Addr} {vs ws : List Value} {Q : Value -> Shared -> Prop} (ht : IsTup s.heap t vs.toArray) (hb : IsTup s.heap b ws.toArray) (hv : vs ≠ [])
    (h1 : ws = [] -> Q (.ref t) s) (h2 : ws ≠ [] -> Q (.ref s.heap.objs.size) { s with heap := s.heap.push { cls := .type "tuple", data := .seq (vs ++ ws).toArray } })
    (hsz : vs.length + ws.length <= sizeLine) : wpAny (model prog w) A (binaryOp .Add (.ref t) (.ref b)) Q E s := by
  obtain ⟨⟨cls, dd, data, sl⟩, ho, hc, n, hd⟩ := id ht
  obtain ⟨⟨cls2, dd2, data2, sl2⟩, ho2, hc2, n2, hd2⟩ := id hb
  simp only at hc hd hc2 hd2
  subst hc hd hc2 hd2
  have e : vs.toArray ++ ws.toArray = (vs ++ ws).toArray := by simp
  by_cases hw : ws = []
  · exact concat_meets ⟨_, ho, rfl⟩ ⟨_, ho2, rfl⟩ noFill_tuple_add seq_tuple_add PySem.F.slot_tuple_add PySem.F.entry_tuple_add (PySem.F.args_tuple_add_2 _ _)
      (tuple_addW1 t b vs.toArray ws.toArray n n2 dd dd2 sl sl2 (by simpa using hv) (by simp [hw])) ⟨ho, ho2, h1 hw⟩
  · refine concat_meets ⟨_, ho, rfl⟩ ⟨_, ho2, rfl⟩ noFill_tuple_add seq_tuple_add PySem.F.slot_tuple_add PySem.F.entry_tuple_add (PySem.F.args_tuple_add_2 _ _)
      (tuple_addW2 t b vs.toArray ws.toArray n n2 dd dd2 sl sl2 (by simpa using hv) (by simpa using hw) (by rw [List.size_toArray, List.size_toArray]; exact hsz)) ⟨ho, ho2, ?_⟩
    rw [e]
    exact h2 hw
def sIx (n d : Nat) : Option Int -> Nat
  | none => d
  | some v => if v < 0 then (v + (n : Int)).toNat else min v.toNat n
theorem sIx_le (n d : Nat) (hd : d <= n) (o : Option Int) : sIx n d o <= n := by
  cases o with
  | none => exact hd
  | some v =>
    show (if v < 0 then (v + (n : Int)).toNat else min v.toNat n) <= n
    by_cases hv : v < 0
    · rw [if_pos hv]; omega
    · rw [if_neg hv]; exact Nat.min_le_right _ _
theorem clip_eq (v : Int) (n d : Nat) : (if v < 0 then max (v + (n : Int)) 0 else min v (n : Int)) = ((sIx n d (some v) : Nat) : Int) := by
  show (if v < 0 then max (v + (n : Int)) 0 else min v (n : Int)) = (((if v < 0 then (v + (n : Int)).toNat else min v.toNat n) : Nat) : Int)
  by_cases hv : v < 0
  · simp only [if_pos hv]; omega
  · simp only [if_neg hv]; omega
theorem adjust_gen (lo hi : Option Int) (n : Nat) : Builtin.Slice.sliceAdjust lo hi 1 (n : Int) = (((sIx n 0 lo : Nat) : Int), ((sIx n n hi : Nat) : Int)) := by
  have h1 : ¬ ((1 : Int) < 0) := by omega
  unfold Builtin.Slice.sliceAdjust
  simp only [h1, if_false]
  refine Prod.ext ?_ ?_
  · cases lo with
    | none => rfl
    | some v => exact clip_eq v n 0
  · cases hi with
    | none => rfl
    | some v => exact clip_eq v n n
theorem places_gen (i j : Nat) : Builtin.Slice.slicePlaces (i : Int) (j : Int) 1 = j - i := by
  unfold Builtin.Slice.slicePlaces
  have h1 : (1 : Int) > 0 := by omega
  simp only [h1, if_true, Int.ediv_one]
  split <;> omega
theorem slicePart_ {v : Value} {o : Option Int} {Q : Option Int -> Shared -> Prop} (p : IsPart v o) (h : Q o s) : wpAny (model prog w) A (Builtin.Slice.slicePartIndex v) Q E s := by
  cases p with
  | none => exact slicePart_none h
  | int i t => exact slicePart_int h
theorem sliceApplied_gen {sl : Addr} {vl vu : Value} {lo hi : Option Int} {n : Nat} {Q : Int × Int × Nat -> Shared -> Prop} (hs : s.heap.IsSliceOf sl vl vu .none) (pl : IsPart vl lo) (pu : IsPart vu hi)
    (h : Q (((sIx n 0 lo : Nat) : Int), 1, sIx n n hi - sIx n 0 lo) s) : wpAny (model prog w) A (Builtin.Slice.sliceApplied (.ref sl) (pure (n : Int))) Q E s := by
  obtain ⟨os, hos, hcs, hds⟩ := id hs
  unfold Builtin.Slice.sliceApplied Builtin.Slice.sliceFields
  refine wpAny_bind (wpAny_bind (wpAny_field hos hds (x := vl) rfl (wpAny_bind (wpAny_field hos hds (x := vu) rfl (wpAny_bind (wpAny_field hos hds (x := .none) rfl (wpAny_pure ?_)))))))
  refine wpAny_bind (slicePart_none ?_)
  show wpAny _ _ (if ((1 : Int) == 0) = true then _ else _) _ _ s
  rw [if_neg (by decide)]
  refine wpAny_bind (slicePart_ pl (wpAny_bind (slicePart_ pu (wpAny_bind (wpAny_pure ?_)))))
  show wpAny _ _ (match Builtin.Slice.sliceAdjust lo hi 1 (n : Int) with | (lo, hi) => pure (lo, (1 : Int), Builtin.Slice.slicePlaces lo hi 1)) _ _ s
  rw [adjust_gen lo hi n]
  show wpAny _ _ (pure (((sIx n 0 lo : Nat) : Int), (1 : Int), Builtin.Slice.slicePlaces ((sIx n 0 lo : Nat) : Int) ((sIx n n hi : Nat) : Int) 1)) _ _ s
  rw [places_gen]
  exact wpAny_pure h
theorem pick_gen (xs : Array Value) (i k : Nat) : ((List.range k).filterMap fun (m : Nat) => xs[((i : Int) + (m : Int) * 1).toNat]?).toArray = ((xs.toList.drop i).take k).toArray := by
  have e : (fun (m : Nat) => xs[((i : Int) + (m : Int) * 1).toNat]?) = fun m => xs[i + m]? := by
    funext m
    have : ((i : Int) + (m : Int) * 1).toNat = i + m := by omega
    rw [this]
  rw [e]
  have := pick_run xs i k
  rw [List.filterMap_map] at this
  have e2 : ((fun x => xs[x]?) ∘ fun x => i + x) = fun m => xs[i + m]? := rfl
  rw [e2] at this
  rw [this]
theorem getItem_tuple_cut {t sl : Addr} {items : Array Value} {vl vu : Value} {lo hi : Option Int} {Q : Value -> Shared -> Prop} (ht : IsTup s.heap t items) (hs : s.heap.IsSliceOf sl vl vu .none) (pl : IsPart vl lo) (pu : IsPart vu hi)
    (hw : ¬ (sIx items.size 0 lo = 0 /\ sIx items.size items.size hi = items.size))
    (h : Q (.ref s.heap.objs.size) { s with heap := s.heap.push { cls := .type "tuple", data := .seq ((items.toList.drop (sIx items.size 0 lo)).take (sIx items.size items.size hi - sIx items.size 0 lo)).toArray } })
    (hsz : items.size <= sizeLine) : wpAny (model prog w) A (getItem (.ref t) (.ref sl)) Q E s := by
  have htake : sizeOk (.seq ((items.toList.drop (sIx items.size 0 lo)).take (sIx items.size items.size hi - sIx items.size 0 lo)).toArray) := by
    show ((items.toList.drop (sIx items.size 0 lo)).take (sIx items.size items.size hi - sIx items.size 0 lo)).toArray.size <= sizeLine
    rw [List.size_toArray, List.length_take, List.length_drop, Array.length_toList]
    omega
  have hj : sIx items.size items.size hi <= items.size := sIx_le _ _ (Nat.le_refl _) hi
  obtain ⟨os, hos, hcs, hds⟩ := id hs
  have hTs : s.TypeIs (.ref sl) "slice" := ⟨os, hos, hcs⟩
  unfold getItem
  try with_reducible refine wpAny_holding ?_
  first | refine wpAny_bind (wpAny_pure ?_) | skip
  refine wpAny_bind (wpAny_sequenceKey ht.typeIs (by decide) ?_)
  refine wpAny_bind (wpAny_callSpecial?_slot (name := Str.ofString "__getitem__") ht.typeIs PyProof.Rows.slot_tuple_getitem
    (wpAny_call_entry PyProof.Rows.slot_tuple_getitem ht.typeIs entry_tuple_getitem ?_ (args_tuple_getitem _ _)))
  show wpAny _ _ (Builtin.Tuple.tupleItemsOf (.ref t) >>= _) _ _ s
  refine wpAny_bind (tupleItemsOf_ ht ?_)
  refine wpAny_bind (wpAny_typeOf hTs ?_)
  rw [if_pos (by decide)]
  refine wpAny_bind (sliceApplied_gen hs pl pu ?_)
  have hno : ¬ ((((sIx items.size 0 lo : Nat) : Int) == 0 && (1 : Int) == 1 && (sIx items.size items.size hi - sIx items.size 0 lo) == items.size) = true) := by
    intro q
    rw [Bool.and_eq_true, Bool.and_eq_true] at q
    have q1 : ((sIx items.size 0 lo : Nat) : Int) = 0 := eq_of_beq q.1.1
    have q2 : sIx items.size items.size hi - sIx items.size 0 lo = items.size := eq_of_beq q.2
    exact hw ⟨by omega, by omega⟩
  show wpAny _ _ (if (((sIx items.size 0 lo : Nat) : Int) == 0 && (1 : Int) == 1 && (sIx items.size items.size hi - sIx items.size 0 lo) == items.size) = true then _ else _) _ _ s
  rw [if_neg hno, pick_gen]
  first
    | exact wpAny_bind (m := Builtin.Tuple.tupleExact _) (wpAny_newObj_type (wpAny_pure ⟨_, rfl, wpAny_pure h⟩) htake)
    | exact wpAny_bind (m := Builtin.Tuple.tupleExact _) (wpAny_newObj_type (wpAny_bind (wpAny_pure (wpAny_pure ⟨_, rfl, wpAny_pure h⟩))) htake)
    | exact wpAny_bind (wpAny_bind (m := Builtin.Tuple.tupleExact _) (wpAny_newObj_type (wpAny_pure (wpAny_pure ⟨_, rfl, wpAny_pure h⟩)) htake))
    | exact wpAny_bind (wpAny_bind (m := Builtin.Tuple.tupleExact _) (wpAny_newObj_type (wpAny_pure ⟨_, rfl, wpAny_pure h⟩) htake))
end
end HT
namespace L2
open PySem PySem.Spec PyProof.Rows
abbrev TO := St -> Hp -> (Option Int -> Hp -> Prop) -> Prop
def PO (X : Cx) (e : Option Expr) (t : TO) : Prop :=
  ∀ (pins : List (Addr × Obj)) (s : Shared) (σ : St) (H : Hp) (Q : Option Int -> Hp -> Prop), Inv X pins σ H s -> t σ H Q ->
    wpAny (model X.prog X.w) X.A (evalPart e X.env) (fun u s' => ∃ o H', Inv X pins σ H' s' /\ IsPart u o /\ Q o H') X.xe s
def tNoPart : TO := fun _ H Q => Q none H
def tPart (t : TE) : TO := fun σ H Q => t σ H fun x H1 => ∃ i, x = .int i /\ Q (some i) H1
section
variable {X : Cx} {e : Expr} {te : TE} {lo hi : Option Expr} {tl th : TO} {pos p2 : Pos}
theorem po_none : PO X none tNoPart := by
  intro pins s σ H Q I h
  rw [evalPart_none]
  exact wpAny_pure ⟨none, H, I, .none, h⟩
theorem po_some (h : PE X e te) : PO X (some e) (tPart te) := by
  intro pins s σ H Q I hw
  rw [evalPart_some]
  refine thn (h pins s σ H _ I hw) fun u s1 ⟨x, H1, I1, r1, q1⟩ => ?_
  obtain ⟨i, rfl, q⟩ := q1
  obtain ⟨t, rfl⟩ := r1
  exact ⟨some i, H1, I1, .int i t, q⟩
def SlR (X : Cx) (r : V -> Option Int -> Option Int -> Hp -> VK -> Prop) : Prop :=
  ∀ (pins : List (Addr × Obj)) (s : Shared) (σ : St) (H : Hp) (x : V) (v vl vu : Value) (lo hi : Option Int) (sl : Addr) (Q : VK), Inv X pins σ H s -> RelV x v -> s.heap.IsSliceOf sl vl vu .none -> IsPart vl lo -> IsPart vu hi -> r x lo hi H Q ->
    ∃ T id, typeLookup (.type T) "__getitem__" = pure (some (.builtin id)) /\ s.TypeIs v T /\ wpAny (model X.prog X.w) X.A (getItem v (.ref sl)) (EP X pins σ Q) X.xe s
def tSl (r : V -> Option Int -> Option Int -> Hp -> VK -> Prop) (te : TE) (tl th : TO) : TE := fun σ H Q => te σ H fun x H1 => tl σ H1 fun l H2 => th σ H2 fun u H3 => r x l u H3 Q
theorem pe_slice {r : V -> Option Int -> Option Int -> Hp -> VK -> Prop} (hr : SlR X r) (he : PE X e te) (hl : PO X lo tl) (hu : PO X hi th) : PE X (.Subscript e (.Slice lo hi none p2) pos) (tSl r te tl th) := by
  intro pins s σ H Q I h
  refine Subscript_ (thn (he pins s σ H _ I h) fun v s1 ⟨x, H1, I1, r1, q1⟩ => ?_)
  refine wpAny_Slice (thn (hl pins s1 σ H1 _ I1 q1) fun vl s2 ⟨l, H2, I2, pl, q2⟩ => thn (hu pins s2 σ H2 _ I2 q2) fun vu s3 ⟨u, H3, I3, pu, q3⟩ => ?_)
  rw [evalPart_none]
  refine wpAny_pure ?_
  have I4 : Inv X pins σ H3 { s3 with heap := s3.heap.push { cls := .type "slice", data := .fields #[vl, vu, .none] } } := I3.kept (t' := s3.toks) fun b ob q => Heap.get?_push_of_some _ q
  obtain ⟨T, id, hT, ht, hg⟩ := hr pins { s3 with heap := s3.heap.push { cls := .type "slice", data := .fields #[vl, vu, .none] } } σ H3 x v vl vu l u s3.heap.objs.size Q I4 r1 (Heap.IsSliceOf.new ..) pl pu q3
  show wpAny (model X.prog X.w) X.A (subscriptTail e (.Slice lo hi none p2) v (.ref s3.heap.objs.size)) (EP X pins σ Q) X.xe { s3 with heap := s3.heap.push { cls := .type "slice", data := .fields #[vl, vu, .none] } }
  exact tail_any (ops := [.ref s3.heap.objs.size, v]) ht hT hg (by with_unfolding_all rfl)
def cutV (xs : List V) (lo hi : Option Int) : List V := (xs.drop (HT.sIx xs.length 0 lo)).take (HT.sIx xs.length xs.length hi - HT.sIx xs.length 0 lo)
theorem cutV_length (xs : List V) (lo hi : Option Int) : (cutV xs lo hi).length <= xs.length := by
  unfold cutV
  rw [List.length_take, List.length_drop]
  omega
def rSlT (K : PySem.W.Frag) : V -> Option Int -> Option Int -> Hp -> VK -> Prop := fun x lo hi H Q => ∃ a xs, x = .ref a /\ SqT K H a xs /\
  ¬ (HT.sIx xs.length 0 lo = 0 /\ HT.sIx xs.length xs.length hi = xs.length) /\ ∀ p, H p = none -> Q (.ref p) (upd H p (.tup (cutV xs lo hi)))
theorem sl_tup : SlR X (rSlT X.K) := by
  intro pins s σ H x v vl vu lo hi sl Q I rx hs pl pu h
  obtain ⟨a, xs, rfl, hx, hw, q⟩ := h
  cases rx
  obtain ⟨its, r, ht, hz⟩ := I.tuple hx
  have hlen : its.toArray.size = xs.length := by rw [List.size_toArray]; exact r.length.symm
  refine ⟨"tuple", _, PyProof.Rows.slot_tuple_getitem.lookup, ht.typeIs, ?_⟩
  refine HT.getItem_tuple_cut ht hs pl pu (by rw [hlen]; exact hw) ?_ (by rw [hlen]; exact hz)
  rw [hlen]
  refine ⟨.ref s.heap.objs.size, _, I.laid (t' := s.toks) (o := .tup (cutV xs lo hi)) (fun b ob q => Heap.get?_push_of_some _ q) (Nat.le_refl _) ?_, rfl, q _ (I.hok.fresh (Nat.le_refl _))⟩
  exact ⟨Nat.le_trans (cutV_length xs lo hi) hz, _, (r.drop (HT.sIx xs.length 0 lo)).take (HT.sIx xs.length xs.length hi - HT.sIx xs.length 0 lo), IsTup.new _ _⟩
def rCatT (K : PySem.W.Frag) : R2 := fun x y H Q => ∃ a b xs ys, x = .ref a /\ y = .ref b /\ SqT K H a xs /\ SqT K H b ys /\ xs ≠ [] /\ xs.length + ys.length <= sizeLine /\
  (ys = [] -> Q (.ref a) H) /\ (ys ≠ [] -> ∀ p, H p = none -> Q (.ref p) (upd H p (.tup (xs ++ ys))))
theorem Vals.nil_iff {xs : List V} {us : List Value} (r : Vals xs us) : us = [] ↔ xs = [] := by
  cases r with
  | nil => simp
  | cons _ _ => simp
theorem op_catT : OpR X (binaryOp .Add) (rCatT X.K) := by
  intro pins s σ H x y v u Q I rx ry h
  obtain ⟨a, b, xs, ys, rfl, rfl, ha, hb, hx, hz, q1, q2⟩ := h
  cases rx
  cases ry
  obtain ⟨its, r1, p1, _⟩ := I.tuple ha
  obtain ⟨its2, r2, p2, _⟩ := I.tuple hb
  refine HT.cat_tup p1 p2 (fun z => hx (r1.nil_iff.mp z)) (fun z => ⟨.ref a, H, I, rfl, q1 (r2.nil_iff.mp z)⟩) (fun z => ?_) (by rw [← r1.length, ← r2.length]; exact hz)
  refine ⟨.ref s.heap.objs.size, _, I.laid (t' := s.toks) (o := .tup (xs ++ ys)) (fun b ob q => Heap.get?_push_of_some _ q) (Nat.le_refl _) ?_, rfl, q2 (fun w => z (r2.nil_iff.mpr w)) _ (I.hok.fresh (Nat.le_refl _))⟩
  exact ⟨by rw [List.length_append]; exact hz, _, r1.append r2, IsTup.new _ _⟩
end
end L2
namespace L2
open PySem PySem.Spec PyProof.Rows
def ixN (n : Nat) (i : Int) : Option Nat := if 0 <= i then (if i < n then some i.toNat else none) else if -(n : Int) <= i then some (i + n).toNat else none
def atI {α : Type} (xs : List α) (i : Int) : Option α := (ixN xs.length i).bind fun j => xs[j]?
theorem ixN_seq {n : Nat} {i : Int} {j : Nat} (h : ixN n i = some j) : seqIndex? i n = some j /\ j < n /\ -(n : Int) <= i /\ i < n := by
  unfold ixN at h
  by_cases h0 : 0 <= i
  · rw [if_pos h0] at h
    by_cases h1 : i < n
    · rw [if_pos h1] at h
      have e : i.toNat = j := Option.some.inj h
      exact ⟨by rw [seqIndex_of h0 h1, e], by omega, by omega, h1⟩
    · rw [if_neg h1] at h; cases h
  · rw [if_neg h0] at h
    by_cases h1 : -(n : Int) <= i
    · rw [if_pos h1] at h
      have e : (i + n).toNat = j := Option.some.inj h
      exact ⟨by rw [seqIndex_neg (by omega) h1, e], by omega, h1, by omega⟩
    · rw [if_neg h1] at h; cases h
theorem atI_get {α : Type} {xs : List α} {i : Int} {v : α} (h : atI xs i = some v) : ∃ j, seqIndex? i xs.length = some j /\ xs[j]? = some v /\ j < xs.length /\ -(xs.length : Int) <= i /\ i < xs.length := by
  unfold atI at h
  cases e : ixN xs.length i with
  | none => rw [e] at h; cases h
  | some j =>
    rw [e] at h
    obtain ⟨h1, h2, h3, h4⟩ := ixN_seq e
    exact ⟨j, h1, h, h2, h3, h4⟩
theorem atI_nat {α : Type} {xs : List α} {j : Nat} {v : α} (h : xs[j]? = some v) : atI xs (j : Int) = some v := by
  have hj : j < xs.length := (List.getElem?_eq_some_iff.mp h).1
  have e : ixN xs.length (j : Int) = some j := by
    unfold ixN
    rw [if_pos (by omega), if_pos (by omega)]; simp
  unfold atI; rw [e]; exact h
def PlainIx (b : Expr) : Prop := ∀ o i, subscripted b false o i = operate [o, i] (getItem o i)
def IxR (X : Cx) (r : R2) : Prop :=
  ∀ (value slice : Expr) (pins : List (Addr × Obj)) (s : Shared) (σ : St) (H : Hp) (x y : V) (v u : Value) (Q : VK), Inv X pins σ H s -> RelV x v -> RelV y u -> r x y H Q ->
    subscripted slice false v u = operate [v, u] (getItem v u) -> wpAny (model X.prog X.w) X.A (subscriptTail value slice v u) (EP X pins σ Q) X.xe s
def MtR (X : Cx) (id : String) (r : V -> List V -> Hp -> VK -> Prop) : Prop :=
  ∀ (pins : List (Addr × Obj)) (s : Shared) (σ : St) (H : Hp) (x : V) (xs : List V) (v : Value) (us : List Value) (Q : VK), Inv X pins σ H s -> RelV x v -> Vals xs us -> r x xs H Q ->
    wpAny (model X.prog X.w) X.A (call (.builtin id) (v :: us)) (EP X pins σ Q) X.xe s
section
variable {X : Cx} {a b : Expr} {ta tb : TE} {pos : Pos}
theorem pe_ix {r : R2} (hr : IxR X r) (ha : PE X a ta) (hb : PE X b tb) (hs : PlainIx b) : PE X (.Subscript a b pos) (tOp r ta tb) := by
  intro pins s σ H Q I h
  exact Subscript_ (binT ha hb I h fun v u s2 x y H2 I2 rx ry q => hr a b pins s2 σ H2 x y v u Q I2 rx ry q (hs _ _))
def rIxL (K : PySem.W.Frag) : R2 := fun x y H Q => ∃ p xs i v, x = .ref p /\ y = .int i /\ SqL K H p xs /\ atI xs i = some v /\ Q v H
def rIxT (K : PySem.W.Frag) : R2 := fun x y H Q => ∃ p xs i v, x = .ref p /\ y = .int i /\ SqT K H p xs /\ atI xs i = some v /\ Q v H
def rIxS : R2 := fun x y H Q => ∃ z i c, x = .str z /\ y = .int i /\ z.length <= sizeLine /\ atI z.cps.toList i = some c /\ Q (.str ⟨#[c]⟩) H
theorem ix_list : IxR X (rIxL X.K) := by
  intro value slice pins s σ H x y v u Q I rx ry h hs
  obtain ⟨p, xs, i, z, rfl, rfl, hq, he, q⟩ := h
  cases rx
  obtain ⟨t, rfl⟩ := ry
  obtain ⟨its, r, pl, hz⟩ := I.list hq
  obtain ⟨j, h1, h2, h3, h4, h5⟩ := atI_get he
  obtain ⟨w, ew, rw'⟩ := r.get h2
  have hl := r.length
  have hn := line63
  have fin : EP X pins σ Q w s := ⟨z, H, I, rw', q⟩
  by_cases h0 : 0 <= i
  · have hj : i.toNat = j := by
      rw [seqIndex_of h0 h5] at h1
      exact Option.some.inj h1
    exact item_listR pl.isList h0 (by omega) (by rw [hj]; simpa using ew) fin hs
  · have hj : (i + (its.toArray.size : Int)).toNat = j := by
      rw [seqIndex_neg (by omega) h4] at h1
      rw [List.size_toArray, ← hl]
      exact Option.some.inj h1
    exact subscriptTail_builtinR (x := w) pl.isList.typeIs slot_list_getitem.lookup
      (wpAny_getItem_list_neg (Q := fun r s' => r = w /\ EP X pins σ Q r s') pl.isList (by omega) (by rw [List.size_toArray] <;> omega) (by omega) (by rw [hj]; simpa using ew) ⟨rfl, fin⟩) hs
theorem ix_tup : IxR X (rIxT X.K) := by
  intro value slice pins s σ H x y v u Q I rx ry h hs
  obtain ⟨p, xs, i, z, rfl, rfl, hq, he, q⟩ := h
  cases rx
  obtain ⟨t, rfl⟩ := ry
  obtain ⟨its, r, pl, hz⟩ := I.tuple hq
  obtain ⟨j, h1, h2, h3, h4, h5⟩ := atI_get he
  obtain ⟨w, ew, rw'⟩ := r.get h2
  have hl := r.length
  have hn := line63
  have fin : EP X pins σ Q w s := ⟨z, H, I, rw', q⟩
  exact subscriptTail_builtinR (x := w) pl.typeIs slot_tuple_getitem.lookup
    (getItem_tuple (j := j) (Q := fun r s' => r = w /\ EP X pins σ Q r s') pl (by omega) (by omega) (by rw [List.size_toArray, ← hl]; exact h1) (by simpa using ew) ⟨rfl, fin⟩) hs
theorem ix_str : IxR X rIxS := by
  intro value slice pins s σ H x y v u Q I rx ry h hs
  obtain ⟨z, i, c, rfl, rfl, hz, he, q⟩ := h
  obtain ⟨t, rfl⟩ := rx
  obtain ⟨t', rfl⟩ := ry
  obtain ⟨j, h1, h2, h3, h4, h5⟩ := atI_get he
  have hl : z.cps.toList.length = z.length := by simp [Str.length]
  rw [hl] at h1 h4 h5
  have hn := line63
  exact tail_any (typeIs_str s z t) slot_str_getitem.lookup (getItem_str (c := c) (by
    have e1 : decide (i < -(2 ^ 63 : Int)) = false := decide_eq_false (by omega)
    have e2 : decide (i ≥ 2 ^ 63) = false := decide_eq_false (by omega)
    rw [e1, e2, Bool.or_false]) (by rw [h1]; simpa using h2) ⟨.str ⟨#[c]⟩, H, I.tok _, ⟨_, rfl⟩, q⟩) hs
theorem mapSeq_set (its : List Value) (n j : Nat) (u : Value) : Obj.mapSeq (·.setIfInBounds j u) { cls := .type "list", data := .seq its.toArray n } = { cls := .type "list", data := .seq (its.set j u).toArray n } := by
  simp [Obj.mapSeq]
theorem Inv.lst {pins : List (Addr × Obj)} {σ : St} {H : Hp} {s : Shared} {p : Addr} {xs : List V} (I : Inv X pins σ H s) (h : H p = some (.lst xs)) :
    ∃ (its : List Value) (n : Nat), Vals xs its /\ s.heap.get? p = some { cls := .type "list", data := .seq its.toArray n } /\ xs.length <= sizeLine := by
  obtain ⟨z, its, n, r, e⟩ := I.hok p _ h
  exact ⟨its, n, r, e, z⟩
theorem Inv.lstUpd {pins : List (Addr × Obj)} {σ : St} {H : Hp} {s : Shared} {p : Addr} {xs ys : List V} {its its' : List Value} {n n' : Nat} {f : Obj -> Obj} (I : Inv X pins σ H s) (h : H p = some (.lst xs))
    (ho : s.heap.get? p = some { cls := .type "list", data := .seq its.toArray n }) (hf : f { cls := .type "list", data := .seq its.toArray n } = { cls := .type "list", data := .seq its'.toArray n' }) (r : Vals ys its') (hz : ys.length <= sizeLine) (t : Nat) :
    Inv X pins σ (upd H p (.lst ys)) { s with heap := s.heap.update p f, toks := t } := by
  have e : (s.heap.update p f).get? p = some { cls := .type "list", data := .seq its'.toArray n' } := by
    rw [Heap.get?_update_self f ho (by rw [hf] <;> rfl), hf]
  refine I.write (x := p) (e := p) (by rw [h]; trivial) (.inl rfl) (fun b u hb q => (Heap.get?_update_other _ _ (Ne.symm hb)).trans q) ⟨_, e⟩ ?_
  exact ⟨hz, its', n', r, e⟩
def rSetL : V -> V -> V -> Hp -> (Hp -> Prop) -> Prop := fun o i v H Q => ∃ p xs k j, o = .ref p /\ i = .int k /\ H p = some (.lst xs) /\ ixN xs.length k = some j /\ Q (upd H p (.lst (xs.set j v)))
theorem set_list : PSet X rSetL := by
  intro pins s σ H o i v ov iv u Q I ro ri rv h
  obtain ⟨p, xs, k, j, rfl, rfl, hp, hj, q⟩ := h
  cases ro
  obtain ⟨t, rfl⟩ := ri
  obtain ⟨its, n, r, ho, hz⟩ := I.lst hp
  obtain ⟨h1, h2, h3, h4⟩ := ixN_seq hj
  have hl := r.length
  have hn := line63
  have I' : Inv X pins σ (upd H p (.lst (xs.set j v))) { s with heap := s.heap.update p (Obj.mapSeq (·.setIfInBounds j u)) } :=
    I.lstUpd hp ho (mapSeq_set its n j u) (r.set rv j) (by rw [List.length_set]; exact hz) s.toks
  by_cases h0 : 0 <= k
  · have hk : k.toNat = j := by
      rw [seqIndex_of h0 h4] at h1
      exact Option.some.inj h1
    exact PySem.W.ki_setAt ho h0 (by omega) (by rw [List.size_toArray, ← hl]; exact h4) (by rw [hk]; exact ⟨_, I', q⟩)
  · have hk : (k + (its.toArray.size : Int)).toNat = j := by
      rw [seqIndex_neg (by omega) h3] at h1
      rw [List.size_toArray, ← hl]
      exact Option.some.inj h1
    exact PySem.W.ki_setBack ho (by omega) (by rw [List.size_toArray, ← hl]; exact h3) (by omega) (by rw [hk]; exact ⟨_, I', q⟩)
theorem slice_bounds (lo hi : Option Int) (n : Nat) : (sliceBounds lo hi none n).1 = ((HT.sIx n 0 lo : Nat) : Int) /\ (sliceBounds lo hi none n).2.1 = ((HT.sIx n n hi : Nat) : Int) /\ (sliceBounds lo hi none n).2.2 = 1 := by
  refine ⟨?_, ?_, rfl⟩
  · cases lo with
    | none => simp [sliceBounds, HT.sIx]
    | some i =>
      simp only [sliceBounds, HT.sIx, Option.getD_none, show (1 : Int) > 0 by decide, if_true]
      by_cases h : i < 0
      · simp only [h, if_true] <;> omega
      · simp only [h, if_false] <;> omega
  · cases hi with
    | none => simp [sliceBounds, HT.sIx]
    | some i =>
      simp only [sliceBounds, HT.sIx, Option.getD_none, show (1 : Int) > 0 by decide, if_true]
      by_cases h : i < 0
      · simp only [h, if_true] <;> omega
      · simp only [h, if_false] <;> omega
theorem slicePick_cut (its : List Value) (lo hi : Option Int) : slicePick its.toArray lo hi none = ((its.drop (HT.sIx its.length 0 lo)).take (HT.sIx its.length its.length hi - HT.sIx its.length 0 lo)).toArray := by
  obtain ⟨h1, h2, h3⟩ := slice_bounds lo hi its.toArray.size
  unfold slicePick
  rw [h1, h2, h3]
  simp only [sliceRange_one, pick_run, List.size_toArray] <;> rfl
def rSlL (K : PySem.W.Frag) : V -> Option Int -> Option Int -> Hp -> VK -> Prop := fun x lo hi H Q => ∃ a xs, x = .ref a /\ SqL K H a xs /\ ∀ p, H p = none -> Q (.ref p) (upd H p (.lst (cutV xs lo hi)))
theorem sl_list : SlR X (rSlL X.K) := by
  intro pins s σ H x v vl vu lo hi sl Q I rx hs pl pu h
  obtain ⟨a, xs, rfl, hx, q⟩ := h
  cases rx
  obtain ⟨its, r, ht, hz⟩ := I.list hx
  have hlen := r.length
  refine ⟨"list", _, slot_list_getitem.lookup, ht.isList.typeIs, ?_⟩
  refine wpAny_getItem_list_slice ht.isList hs pl pu .none (by simp) ?_ (by rw [List.size_toArray] <;> omega)
  rw [slicePick_cut, ← hlen]
  refine ⟨.ref s.heap.objs.size, _, I.laid (t' := s.toks) (o := .lst (cutV xs lo hi)) (fun b ob q => Heap.get?_push_of_some _ q) (Nat.le_refl _) ?_, rfl, q _ (I.hok.fresh (Nat.le_refl _))⟩
  exact ⟨Nat.le_trans (cutV_length xs lo hi) hz, _, 0, (r.drop (HT.sIx xs.length 0 lo)).take (HT.sIx xs.length xs.length hi - HT.sIx xs.length 0 lo), Heap.get?_push_size _ rfl⟩
def flatV : V -> Bool
  | .non => true
  | .bl _ => true
  | .int _ => true
  | .str _ => true
  | _ => false
def eqV : V -> V -> Bool
  | .non, .non => true
  | .bl a, .bl b => a == b
  | .bl a, .int b => (if a then 1 else 0) == b
  | .int a, .bl b => a == (if b then 1 else 0)
  | .int a, .int b => a == b
  | .str a, .str b => a == b
  | _, _ => false
theorem eqAt_V {A : Around} {s : Shared} {y x : V} {u v : Value} (ry : RelV y u) (rx : RelV x v) (fy : flatV y = true) (fx : flatV x = true) : SeqAt.EqAt A s u v (eqV y x) := by
  cases y with
  | non =>
    cases ry
    cases x with
    | non => cases rx; exact SeqAt.EqAt.same _
    | bl b => cases rx; exact SeqAt.EqAt.none_bool b
    | int b => obtain ⟨t, rfl⟩ := rx; exact SeqAt.EqAt.none_int b t
    | str b => obtain ⟨t, rfl⟩ := rx; exact SeqAt.EqAt.none_str b t
    | _ => exact absurd (show false = true from fx) Bool.false_ne_true
  | bl a =>
    cases ry
    cases x with
    | non => cases rx; exact SeqAt.EqAt.bool_none a
    | bl b => cases rx; exact SeqAt.EqAt.bool_bool a b
    | int b => obtain ⟨t, rfl⟩ := rx; exact SeqAt.EqAt.bool_int a b t
    | str b => obtain ⟨t, rfl⟩ := rx; exact SeqAt.EqAt.bool_str a b t
    | _ => exact absurd (show false = true from fx) Bool.false_ne_true
  | int a =>
    obtain ⟨t', rfl⟩ := ry
    cases x with
    | non => cases rx; exact SeqAt.EqAt.int_none a t'
    | bl b => cases rx; exact SeqAt.EqAt.int_bool a t' b
    | int b => obtain ⟨t, rfl⟩ := rx; exact SeqAt.EqAt.int_int a t' b t
    | str b => obtain ⟨t, rfl⟩ := rx; exact SeqAt.EqAt.int_str a t' b t
    | _ => exact absurd (show false = true from fx) Bool.false_ne_true
  | str a =>
    obtain ⟨t', rfl⟩ := ry
    cases x with
    | non => cases rx; exact SeqAt.EqAt.str_none a t'
    | bl b => cases rx; exact SeqAt.EqAt.str_bool a t' b
    | int b => obtain ⟨t, rfl⟩ := rx; exact SeqAt.EqAt.str_int a t' b t
    | str b => obtain ⟨t, rfl⟩ := rx; exact SeqAt.EqAt.str_str a t' b t
    | _ => exact absurd (show false = true from fx) Bool.false_ne_true
  | _ => exact absurd (show false = true from fy) Bool.false_ne_true
def eqU (x : V) (u : Value) : Bool := match u with
  | .none => eqV .non x
  | .bool b => eqV (.bl b) x
  | .int i _ => eqV (.int i) x
  | .str z _ => eqV (.str z) x
  | _ => false
theorem eqU_of {x y : V} {u : Value} (r : RelV y u) (f : flatV y = true) : eqU x u = eqV y x := by
  cases y with
  | non => cases r; rfl
  | bl b => cases r; rfl
  | int i => obtain ⟨t, rfl⟩ := r; rfl
  | str z => obtain ⟨t, rfl⟩ := r; rfl
  | _ => exact absurd (show false = true from f) Bool.false_ne_true
theorem mem_eqAt {A : Around} {s : Shared} {x : V} {v : Value} (rx : RelV x v) (fx : flatV x = true) : ∀ {xs : List V} {us : List Value}, Vals xs us -> xs.all flatV = true -> ∀ u ∈ us, SeqAt.EqAt A s u v (eqU x u)
  | _, _, .nil, _ => fun u hu => by cases hu
  | y :: xs, u :: us, .cons r t, f => fun u' hu => by
    rw [List.all_cons, Bool.and_eq_true] at f
    rcases List.mem_cons.mp hu with rfl | hu
    · rw [eqU_of r f.1]; exact eqAt_V r rx f.1 fx
    · exact mem_eqAt rx fx t f.2 u' hu
theorem call_len_seq : CallR X (.builtin "len") (fun xs H Q => ∃ p ys, xs = [.ref p] /\ (SqL X.K H p ys ∨ SqT X.K H p ys) /\ Q (.int ys.length) H) := by
  intro pins s σ H xs us Q I r h
  obtain ⟨p, ys, rfl, hq, q⟩ := h
  obtain ⟨u, rfl, rx⟩ := vals1 r
  cases rx
  have hn := line63
  rcases hq with hq | hq
  · obtain ⟨its, r', pl, hz⟩ := I.list hq
    have hlen := r'.length
    exact Calls.call_len_list pl.isList (by simp only [List.size_toArray] <;> omega) ⟨.int ys.length, H, I.tok _, ⟨s.toks + 1, by rw [List.size_toArray, hlen]⟩, q⟩
  · obtain ⟨its, r', pl, hz⟩ := I.tuple hq
    have hlen := r'.length
    exact len_tuple pl (by simp only [List.size_toArray] <;> omega) ⟨.int ys.length, H, I.tok _, ⟨s.toks + 1, by rw [List.size_toArray, hlen]⟩, q⟩
theorem call_len_str : CallR X (.builtin "len") (fun xs H Q => ∃ z, xs = [.str z] /\ z.length <= sizeLine /\ Q (.int z.length) H) := by
  intro pins s σ H xs us Q I r h
  obtain ⟨z, rfl, hz, q⟩ := h
  obtain ⟨u, rfl, t, rfl⟩ := vals1 r
  have hn := line63
  exact len_str (by omega) ⟨.int z.length, H, I.tok _, ⟨_, rfl⟩, q⟩
theorem call_list_of : CallR X (.type "list") (fun xs H Q => ∃ p ys, xs = [.ref p] /\ (SqL X.K H p ys ∨ SqT X.K H p ys) /\ ∀ l, H l = none -> Q (.ref l) (upd H l (.lst ys))) := by
  intro pins s σ H xs us Q I r h
  obtain ⟨p, ys, rfl, hq, q⟩ := h
  obtain ⟨u, rfl, rx⟩ := vals1 r
  cases rx
  have fin : ∀ (its : List Value), Vals ys its -> ys.length <= sizeLine -> ∀ (h' : Heap) (c' : Nat), (∀ b o', s.heap.get? b = some o' -> h'.get? b = some o') ->
      h'.get? s.heap.objs.size = some { cls := .type "list", dict := none, data := .seq its.toArray c', slots := #[] } -> EP X pins σ Q (.ref s.heap.objs.size) { s with heap := h' } := fun its r' hz h' c' kp e =>
    ⟨.ref s.heap.objs.size, _, I.laid (t' := s.toks) kp (Nat.le_refl _) (show ObjOk X.prog X.w _ h' _ (.lst ys) from ⟨hz, its, c', r', e⟩), rfl, q _ (I.hok.fresh (Nat.le_refl _))⟩
  rcases hq with hq | hq
  · obtain ⟨its, r', pl, hz⟩ := I.list hq
    have hlen := r'.length
    obtain ⟨o, ho, hc, n, hd⟩ := pl.isList
    exact call_list_seq p (.inl rfl) ho hc hd (fun h' c' kp e => fin its r' hz h' c' kp e) (by simp only [List.size_toArray] <;> omega)
  · obtain ⟨its, r', pl, hz⟩ := I.tuple hq
    have hlen := r'.length
    obtain ⟨o, ho, hc, n, hd⟩ := pl
    exact call_list_seq p (.inr rfl) ho hc hd (fun h' c' kp e => fin its r' hz h' c' kp e) (by simp only [List.size_toArray] <;> omega)
theorem call_tuple_of : CallR X (.type "tuple") (fun xs H Q => ∃ p ys, xs = [.ref p] /\ ((SqL X.K H p ys /\ ∀ l, H l = none -> Q (.ref l) (upd H l (.tup ys))) ∨ (SqT X.K H p ys /\ Q (.ref p) H))) := by
  intro pins s σ H xs us Q I r h
  obtain ⟨p, ys, rfl, h⟩ := h
  obtain ⟨u, rfl, rx⟩ := vals1 r
  cases rx
  rcases h with ⟨hq, q⟩ | ⟨hq, q⟩
  · obtain ⟨its, r', pl, hz⟩ := I.list hq
    have hlen := r'.length
    refine call_tuple_list pl.isList (fun h' kp => ?_) (by simp only [List.size_toArray] <;> omega)
    have I1 : Inv X pins σ H { s with heap := h' } := I.kept (t' := s.toks) kp
    have I2 : Inv X pins σ (upd H h'.objs.size (.tup ys)) { s with heap := h'.push { cls := .type "tuple", data := .seq its.toArray } } :=
      I1.laid (t' := s.toks) (fun b o e => Heap.get?_push_of_some _ e) (Nat.le_refl _) (show ObjOk X.prog X.w _ _ _ (.tup ys) from ⟨hz, its, r', IsTup.new _ _⟩)
    exact ⟨.ref h'.objs.size, _, I2, rfl, q _ (I1.hok.fresh (Nat.le_refl _))⟩
  · obtain ⟨its, r', pl, hz⟩ := I.tuple hq
    exact call_tuple_same pl ⟨.ref p, H, I, rfl, q⟩
def tyV (K : PySem.W.Frag) (T : String) (x : V) (H : Hp) : Prop := match x with
  | .str _ => T = "str"
  | .int _ => T = "int"
  | .ref p => (T = "list" /\ ∃ xs, SqL K H p xs) ∨ (T = "tuple" /\ ∃ o, K.lookup p = some o /\ o.cls = .type "tuple" /\ o.dict = none) ∨
      (T = "dict" /\ ((∃ kvs, H p = some (.dK kvs)) ∨ ∃ kvs, H p = some (.dT kvs))) ∨ (T = "set" /\ ∃ S n, H p = some (.set S n))
  | _ => False
theorem tyV_is {pins : List (Addr × Obj)} {σ : St} {H : Hp} {s : Shared} {T : String} {x : V} {v : Value} (I : Inv X pins σ H s) (r : RelV x v) (ty : tyV X.K T x H) :
    s.TypeIs v T /\ ∀ a, v = .ref a -> ∃ ob, s.heap.get? a = some ob /\ ob.dict = none := by
  cases x with
  | str z =>
    obtain ⟨t, rfl⟩ := r
    cases (show T = "str" from ty)
    exact ⟨typeIs_str s z t, fun _ e => nomatch e⟩
  | int i =>
    obtain ⟨t, rfl⟩ := r
    cases (show T = "int" from ty)
    exact ⟨typeIs_int s i t, fun _ e => nomatch e⟩
  | ref p =>
    cases r
    rcases ty with ⟨rfl, xs, hq⟩ | ⟨rfl, o, hk, hc, hd⟩ | ⟨rfl, hk⟩ | ⟨rfl, S, n, hk⟩
    · obtain ⟨its, _, pl, _⟩ := I.list hq
      refine ⟨pl.isList.typeIs, fun a e => ?_⟩
      cases e
      obtain ⟨o, n, e, c, hd, _⟩ := pl
      exact ⟨o, e, hd⟩
    · refine ⟨⟨o, I.kIn p o hk, hc⟩, fun a e => ?_⟩
      cases e
      exact ⟨o, I.kIn _ o hk, hd⟩
    · have z : ∃ o, s.heap.get? p = some o /\ o.ExactDict := by
        rcases hk with ⟨kvs, hk⟩ | ⟨kvs, hk⟩
        · obtain ⟨_, _, _, _, o, _, _, e, ex, _⟩ := I.hok p _ hk
          exact ⟨o, e, ex⟩
        · obtain ⟨_, _, _, _, o, _, _, e, ex, _⟩ := I.hok p _ hk
          exact ⟨o, e, ex⟩
      obtain ⟨o, e, ex⟩ := z
      refine ⟨⟨o, e, ex.1⟩, fun a e2 => ?_⟩
      cases e2
      exact ⟨o, e, ex.2.1⟩
    · obtain ⟨o, _, _, _, e, ex, _⟩ := I.hok p _ hk
      refine ⟨⟨o, e, ex.1⟩, fun a e2 => ?_⟩
      cases e2
      exact ⟨o, e, ex.2.1⟩
  | _ => exact False.elim ty
def tBM (K : PySem.W.Frag) (T : String) (r : V -> List V -> Hp -> VK -> Prop) (to : TE) (t : TA) : TE := fun σ H Q => to σ H fun x H1 => tyV K T x H1 /\ t σ H1 fun xs H2 => r x xs H2 Q
variable {o e : Expr} {es : List Expr} {to : TE} {t : TA} {name : Str} {apos cpos : Pos} {T id : String} {r : V -> List V -> Hp -> VK -> Prop}
theorem pe_bm (pa : PlainAttrs T) (slot : Slot T name id) (hty : typeOf (.builtin id) = pure (.type "method_descriptor")) (hm : MtR X id r) (ho : PE X o to) (ha : PA X (e :: es) t)
    (hbase : attributeBase o name X.env (eval o X.env) = eval o X.env := by rfl)
    (hfew : ((backTo cpos (starEach (e :: es) X.env)).all (fun x => !x.1) && (backToKw cpos (keywordEach [] X.env)).all (fun x => x.1.isSome)
      && decide ((e :: es).length + ([] : List Keyword).length + (if ([] : List Keyword).isEmpty then 0 else 1) < 30)) = true := by rfl)
    (hline : (apos.endLine == cpos.line) = true := by rfl) (hs : starEach (e :: es) X.env = (false, eval e X.env) :: starEach es X.env := by rfl) (hplain : (backTo cpos (starEach es X.env)).any (·.1) = false := by rfl) :
    PE X (.Call (.Attribute o name apos) (e :: es) [] cpos) (tBM X.K T r to t) := by
  intro pins s σ H Q I h
  refine wpAny_Call_method_late hbase hfew hline rfl (thn (ho pins s σ H _ I h) fun v s1 ⟨x, H1, I1, r1, ty, q1⟩ => ?_)
  obtain ⟨h1, h2⟩ := tyV_is I1 r1 ty
  refine ⟨T, id, pa, slot, hty, h1, h2, ?_⟩
  have hA := ha cpos pins s1 σ H1 _ I1 q1
  rw [hs] at hA ⊢
  refine Calls.callWith_builtin (by show (false || (backTo cpos (starEach es X.env)).any (·.1)) = false; rw [hplain] <;> rfl) (Calls.evalArgs_plain ?_)
  exact thn hA fun us s2 ⟨vs, H2, I2, r2, q2⟩ => hm pins s2 σ H2 x vs v us Q I2 r1 r2 q2
end
end L2
namespace L2
open PySem PySem.Spec PyProof.Rows
def MtM (X : Cx) (id : String) (r : V -> List V -> Hp -> VK -> Prop) : Prop :=
  ∀ (pins : List (Addr × Obj)) (s : Shared) (σ : St) (H : Hp) (x : V) (xs : List V) (v : Value) (us : List Value) (Q : VK), Inv X pins σ H s -> RelV x v -> Vals xs us -> r x xs H Q ->
    wpAny (model X.prog X.w) X.A (call (.builtin id) (v :: us)) (EP X pins σ Q) X.xe s
theorem Vals.one : ∀ {x : V} {us : List Value}, Vals [x] us -> ∃ u, us = [u] /\ RelV x u
  | _, _, .cons r .nil => ⟨_, rfl, r⟩
theorem Vals.eraseIdx : ∀ {xs : List V} {us : List Value} (i : Nat), Vals xs us -> Vals (xs.eraseIdx i) (us.eraseIdx i)
  | _, _, _, .nil => .nil
  | _, _, 0, .cons _ t => t
  | _, _, i + 1, .cons r t => .cons r (Vals.eraseIdx i t)
theorem len_erase {α : Type} : ∀ (l : List α) (i : Nat), (l.eraseIdx i).length <= l.length
  | [], _ => Nat.le_refl _
  | _ :: _, 0 => Nat.le_succ _
  | _ :: r, i + 1 => Nat.succ_le_succ (len_erase r i)
section
variable {X : Cx} {pins : List (Addr × Obj)} {σ : St} {H : Hp} {s : Shared} {l b : Addr} {xs ys zs : List V}
theorem Inv.lset {its its' : List Value} {n : Nat} {f : Array Value -> Array Value} {t' : Nat} (I : Inv X pins σ H s) (hH : H l = some (.lst xs))
    (e : s.heap.get? l = some { cls := .type "list", data := .seq its.toArray n }) (hf : f its.toArray = its'.toArray) (hv : Vals ys its') (hz : ys.length <= sizeLine) :
    Inv X pins σ (upd H l (.lst ys)) { s with heap := s.heap.update l (Obj.mapSeq f), toks := t' } := by
  have q := PySem.IsL.update e f
  rw [hf] at q
  refine I.write (x := l) (e := l) (by rw [hH]; exact trivial) (.inl rfl) (fun b' u hb hu => (Heap.get?_update_other s.heap (Obj.mapSeq f) (Ne.symm hb)).trans hu) ⟨_, q⟩ ?_
  exact ⟨hz, its', _, hv, q⟩
theorem Inv.lnew {its : List Value} {t' : Nat} (I : Inv X pins σ H s) (hv : Vals ys its) (hz : ys.length <= sizeLine) :
    Inv X pins σ (upd H s.heap.objs.size (.lst ys)) { s with heap := s.heap.push { cls := .type "list", data := .seq its.toArray }, toks := t' } :=
  I.laid (fun _ _ q => Heap.get?_push_of_some _ q) (Nat.le_refl _) ⟨hz, its, 0, hv, Heap.get?_push_size _ rfl⟩
theorem Inv.fresh (I : Inv X pins σ H s) : H s.heap.objs.size = none := I.hok.fresh (Nat.le_refl _)
theorem Inv.lstM (I : Inv X pins σ H s) (hH : H l = some (.lst xs)) : xs.length <= sizeLine /\ ∃ (its : List Value) (n : Nat), Vals xs its /\ xs.length = its.length /\ s.heap.get? l = some { cls := .type "list", data := .seq its.toArray n } := by
  obtain ⟨z, its, n, r, e⟩ := I.hok l _ hH
  exact ⟨z, its, n, r, r.length, e⟩
theorem notLongL {n : Nat} (h : n <= sizeLine) : Builtin.List.listTooLong n = false := by
  unfold Builtin.List.listTooLong
  exact decide_eq_false (by omega)
end
section
variable {X : Cx}
def rAppend : V -> List V -> Hp -> VK -> Prop := fun x vs H Q => ∃ l xs y, x = .ref l /\ vs = [y] /\ H l = some (.lst xs) /\ xs.length < sizeLine /\ Q .non (upd H l (.lst (xs ++ [y])))
theorem mt_append : MtM X "list.append" rAppend := by
  intro pins s σ H x vs v us Q I rx rv h
  obtain ⟨l, xs, y, rfl, rfl, hH, hz, q⟩ := h
  cases rx
  obtain ⟨u, rfl, ru⟩ := rv.one
  obtain ⟨z, its, n, r, hl, e⟩ := I.lstM hH
  refine call_meets F.slot_list_append ⟨_, e, rfl⟩ F.entry_list_append (F.args_list_append_2 _ _) (PySem.list_append l its.toArray n u (by rw [List.size_toArray]; omega)) ⟨e, ?_⟩
  refine ⟨.non, _, I.lset (its' := its ++ [u]) hH e (by simp) (r.append (.cons ru .nil)) ?_, rfl, q⟩
  rw [List.length_append, List.length_singleton]
  omega
def rExtend : V -> List V -> Hp -> VK -> Prop := fun x vs H Q => ∃ l b xs zs, x = .ref l /\ vs = [.ref b] /\ H l = some (.lst xs) /\ H b = some (.lst zs) /\ xs.length + zs.length <= sizeLine /\ Q .non (upd H l (.lst (xs ++ zs)))
theorem mt_extend : MtM X "list.extend" rExtend := by
  intro pins s σ H x vs v us Q I rx rv h
  obtain ⟨l, b, xs, zs, rfl, rfl, hH, hB, hz, q⟩ := h
  cases rx
  obtain ⟨u, rfl, ru⟩ := rv.one
  cases ru
  obtain ⟨z, its, n, r, hl, e⟩ := I.lstM hH
  obtain ⟨z2, its2, n2, r2, hl2, e2⟩ := I.lstM hB
  have hsz : its.toArray.size + its2.toArray.size <= sizeLine := by rw [List.size_toArray, List.size_toArray]; omega
  have hlong : ¬ (!its.toArray.isEmpty && Builtin.List.listTooLong (its.toArray.size + its2.toArray.size)) = true := by
    rw [notLongL hsz, Bool.and_false]
    exact Bool.false_ne_true
  refine call_meets F.slot_list_extend ⟨_, e, rfl⟩ F.entry_list_extend (F.args_list_extend_2 _ _)
    (AutoSeq1.list_extend_list_list_0 l its.toArray n b its2.toArray n2 hlong (by rw [List.size_toArray]; omega) (by omega)) ⟨e, e2, ?_⟩
  refine ⟨.non, _, I.lset (its' := its ++ its2) hH e (by simp) (r.append r2) ?_, rfl, q⟩
  rw [List.length_append]
  omega
def rPopAt : V -> List V -> Hp -> VK -> Prop := fun x vs H Q => ∃ l xs i k y, x = .ref l /\ vs = [.int i] /\ H l = some (.lst xs) /\ -(2 ^ 63) <= i /\ i < 2 ^ 63 /\ seqIndex? i xs.length = some k /\ xs[k]? = some y /\ Q y (upd H l (.lst (xs.eraseIdx k)))
theorem mt_popAt : MtM X "list.pop" rPopAt := by
  intro pins s σ H x vs v us Q I rx rv h
  obtain ⟨l, xs, i, k, y, rfl, rfl, hH, h1, h2, hk, hy, q⟩ := h
  cases rx
  obtain ⟨u, rfl, ru⟩ := rv.one
  obtain ⟨t, rfl⟩ := ru
  obtain ⟨z, its, n, r, hl, e⟩ := I.lstM hH
  obtain ⟨w, hw, rw'⟩ := r.get hy
  refine call_meets F.slot_list_pop ⟨_, e, rfl⟩ F.entry_list_pop (F.args_list_pop_2 _ _)
    (MeetsSeq.list_pop_at l its.toArray n i t k w (fitsIndex_both h1 h2) (by rw [List.size_toArray, ← hl]; exact hk) (by rw [← Array.getElem?_toList]; exact hw) (by rw [List.size_toArray]; omega)) ⟨e, ?_⟩
  refine ⟨y, _, I.lset (its' := its.eraseIdx k) hH e ?_ (r.eraseIdx k) ?_, rw', q⟩
  · show its.toArray.eraseIdxIfInBounds k = (its.eraseIdx k).toArray
    rw [List.eraseIdxIfInBounds_toArray]
  · have := len_erase xs k
    omega
def rCat : R2 := fun x y H Q => ∃ l b xs zs, x = .ref l /\ y = .ref b /\ H l = some (.lst xs) /\ H b = some (.lst zs) /\ xs.length + zs.length <= sizeLine /\ ∀ p, H p = none -> Q (.ref p) (upd H p (.lst (xs ++ zs)))
theorem op_cat : OpR X (binaryOp .Add) rCat := by
  intro pins s σ H x y v u Q I rx ry h
  obtain ⟨l, b, xs, zs, rfl, rfl, hH, hB, hz, q⟩ := h
  cases rx
  cases ry
  obtain ⟨z, its, n, r, hl, e⟩ := I.lstM hH
  obtain ⟨z2, its2, n2, r2, hl2, e2⟩ := I.lstM hB
  refine PySem.P.add_list e e2 ?_ (by rw [List.size_toArray, List.size_toArray]; omega)
  have ea : its.toArray ++ its2.toArray = (its ++ its2).toArray := by simp
  rw [ea]
  exact ⟨.ref _, _, I.lnew (t' := s.toks) (r.append r2) (by rw [List.length_append]; omega), rfl, q _ I.fresh⟩
end
section
variable {prog : Program} {w : World} {A : Around} {E : Value -> Shared -> Prop} {s : Shared}
end
section
variable {X : Cx}
end
end L2
namespace L2
open PySem PySem.Spec PyProof.Rows
section
variable {κ : Type} [DecidableEq κ]
def valV (kvs : List (κ × V)) (k : κ) : Option V := (kvs.find? fun kv => decide (kv.1 = k)).map (·.2)
def putK (kvs : List (κ × V)) (k : κ) (v : V) : List (κ × V) :=
  if (kvs.any fun kv => decide (kv.1 = k)) = true then kvs.map (fun kv => if kv.1 = k then (kv.1, v) else kv) else kvs ++ [(k, v)]
theorem valV_pos {p : κ × V} {r : List (κ × V)} {k : κ} (e : p.1 = k) : valV (p :: r) k = some p.2 := by simp [valV, List.find?_cons, e]
theorem valV_neg {p : κ × V} {r : List (κ × V)} {k : κ} (e : ¬ p.1 = k) : valV (p :: r) k = valV r k := by simp [valV, List.find?_cons, e]
theorem valV_any (k : κ) : ∀ kvs : List (κ × V), (kvs.any fun kv => decide (kv.1 = k)) = (valV kvs k).isSome
  | [] => rfl
  | p :: r => by
    rw [List.any_cons]
    by_cases e : p.1 = k
    · simp only [valV_pos e, decide_eq_true e, Bool.true_or, Option.isSome_some]
    · rw [valV_neg e, decide_eq_false e, Bool.false_or]; exact valV_any k r
theorem length_putK (kvs : List (κ × V)) (k : κ) (v : V) : (putK kvs k v).length <= kvs.length + 1 := by
  unfold putK
  split
  · rw [List.length_map]; omega
  · rw [List.length_append, List.length_cons, List.length_nil]; omega
theorem RelO.isSome_eq {o : Option V} {u : Option Value} (r : RelO o u) : o.isSome = u.isSome := by
  cases o with
  | none => cases u with
    | none => rfl
    | some _ => exact (show False from r).elim
  | some _ => cases u with
    | none => exact (show False from r).elim
    | some _ => rfl
theorem KV.val {kvs : List (κ × V)} {vs : List (κ × Value)} (r : KV kvs vs) (k : κ) : RelO (valV kvs k) (valueAt vs k) := by
  unfold KV at r
  induction r with
  | nil => exact True.intro
  | @cons p q ps qs h t ih =>
    obtain ⟨h1, h2⟩ := h
    by_cases e : p.1 = k
    · have e' : q.1 = k := h1.symm.trans e
      have b : valueAt (q :: qs) k = some q.2 := by simp [valueAt, List.find?_cons, e']
      rw [valV_pos e, b]; exact h2
    · have e' : ¬ q.1 = k := fun z => e (h1.trans z)
      have b : valueAt (q :: qs) k = valueAt qs k := by simp [valueAt, List.find?_cons, e']
      rw [valV_neg e, b]; exact ih
theorem KV.any {kvs : List (κ × V)} {vs : List (κ × Value)} (r : KV kvs vs) (k : κ) : (kvs.any fun kv => decide (kv.1 = k)) = vs.any fun kv => decide (kv.1 = k) := by
  unfold KV at r
  induction r with
  | nil => rfl
  | cons h t ih => rw [List.any_cons, List.any_cons, ih, h.1]
theorem KV.repl {kvs : List (κ × V)} {vs : List (κ × Value)} (r : KV kvs vs) (k : κ) {y : V} {u : Value} (ry : RelV y u) :
    KV (kvs.map fun kv => if kv.1 = k then (kv.1, y) else kv) (vs.map fun kv => if kv.1 = k then (kv.1, u) else kv) := by
  unfold KV at r ⊢
  induction r with
  | nil => exact .nil
  | @cons p q ps qs h t ih =>
    rw [List.map_cons, List.map_cons]
    refine .cons ?_ ih
    obtain ⟨h1, h2⟩ := h
    by_cases e : p.1 = k
    · rw [if_pos e, if_pos (h1.symm.trans e)]; exact ⟨h1, ry⟩
    · rw [if_neg e, if_neg (fun z => e (h1.trans z))]; exact ⟨h1, h2⟩
theorem KV.put {kvs : List (κ × V)} {vs : List (κ × Value)} (r : KV kvs vs) (k : κ) {y : V} {u : Value} (ry : RelV y u) : KV (putK kvs k y) (stored vs k u) := by
  unfold putK stored
  rw [r.any k]
  by_cases e : (vs.any fun kv => decide (kv.1 = k)) = true
  · rw [if_pos e, if_pos e]; exact r.repl k ry
  · rw [if_neg e, if_neg e]; exact Paired.snoc r ⟨rfl, ry⟩
theorem KV.length {kvs : List (κ × V)} {vs : List (κ × Value)} (r : KV kvs vs) : kvs.length = vs.length := Paired.length r
end
theorem kV_is {P : Program} {w : World} {k : Key} {u : Value} (r : RelV (kV k) u) : (mixKind P w).is k u = true := by
  cases k with
  | inl i => obtain ⟨t, e⟩ := (show ∃ t, u = Value.int i t from r); subst e; exact mixKind_int P w i t
  | inr x => obtain ⟨t, e⟩ := (show ∃ t, u = Value.str x t from r); subst e; exact mixKind_str P w x t
theorem items_are {P : Program} {w : World} : ∀ {ks : List Key} {us : List Value}, Vals (ks.map kV) us -> ItemsAre (mixKind P w) ks us
  | [], _, r => by rw [List.map_nil] at r; cases r; exact .nil
  | k :: ks, _, r => by
    rw [List.map_cons] at r
    cases r with
    | cons h t => exact .cons (kV_is h) (items_are t)
abbrev KT (H : Hp) : List (List Key × V) -> List (List Key × Addr × Value) -> Prop := Paired fun p q => p.1 = q.1 /\ H q.2.1 = some (.tup (p.1.map kV)) /\ RelV p.2 q.2.2
theorem KT.val {H : Hp} {kvs : List (List Key × V)} {xs : List (List Key × Addr × Value)} (r : KT H kvs xs) (k : List Key) : RelO (valV kvs k) ((atKey xs k).map (·.2)) := by
  induction r with
  | nil => exact True.intro
  | @cons p q ps qs h t ih =>
    obtain ⟨h1, _, h2⟩ := h
    by_cases e : p.1 = k
    · have e' : q.1 = k := h1.symm.trans e
      have b : atKey (q :: qs) k = some q.2 := by simp [atKey, List.find?_cons, e']
      rw [valV_pos e, b]; exact h2
    · have e' : ¬ q.1 = k := fun z => e (h1.trans z)
      have b : atKey (q :: qs) k = atKey qs k := by simp [atKey, List.find?_cons, e']
      rw [valV_neg e, b]; exact ih
theorem KT.repl {H : Hp} {kvs : List (List Key × V)} {xs : List (List Key × Addr × Value)} (r : KT H kvs xs) (k : List Key) {y : V} {u : Value} (ry : RelV y u) :
    KT H (kvs.map fun kv => if kv.1 = k then (kv.1, y) else kv) (xs.map (putAt k u)) := by
  induction r with
  | nil => exact .nil
  | @cons p q ps qs h t ih =>
    rw [List.map_cons, List.map_cons]
    refine .cons ?_ ih
    obtain ⟨h1, h2, h3⟩ := h
    unfold putAt
    by_cases e : p.1 = k
    · rw [if_pos e, if_pos (h1.symm.trans e)]; exact ⟨h1, h2, ry⟩
    · rw [if_neg e, if_neg (fun z => e (h1.trans z))]; exact ⟨h1, h2, h3⟩
theorem KT.put {H : Hp} {kvs : List (List Key × V)} {xs : List (List Key × Addr × Value)} (r : KT H kvs xs) (k : List Key) {b : Addr} {y : V} {u : Value} (hb : H b = some (.tup (k.map kV))) (ry : RelV y u) :
    KT H (putK kvs k y) (storedH xs k b u) := by
  have e : (kvs.any fun kv => decide (kv.1 = k)) = (atKey xs k).isSome := by
    rw [valV_any, (r.val k).isSome_eq, Option.isSome_map]
  unfold putK storedH
  rw [e]
  by_cases q : (atKey xs k).isSome = true
  · rw [if_pos q, if_pos q]; exact r.repl k ry
  · rw [if_neg q, if_neg q]; exact Paired.snoc r ⟨rfl, hb, ry⟩
theorem KT.keeps {H H' : Hp} {kvs : List (List Key × V)} {xs : List (List Key × Addr × Value)} (r : KT H kvs xs) (ht : ∀ b ys, H b = some (.tup ys) -> H' b = some (.tup ys)) : KT H' kvs xs :=
  Paired.mapP r fun _ _ z => ⟨z.1, ht _ _ z.2.1, z.2.2⟩
section
variable {P : Program} {w : World} {H : Hp} {h : Heap} {a : Addr}
theorem rd_of {u : HO} (ok : HOk P w H h) (e : Rd H a u) : ObjOk P w H h a u := e.ok ok
theorem dk_rd {kvs : List (Key × V)} (ok : HOk P w H h) (e : Rd H a (.dK kvs)) : kvs.length <= sizeLine /\ (a == sysModules) = false /\ ∃ vs, KV kvs vs /\ h.DictOf (mixKind P w) a vs :=
  show ObjOk P w H h a (.dK kvs) from rd_of ok e
theorem dk_of {kvs : List (Key × V)} (ok : HOk P w H h) (e : H a = some (.dK kvs)) : kvs.length <= sizeLine /\ (a == sysModules) = false /\ ∃ vs, KV kvs vs /\ h.DictOf (mixKind P w) a vs := dk_rd ok (.inl e)
theorem key_of {ks : List Key} (ok : HOk P w H h) (e : H a = some (.tup (ks.map kV))) : (tupleKind (mixKind P w)).is h ks a := by
  obtain ⟨_, its, r, o, h1, h2, n, h3⟩ := (show ObjOk P w H h a (.tup (ks.map kV)) from ok a _ e)
  exact ⟨o, its.toArray, n, h1, h2, h3, by simpa using items_are r⟩
theorem dt_rd {kvs : List (List Key × V)} (ok : HOk P w H h) (e : Rd H a (.dT kvs)) : kvs.length <= sizeLine /\ (a == sysModules) = false /\
    ∃ xs, KT H kvs xs /\ h.DictOfH (tupleKind (mixKind P w)) a xs := by
  obtain ⟨z, y, xs, r, o, es, ep, h1, h2, h3, h4, h5⟩ := (show ObjOk P w H h a (.dT kvs) from rd_of ok e)
  refine ⟨z, y, xs, r, o, es, ep, h1, h2, h3, h4, fun x hx => ?_, h5⟩
  have all : ∀ {l : List (List Key × V)} {m : List (List Key × Addr × Value)}, KT H l m -> ∀ x ∈ m, (tupleKind (mixKind P w)).is h x.1 x.2.1 := by
    intro l m q
    induction q with
    | nil => intro x hx; exact nomatch hx
    | @cons p q ps qs hq t ih =>
      intro x hx
      rcases List.mem_cons.mp hx with e | hx
      · subst e
        exact key_of ok (by rw [← hq.1]; exact hq.2.1)
      · exact ih x hx
  exact all r x hx
theorem dt_of {kvs : List (List Key × V)} (ok : HOk P w H h) (e : H a = some (.dT kvs)) : kvs.length <= sizeLine /\ (a == sysModules) = false /\
    ∃ xs, KT H kvs xs /\ h.DictOfH (tupleKind (mixKind P w)) a xs := dt_rd ok (.inl e)
end
def DGet (H : Hp) (a : Addr) (y : V) (r : Option V) : Prop :=
  (∃ kvs k, Rd H a (.dK kvs) /\ y = kV k /\ r = valV kvs k) ∨ ∃ kvs k b, Rd H a (.dT kvs) /\ y = .ref b /\ H b = some (.tup (k.map kV)) /\ r = valV kvs k
def DPut (H : Hp) (a : Addr) (y v : V) (H' : Hp) : Prop :=
  (∃ kvs k, H a = some (.dK kvs) /\ y = kV k /\ kvs.length < sizeLine /\ H' = upd H a (.dK (putK kvs k v))) ∨
  ∃ kvs k b, H a = some (.dT kvs) /\ y = .ref b /\ H b = some (.tup (k.map kV)) /\ kvs.length < sizeLine /\ H' = upd H a (.dT (putK kvs k v))
theorem DGet.k {H : Hp} {a : Addr} {kvs : List (Key × V)} {k : Key} (e : H a = some (.dK kvs)) : DGet H a (kV k) (valV kvs k) := .inl ⟨kvs, k, .inl e, rfl, rfl⟩
theorem DPut.k {H : Hp} {a : Addr} {kvs : List (Key × V)} {k : Key} {v : V} (e : H a = some (.dK kvs)) (hl : kvs.length < sizeLine) : DPut H a (kV k) v (upd H a (.dK (putK kvs k v))) := .inl ⟨kvs, k, e, rfl, hl, rfl⟩
section
variable {X : Cx} {pins : List (Addr × Obj)} {σ : St} {H : Hp} {s : Shared} {a : Addr} {y v : V} {u r : Value} {o : Option V} {A : Around} {E : Value -> Shared -> Prop}
theorem Inv.big (I : Inv X pins σ H s) : sysModules < s.heap.objs.size := by
  have h : mainGlobals < s.heap.objs.size := (I.mod.glob.keeps I.bk).lt
  exact Nat.lt_trans (by decide) h
theorem d_getItem {Q : Value -> Shared -> Prop} (hu : A.units + 1 < cLine) (I : Inv X pins σ H s) (g : DGet H a y (some v)) (ry : RelV y u) (h : ∀ w' s', Inv X pins σ H s' -> RelV v w' -> Q w' s') :
    wpAny (model X.prog X.w) A (getItem (.ref a) u) Q E s := by
  rcases g with ⟨kvs, k, e, ey, l⟩ | ⟨kvs, k, b, e, ey, eb, l⟩
  · subst ey
    obtain ⟨z, hd, vs, rel, dd⟩ := dk_rd I.hok e
    obtain ⟨w', hw, rw'⟩ := RelO.some_of (v := v) (o := valueAt vs k) (by rw [l]; exact rel.val k)
    exact wpAny_getItem_of (kV_is ry) dd.mapOf hw (h w' _ (I.tok _) rw')
  · subst ey
    cases (show u = Value.ref b from ry)
    obtain ⟨z, hd, xs, rel, dd⟩ := dt_rd I.hok e
    obtain ⟨w', hw, rw'⟩ := RelO.some_of (v := v) (o := (atKey xs k).map (·.2)) (by rw [l]; exact rel.val k)
    obtain ⟨p, hp, hp2⟩ := Option.map_eq_some_iff.mp hw
    refine wpAny_getItem_heap (tupleKind_room_in1 hu) (key_of I.hok eb) dd hp ?_
    rw [hp2]
    exact h w' _ (I.tok _) rw'
theorem d_write {h' : Heap} {t' : Nat} {ob : HO} (I : Inv X pins σ H s) (mu : Mut (H a)) (hs : Heap.SameBut a s.heap h') (he : ∃ q, h'.get? a = some q) (new : ObjOk X.prog X.w (upd H a ob) h' a ob) :
    Inv X pins σ (upd H a ob) { s with heap := h', toks := t' } :=
  I.write (x := a) (e := a) mu (.inl rfl) (fun b q hb z => (hs.2 b hb).trans z) he new
theorem dk_new {P : Program} {w : World} {H' : Hp} {h' : Heap} {kvs : List (Key × V)} {vs : List (Key × Value)} (z : kvs.length <= sizeLine) (hd : (a == sysModules) = false) (rel : KV kvs vs) (dd : h'.DictOf (mixKind P w) a vs) :
    ObjOk P w H' h' a (.dK kvs) := ⟨z, hd, vs, rel, dd⟩
theorem d_setItem {H' : Hp} {Q : Unit -> Shared -> Prop} (hu : A.units + 1 < cLine) (I : Inv X pins σ H s) (g : DPut H a y v H') (ry : RelV y u) (rv : RelV v r) (h : ∀ s', Inv X pins σ H' s' -> Q () s') :
    wpAny (model X.prog X.w) A (setItem (.ref a) u r) Q E s := by
  rcases g with ⟨kvs, k, e, ey, l, eH⟩ | ⟨kvs, k, b, e, ey, eb, l, eH⟩
  · subst ey eH
    obtain ⟨z, hd, vs, rel, dd⟩ := dk_of I.hok e
    have hz : vs.length <= sizeLine := by rw [← rel.length]; exact z
    have hl : (putK kvs k v).length <= sizeLine := by have := length_putK kvs k v; omega
    refine wpAny_setItem_pairs (hsz := hz) (kV_is ry) dd fun h' dd' hs => h _ ?_
    have he : ∃ q, h'.get? a = some q := let ⟨q, _, _, hq, _⟩ := dd'; ⟨q, hq⟩
    exact d_write I (by rw [e]; exact True.intro) hs he (dk_new hl hd (rel.put k rv) dd')
  · subst ey eH
    cases (show u = Value.ref b from ry)
    obtain ⟨z, hd, xs, rel, dd⟩ := dt_of I.hok e
    have hz : xs.length <= sizeLine := by rw [← Paired.length rel]; exact z
    have hl : (putK kvs k v).length <= sizeLine := by have := length_putK kvs k v; omega
    refine wpAny_setItem_heap (hsz := hz) (tupleKind_room_in1 hu) (key_of I.hok eb) dd fun h' dd' hs => h _ ?_
    obtain ⟨q, es, ep, hq, h2, h3, h4, _, h5⟩ := dd'
    refine d_write I (by rw [e]; exact True.intro) hs ⟨q, hq⟩ ⟨hl, hd, _, (rel.put k eb rv).keeps fun c ys ec => ?_, q, es, ep, hq, h2, h3, h4, h5⟩
    rw [upd_ne (ne_of ec e (fun z => nomatch z))]
    exact ec
end
section
variable {X : Cx} {pins : List (Addr × Obj)} {σ : St} {H : Hp} {s : Shared} {a : Addr} {kvs : List (Key × V)} {k : Key} {u : Value} {A : Around} {E : Value -> Shared -> Prop}
end
def NoSl (i : Expr) : Prop := ∀ ov iv, subscripted i false ov iv = operate [ov, iv] (getItem ov iv)
theorem subD_of {prog : Program} {w : World} {A : Around} {E : Value -> Shared -> Prop} {s : Shared} {env : Env} {value slice : Expr} {pos : Pos} {T id : String} {Q : Value -> Shared -> Prop}
    (hl : typeLookup (.type T) "__getitem__" = pure (some (.builtin id))) (hs : NoSl slice)
    (h : wpAny (model prog w) A (eval value env) (fun o s₁ => wpAny (model prog w) A (eval slice env) (fun i s₂ => s₂.TypeIs o T /\ wpAny (model prog w) A (getItem o i) Q E s₂) E s₁) E s) :
    wpAny (model prog w) A (eval (.Subscript value slice pos) env) Q E s := by
  refine Subscript_ (wpAny_mono h (fun o s₁ h₁ => wpAny_mono h₁ (fun i s₂ h₂ => ?_) fun _ _ x => x) fun _ _ x => x)
  obtain ⟨hT, h₂⟩ := h₂
  unfold subscriptTail
  refine wpAny_bind ?_
  rw [getitemInPython_of_ne hT.not_modules]
  refine wpAny_bind (wpAny_specialOf hT hl ?_)
  have fin : wpAny (model prog w) A (subscripted slice false o i) (fun r s₃ => wpAny (model prog w) A (letTemporaryGo value o r >>= fun _ => pure r) Q E s₃) E s₂ := by
    rw [hs o i]
    exact wpAny_operating (wpAny_mono h₂ (fun r s₃ h₃ => wpAny_bind (wpAny_letTemporaryGo (wpAny_pure h₃))) fun _ _ x => x)
  first
    | exact wpAny_pure (wpAny_bind fin)
    | exact wpAny_bind (wpAny_pure (wpAny_bind fin))
    | exact wpAny_bind fin
theorem dict_typeIs {X : Cx} {pins : List (Addr × Obj)} {σ : St} {H : Hp} {s : Shared} {a : Addr} {y : V} {o : Option V} (I : Inv X pins σ H s) (g : DGet H a y o) : s.TypeIs (.ref a) "dict" := by
  rcases g with ⟨kvs, k, e, _, _⟩ | ⟨kvs, k, b, e, _, _, _⟩
  · obtain ⟨_, _, vs, _, dd⟩ := dk_rd I.hok e
    exact dd.typeIs
  · obtain ⟨_, _, xs, _, dd⟩ := dt_rd I.hok e
    exact dd.typeIs
def tDGet (td ty : TE) : TE := fun σ H Q => td σ H fun x H1 => ty σ H1 fun y H2 => ∃ a v, x = .ref a /\ DGet H2 a y (some v) /\ Q v H2
def sDPut (td ty tv : TE) : TS := fun D σ H => tv σ H fun v H1 => td σ H1 fun x H2 => ty σ H2 fun y H3 => ∃ a H4, x = .ref a /\ DPut H3 a y v H4 /\ D.nx σ H4
section
variable {X : Cx} {o i e value : Expr} {pos pos' tpos : Pos} {td ty tv : TE}
theorem pe_dget (hu : X.A.units + 1 < cLine) (ho : PE X o td) (hi : PE X i ty) (hs : NoSl i) : PE X (.Subscript o i pos) (tDGet td ty) := by
  intro pins s σ H Q I h
  refine subD_of PySem.F.slot_dict_getitem.lookup hs (thn (ho pins s σ H _ I h) fun u s1 ⟨x, H1, I1, rx, q1⟩ => thn (hi pins s1 σ H1 _ I1 q1) fun iv s2 ⟨y, H2, I2, ry, a, v, ex, g, q2⟩ => ?_)
  subst ex
  obtain rfl : u = Value.ref a := rx
  exact ⟨dict_typeIs I2 g, d_getItem hu I2 g ry fun w' s3 I3 rw' => ⟨v, H2, I3, rw', q2⟩⟩
theorem ps_dput (hu : X.A.units + 1 < cLine) (ho : PE X o td) (hi : PE X i ty) (hv : PE X value tv) (hs : swapsWith value (some (.Subscript o i pos')) pos.line X.env = pure false) :
    PS X (.Assign [.Subscript o i pos'] value pos) (sDPut td ty tv) := by
  intro pins s σ H D I h
  refine wpAny_Assign_Subscript (thn (hv pins s σ H _ I h) fun r s1 ⟨v, H1, I1, rv, q1⟩ => thn (ho pins s1 σ H1 _ I1 q1) fun u s2 ⟨x, H2, I2, rx, q2⟩ => thn (hi pins s2 σ H2 _ I2 q2) fun iv s3 ⟨y, H3, I3, ry, a, H4, ex, g, q3⟩ => ?_) hs
  subst ex
  obtain rfl : u = Value.ref a := rx
  exact d_setItem hu I3 g ry rv fun s4 I4 => ⟨σ, H4, I4, q3⟩
end
theorem dk_empty {P : Program} {w : World} {H : Hp} (h : Heap) (hb : sysModules < h.objs.size) : ObjOk P w H (h.push { cls := .type "dict", data := .dict #[] }) h.objs.size (.dK []) :=
  ⟨Nat.zero_le _, beq_eq_false_iff_ne.mpr (Ne.symm (Nat.ne_of_lt hb)), [], .nil, Heap.DictOf.new h⟩
section
variable {X : Cx} {pos : Pos}
end
def tPairs : List (TE × TE) -> St -> Hp -> (List (V × V) -> Hp -> Prop) -> Prop
  | [], _, H, Q => Q [] H
  | (tk, tv) :: r, σ, H, Q => tk σ H fun x H1 => tv σ H1 fun y H2 => tPairs r σ H2 fun ps H3 => Q ((x, y) :: ps) H3
abbrev VV : List (V × V) -> List (Value × Value) -> Prop := Paired fun p q => RelV p.1 q.1 /\ RelV p.2 q.2
def PPs (X : Cx) (pos : Pos) (keys : List (Option Expr)) (values : List Expr) (trs : List (TE × TE)) : Prop :=
  ∀ (pins : List (Addr × Obj)) (s : Shared) (σ : St) (H : Hp) (Q : List (V × V) -> Hp -> Prop), Inv X pins σ H s -> tPairs trs σ H Q ->
    wpAny (model X.prog X.w) X.A (evalPairs (pairTrees keys values X.env pos)) (fun vs s' => ∃ ps H', Inv X pins σ H' s' /\ VV ps vs /\ Q ps H') X.xe s
theorem pps_nil {X : Cx} {pos : Pos} : PPs X pos [] [] [] := fun pins s σ H Q I h => pairTrees_nil_walk ⟨[], H, I, .nil, h⟩
theorem pps_cons {X : Cx} {pos : Pos} {k v : Expr} {ks : List (Option Expr)} {vs : List Expr} {tk tv : TE} {trs : List (TE × TE)} (hk : PE X k tk) (hv : PE X v tv) (hr : PPs X pos ks vs trs) :
    PPs X pos (some k :: ks) (v :: vs) ((tk, tv) :: trs) := fun pins s σ H Q I h =>
  pairTrees_cons_walk (thn (hk pins s σ H _ I h) fun u s1 ⟨x, H1, I1, rx, q1⟩ => thn (hv pins s1 σ H1 _ I1 q1) fun w2 s2 ⟨y, H2, I2, ry, q2⟩ =>
    thn (hr pins s2 σ H2 _ I2 q2) fun ws s3 ⟨ps, H3, I3, rel, q3⟩ => ⟨(x, y) :: ps, H3, I3, .cons ⟨rx, ry⟩ rel, q3⟩)
def mergeK (kvs more : List (Key × V)) : List (Key × V) := more.foldl (fun acc kv => putK acc kv.1 kv.2) kvs
theorem KV.merge : ∀ {more : List (Key × V)} {rs : List (Key × Value)} {kvs : List (Key × V)} {vs : List (Key × Value)}, KV more rs -> KV kvs vs -> KV (mergeK kvs more) (merged vs rs) := by
  intro more rs kvs vs r
  unfold KV at r
  induction r generalizing kvs vs with
  | nil => intro q; exact q
  | @cons p q ps qs h t ih =>
    intro r0
    have e : KV (putK kvs p.1 p.2) (stored vs q.1 q.2) := by
      have := r0.put p.1 h.2
      rw [← h.1]; exact this
    exact ih e
theorem length_mergeK : ∀ (more kvs : List (Key × V)), (mergeK kvs more).length <= kvs.length + more.length
  | [], kvs => by show kvs.length <= kvs.length + 0; omega
  | p :: r, kvs => by
    have h1 := length_mergeK r (putK kvs p.1 p.2)
    have h2 := length_putK kvs p.1 p.2
    show (mergeK (putK kvs p.1 p.2) r).length <= _
    rw [List.length_cons]; omega
theorem carries_of {P : Program} {w : World} : ∀ {kvs : List (Key × V)} {ws : List (Value × Value)}, VV (kvs.map fun kv => (kV kv.1, kv.2)) ws -> ∃ rs, Carries (mixKind P w) ws rs /\ KV kvs rs
  | [], _, r => by rw [List.map_nil] at r; cases r; exact ⟨[], True.intro, .nil⟩
  | p :: kvs, _, r => by
    rw [List.map_cons] at r
    cases r with
    | @cons a b as bs h t =>
      obtain ⟨rs, c, q⟩ := carries_of (P := P) (w := w) t
      obtain ⟨b1, b2⟩ := b
      exact ⟨(p.1, b2) :: rs, ⟨kV_is h.1, rfl, c⟩, .cons ⟨rfl, h.2⟩ q⟩
def tDisp (trs : List (TE × TE)) : TE := fun σ H Q => ∀ p, H p = none -> tPairs trs σ (upd H p (.dK [])) fun ps H2 => H2 p = some (.dK []) /\ ∃ kvs : List (Key × V), ps = kvs.map (fun kv => (kV kv.1, kv.2)) /\ kvs.length <= 15 /\ Q (.ref p) (upd H2 p (.dK (mergeK [] kvs)))
theorem pe_disp {X : Cx} {pos : Pos} {keys : List (Option Expr)} {values : List Expr} {trs : List (TE × TE)} (h : PPs X pos keys values trs) (hall : keys.all (·.isSome) = true) (hl : keys.length = values.length) (h0 : keys ≠ [])
    (h15 : keys.length <= 15) : PE X (.Dict keys values pos) (tDisp trs) := by
  intro pins s σ H Q I q
  have hn := I.hok.fresh (Nat.le_refl s.heap.objs.size)
  have I1 := I.laid (a := s.heap.objs.size) (o := .dK []) (h' := s.heap.push { cls := .type "dict", data := .dict #[] }) (t' := s.toks) (fun _ _ q => Heap.get?_push_of_some _ q) (Nat.le_refl _) (dk_empty s.heap I.big)
  refine wpAny_Dict_walk (knd := mixKind X.prog X.w) hall hl h0 h15 (thn (h pins _ σ _ _ I1 (q _ hn)) fun ws s2 ⟨ps, H2, I2, rel, e, kvs, ep, lk, q2⟩ => ?_)
  subst ep
  obtain ⟨rs, c, rk⟩ := carries_of (P := X.prog) (w := X.w) rel
  obtain ⟨z, hd, vs0, r0, dd⟩ := dk_of I2.hok e
  cases r0
  refine ⟨rs, c, dd, fun h' dd' hs => ⟨.ref s.heap.objs.size, _, ?_, rfl, q2⟩⟩
  have hz : (mergeK [] kvs).length <= sizeLine := by
    have h1 := length_mergeK kvs []
    rw [List.length_nil] at h1
    rw [sizeLine_eq]; omega
  have he : ∃ q, h'.get? s.heap.objs.size = some q := let ⟨q, _, _, hq, _⟩ := dd'; ⟨q, hq⟩
  exact d_write I2 (by rw [e]; exact True.intro) hs he (dk_new hz hd (rk.merge .nil) dd')
section
variable {X : Cx} {pins : List (Addr × Obj)} {σ : St} {H : Hp} {s : Shared} {a : Addr} {y d : V} {u r : Value} {o : Option V} {A : Around} {E : Value -> Shared -> Prop}
end
section
variable {X : Cx} {o e f : Expr} {apos cpos : Pos} {td ty tx : TE}
end
section
variable {X : Cx} {pins : List (Addr × Obj)} {σ : St} {H : Hp} {s : Shared} {a : Addr} {kvs : List (Key × V)} {A : Around} {E : Value -> Shared -> Prop}
end
section
variable {X : Cx} {pins : List (Addr × Obj)} {σ : St} {H : Hp} {s : Shared} {a : Addr} {y : V} {u : Value} {A : Around} {E : Value -> Shared -> Prop}
end
end L2
namespace Att
open PySem PySem.W PySem.Calls PyProof.Rows
theorem ints_of_wellAll {P : Params} {h : Heap} : ∀ (ns : List Int) (vs : List Value), WellAll P h vs (ns.map WData.int) -> IntsAre vs ns := by
  intro ns
  induction ns with
  | nil =>
    intro vs w
    rw [List.map_nil] at w
    cases w
    exact .nil
  | cons n ns ih =>
    intro vs w
    rw [List.map_cons] at w
    cases w with
    | cons a b =>
      cases a
      exact .cons _ _ (ih _ b)
theorem script_of {l : OpenLaw} {n : Nat} (hn : l.most = some n) {P : Params} {h : Heap} {args : List WData} {vals : List Value}
    (hpre : l.row.toRowW.claim.pre args = true) (hwl : WellAll P h vals args) :
    ∃ a vs ns, vals = [Value.ref a] /\ args = [WData.list (ns.map WData.int)] /\ h.get? a = some { cls := .type "list", data := .seq vs.toArray } /\ IntsAre vs ns /\ ns.length <= n := by
  have hsh : WShape.hasAll [] args [.list .int] = true := (pre_splitW hpre).1
  have hc : l.pre.holds [] { args := args } = true := (pre_splitW hpre).2
  obtain ⟨d, r, rfl, h1, h2⟩ := hasAllW_cons hsh
  obtain rfl := hasAllW_nil h2
  obtain ⟨xs, rfl, h3⟩ := hasW_list h1
  obtain ⟨ns, rfl⟩ := items_int h3
  have hlen : ns.length <= n := by
    unfold OpenLaw.pre at hc
    have h4 : (WTm.not (.lt (.lit (.int (n : Int))) (.len (.arg 0)))).holds [] { args := [.list (ns.map .int)] } = true := by
      have h4 := (holds_andW hc).1
      rw [hn] at h4
      exact h4
    have h5 := condW_of h4 (w_not (w_lt w_lit (w_len_list (w_arg rfl))))
    rw [List.length_map] at h5
    refine Nat.le_of_not_lt fun q => ?_
    have q' : (n : Int) < ((ns.length : Nat) : Int) := by omega
    first
      | (rw [decide_eq_true q'] at h5; exact absurd h5 (by decide))
      | (simp at h5; omega)
  cases hwl with
  | cons w1 w2 =>
    cases w2
    cases w1 with
    | list ho hall => exact ⟨_, _, ns, rfl, rfl, ho, ints_of_wellAll ns _ hall, hlen⟩
theorem post_true (l : OpenLaw) (args : List WData) : l.row.toRowW.claim.post args (.bool true) args = true :=
  postW_of (r := l.row.toRowW) (X := (true == true))
    (show WShape.has [] (.bool true) .bool = true by first | rfl | decide | simp [WShape.has, WShape.arms, WShape.armsAll])
    (show (WTm.eq .res (.lit (.bool true))).value [] { args := args, res := some (.bool true), after := args } = some (.bool (true == true)) from w_eq_bool (w_res rfl) w_lit) rfl
theorem attach_call {l : OpenLaw} {n : Nat} {q : Program} {loose : List Str} {XP : (Str -> Option Value) -> Heap -> Prop} {YP : World -> Heap -> Prop} {d : DefRec}
    (hn : l.most = some n) (hdf : d.params.defaults = [])
    (call : ∀ (w : World) (s₀ s₁ : Shared) (mg mb : Str -> Option Value) (fa : Addr) (o : Obj) (pm cd doc : Value) (a : Addr) (vs : List Value) (ns : List Int),
      Ground q loose [] XP w s₀ mg mb s₁.heap -> YP w s₁.heap ->
      s₁.heap.get? fa = some o -> o.data = .func (docDef d.name d.params d.body d.scope pm cd doc) -> s₁.heap.CodeRec cd d.name -> mg d.name = some (.ref fa) ->
      s₁.heap.get? a = some { cls := .type "list", data := .seq vs.toArray } -> IntsAre vs ns -> ns.length <= n -> s₁.gens = #[] ->
      codeAny (model l.prog w) callerA (.call (.ref fa) ⟨[.ref a], []⟩) (fun r s' => r = .ok (.ret (.bool true)) /\ OldK s₁.heap s'.heap /\ s'.os = s₁.os /\ AllBare s'.gens) s₁) :
    WalkO q loose XP YP l.row.toRowW d [] (fun f vs => PySem.call f vs) := by
  intro w s₀ s₁ mg mb G Y fa o pm cd doc dV kV ho hd hcd hD hmg hg args vals as hpre hlay hrd hwl hlo
  obtain rfl : dV = .none := Dflts.none hD hdf
  obtain rfl : kV = .none := Dflts.noKw hD
  obtain ⟨a, vs, ns, rfl, rfl, hobj, hints, hlen⟩ := script_of hn hpre hwl
  refine enter_call (codeAny_mono (call w s₀ s₁ mg mb fa o pm cd doc a vs ns G Y ho (fd_plain hd) hcd hmg hobj hints hlen hg) fun r s' hq => ?_)
  obtain ⟨rfl, h2, h3, h4⟩ := hq
  exact ⟨.inl ⟨.bool true, .bool true, [], rfl, fun _ => rfl, .bool true, post_true l _, fun _ => ⟨List.Pairwise.nil, fun _ hm => (nomatch hm)⟩⟩, h2, h3, h4⟩
section
variable {prog : Program} {w : World} {A : Around} {E : Value -> Shared -> Prop} {s : Shared} {K : Frag}
end
end Att
namespace L2
open PySem PySem.Spec PyProof.Rows
theorem vals_ints : ∀ {vs : List Value} {ns : List Int}, IntsAre vs ns -> Vals (ns.map V.int) vs
  | _, _, .nil => .nil
  | _, _, .cons n t h => .cons ⟨t, rfl⟩ (vals_ints h)
def Only (H : Hp) : Prop := ∀ b, H b = none ∨ ∃ o xs, H b = some (.frz o (.lst xs))
theorem law_call {P : Program} {w : World} {K : PySem.W.Frag} {mg mb : Str -> Option Value} {CX : CXT} {k : Nat} {fa a : Addr} {fd : FuncData} {x : Str} {sp : Sp} {s₁ : Shared} {vs : List Value} {ns : List Int}
    (KX : K.In s₁.heap) (hns : s₁.heap.Ns mainGlobals mg) (hb : s₁.heap.Ns builtinsNs mb) (hbb : ∀ x : Str, x ≠ "__name__" -> mb x = bootBuiltins x) (hlim : s₁.heap.NoLimit) (hdg : s₁.heap.NoDigits) (hbm : ∃ bm ob, mg "__builtins__" = some (.ref bm) /\ bm ≠ builtinsNs /\ s₁.heap.get? bm = some ob /\ ob.cls = .type "module" /\ ob.dict = some builtinsNs /\ ob.data = .plain) (hg : s₁.gens = #[])
    (ha : s₁.heap.get? a = some { cls := .type "list", data := .seq vs.toArray }) (hi : IntsAre vs ns) (hl : ns.length <= sizeLine) (hr : Room k callerA)
    (F : ∀ base : Heap, K.In base -> base.Ns mainGlobals mg -> FnOk P w K mg base CX k fa fd [x] sp) (hbind : ∀ (s : Shared) (u : Value), BindsTo s fd ⟨[u], []⟩ [(x, u)])
    (hsp : ∀ H : Hp, Only H -> SqL K H a (ns.map V.int) -> sp [.ref a] H (fun v _ => v = .bl true) fun _ _ _ => False)
    (hCX : ∀ H e s', CX [] H s₁ (fun _ _ _ => False) e s' -> False) :
    codeAny (model P w) callerA (.call (.ref fa) ⟨[.ref a], []⟩) (fun r s' => r = .ok (.ret (.bool true)) /\ OldK s₁.heap s'.heap /\ s'.os = s₁.os /\ AllBare s'.gens) s₁ := by
  have rv := vals_ints hi
  have lenV := hi.length
  have core : ∀ H : Hp, Only H -> SqL K H a (ns.map V.int) -> HOk P w H s₁.heap -> (∀ b, H b ≠ none -> b = a) -> (H a ≠ none -> K.lookup a = none) ->
      codeAny (model P w) callerA (.call (.ref fa) ⟨[.ref a], []⟩) (fun r s' => r = .ok (.ret (.bool true)) /\ OldK s₁.heap s'.heap /\ s'.os = s₁.os /\ AllBare s'.gens) s₁ := by
    intro H hO hS hok hA hK
    have base_of : ∀ {b : Addr} {o : Obj}, s₁.heap.get? b = some o -> H b = none -> (hidT s₁.heap H).get? b = some o := fun e n => hidT_get e n
    have noA : ∀ {b : Addr} {o : Obj} {es : Array DictEntry} {ep : Nat}, s₁.heap.get? b = some o -> o.data = .dict es ep -> H b = none := fun {b o es ep} e d => by
      cases q : H b with
      | none => rfl
      | some u =>
        have e' : b = a := hA b (by rw [q]; simp)
        subst e'
        rw [ha] at e; cases e
        have d' : Data.seq vs.toArray _ = Data.dict es ep := d
        cases d'
    have nsK : ∀ {b : Addr} {m : Str -> Option Value}, s₁.heap.Ns b m -> (hidT s₁.heap H).Ns b m := fun {b m} ⟨o, es, ep, e, d, r⟩ => ⟨o, es, ep, base_of e (noA e d), d, r⟩
    have hKb : K.In (hidT s₁.heap H) := fun b o e => base_of (KX b o e) (by
      cases q : H b with
      | none => rfl
      | some u =>
        have e' : b = a := hA b (by rw [q]; simp)
        subst e'
        rw [hK (by rw [q]; simp)] at e; cases e)
    have hM : Mod K mg (hidT s₁.heap H) := ⟨hKb, nsK hns, ⟨mb, nsK hb, hbb⟩, let ⟨mc, h1, h2⟩ := hlim; ⟨mc, nsK h1, h2⟩, let ⟨mc, h1, h2⟩ := hdg; ⟨mc, nsK h1, h2⟩,
      let ⟨bm, ob, b1, b2, b3, b4, b5, b6⟩ := hbm; ⟨bm, ob, b1, b2, base_of b3 (by
        cases q : H bm with
        | none => rfl
        | some u =>
          have e' : bm = a := hA bm (by rw [q]; simp)
          subst e'
          rw [ha] at b3; cases b3; cases b6), b4, b5, b6⟩⟩
    have e0 : Env0 P w K mg (hidT s₁.heap H) callerA [] s₁ H := ⟨rfl, hM, fun b o e => of_hidT e, Nat.le_of_eq (hidT_size _ _), trivial, fun b hb => absurd (show b ∈ ([] : List Addr) from hb) (by simp), hok, .of_eq hg⟩
    refine codeAny_mono ((F _ hKb (nsK hns)).run callerA [] s₁ H ⟨[.ref a], []⟩ [.ref a] [.ref a] _ _ hr e0 (hbind s₁ (.ref a)) (.cons rfl .nil) (hsp H hO hS)) fun r s' h => ?_
    cases r with
    | error e => exact (hCX H e s' h).elim
    | ok fl =>
      cases fl with
      | next => exact False.elim h
      | brk => exact False.elim h
      | cont => exact False.elim h
      | ret u =>
        obtain ⟨v, H', os, bare, un, hok', r', q⟩ := h
        have q' : v = .bl true := q
        subst q'
        obtain rfl : u = Value.bool true := r'
        refine ⟨rfl, OldK.of_keep fun b o e => ?_, os, bare⟩
        cases q : H b with
        | none => exact un.keep b o e q (by intro z; exact absurd (show b ∈ ([] : List Addr) from z) (by simp)) (by simp)
        | some u =>
          rcases hO b with z | ⟨ob, xs, z⟩
          · rw [q] at z; cases z
          · have z2 := un.frzs b ob _ z
            obtain ⟨e1, _⟩ := hok b _ z
            obtain ⟨e2, _⟩ := hok' b _ z2
            rw [e] at e1; cases e1
            exact e2
  cases hk : K.lookup a with
  | some o =>
    have e := KX a o hk
    rw [ha] at e
    cases e
    refine core (fun _ => none) (fun _ => .inl rfl) (.inr ⟨_, vs.toArray, _, hk, rfl, rfl, rfl, by rw [List.size_toArray, lenV]; exact hl, by simpa using rv⟩) (fun b u z => by have z' : (none : Option HO) = some u := z; cases z') (fun b z => absurd rfl z) fun z => absurd rfl z
  | none =>
    refine core (fun b => if b = a then some (.frz { cls := .type "list", data := .seq vs.toArray } (.lst (ns.map V.int))) else none) (fun b => ?_) (.inl (.inr ⟨{ cls := .type "list", data := .seq vs.toArray }, if_pos rfl⟩)) (fun b u z => ?_) (fun b z => ?_) fun _ => hk
    · by_cases hb : b = a
      · exact .inr ⟨_, _, if_pos hb⟩
      · exact .inl (if_neg hb)
    · by_cases hb : b = a
      · have z' := (if_pos hb).symm.trans z
        cases z'
        subst hb
        exact ⟨ha, by rw [List.length_map]; exact hl, vs, _, rv, ha⟩
      · have z' := (if_neg hb).symm.trans z
        cases z'
    · by_cases hb : b = a
      · exact hb
      · exact absurd (if_neg hb) z
end L2
namespace L2
open PySem PySem.Spec PyProof.Rows
theorem walk_of {l : PySem.W.OpenLaw} {n k : Nat} {q : Program} {loose : List Str} {XP : (Str -> Option Value) -> Heap -> Prop} {YP : World -> Heap -> Prop} {d : DefRec} {K : Params -> PySem.W.Frag} {CX : World -> CXT} {sp : World -> Sp} {x : Str}
    (hn : l.most = some n) (hn2 : n <= sizeLine) (hdf : d.params.defaults = []) (hr : Room k callerA)
    (hY : ∀ (w : World) (h : Heap), YP w h -> (K w.params).In h)
    (F : ∀ (w : World) (mg : Str -> Option Value) (fa : Addr) (h : Heap), (K w.params).In h -> h.Ns mainGlobals mg -> mg d.name = some (.ref fa) ->
      ∃ fd : FuncData, (∀ (s : Shared) (u : Value), BindsTo s fd ⟨[u], []⟩ [(x, u)]) /\
        ∀ base : Heap, (K w.params).In base -> base.Ns mainGlobals mg -> FnOk l.prog w (K w.params) mg base (CX w) k fa fd [x] (sp w))
    (hsp : ∀ (w : World) (H : Hp) (a : Addr) (ns : List Int), ns.length <= n -> Only H -> SqL (K w.params) H a (ns.map V.int) -> sp w [.ref a] H (fun v _ => v = .bl true) fun _ _ _ => False)
    (hCX : ∀ (w : World) (H : Hp) (s : Shared) (e : Value) (s' : Shared), CX w [] H s (fun _ _ _ => False) e s' -> False) :
    PySem.W.WalkO q loose XP YP l.row.toRowW d [] (fun f vs => PySem.call f vs) := by
  refine Att.attach_call hn hdf fun w s₀ s₁ mg mb fa o pm cd doc a vs ns G Y ho hd hcd hmg hobj hints hlen hg => ?_
  have KX := hY w _ Y
  obtain ⟨fd, hb, hF⟩ := F w mg fa _ KX G.T.g hmg
  exact law_call KX G.T.g G.T.b G.T.builtins G.T.nolimit G.T.nodigits G.T.bmain hg hobj hints (Nat.le_trans hlen hn2) hr hF hb (fun H hO hS => hsp w H a ns hlen hO hS) fun H e s' => hCX w H s₁ e s'
end L2
namespace L2
open PySem PySem.Spec PyProof.Rows
def defArgs (s : Stmt) : Arguments := match s with
  | .FunctionDef _ a _ _ _ _ _ _ _ _ => a
  | _ => { posonlyargs := [], args := [], vararg := none, kwonlyargs := [], kw_defaults := [], kwarg := none, defaults := [] }
def defBody (s : Stmt) : List Stmt := match s with
  | .FunctionDef _ _ b _ _ _ _ _ _ _ => b
  | _ => []
def defScope (s : Stmt) : Scope := match s with
  | .FunctionDef _ _ _ _ _ _ sc _ _ _ => sc
  | _ => { kind := .function, names := [], isGenerator := false, isCoroutine := false }
abbrev CX0 : CXT := fun _ _ _ _ _ _ => False
abbrev E0 : XK := fun _ _ _ => False
theorem pass0 {X : Cx} : Passes CX0 X E0 := fun _ _ _ _ _ _ _ h => h.elim
structure Fun (K : PySem.W.Frag) (x qual : Str) (st : Stmt) (f : Addr) (fd : FuncData) : Prop where
  ex : ∃ (oc : Value) (od : Option Addr) (kV doc pm : Value) (an : Option Addr) (cdv ct : Value) (osl : Array (Option Value)),
    fd = PySem.W.fnOf x qual (defArgs st) (defBody st) (defScope st) .none kV doc pm an cdv ct /\ K.lookup f = some ⟨oc, od, .func fd, osl⟩ /\ PySem.W.codeIn K cdv qual = true
  kp : PySem.W.keepIn K (.ref f) = true
section
variable {P : Program} {w : World} {K : PySem.W.Frag} {mg : Str -> Option Value} {base : Heap}
theorem Fun.ok {x qual : Str} {st : Stmt} {f : Addr} {fd : FuncData} {N ps : List Str} {k : Nat} {sp : Sp} (F : Fun K x qual st f fd) (S : FnScope N ps (defScope st)) (len : ∀ vs H Q E, sp vs H Q E -> vs.length = ps.length)
    (hbody : ∀ (cdv : Value) (A : Around) (outer : List Env) (s : Shared) (H : Hp) (vs : List V) (Q : VK) (E : XK), Room k (A.deeper (envOfC qual (defScope st) s.heap.objs.size f cdv)) -> sp vs H Q E ->
      ∃ t, PSs (cxOf CX0 P w K mg base N qual (defScope st) f cdv A outer s H E).nox (defBody st) t /\ t { nx := fun _ H' => Q .non H', rt := Q } (start N vs) H) : FnOk P w K mg base CX0 (k + 1) f fd ps sp := by
  obtain ⟨oc, od, kV, doc, pm, an, cdv, ct, osl, rfl, lk, hcd⟩ := F.ex
  refine fn_of lk hcd S len fun A outer s H vs Q E hr hsp => ?_
  obtain ⟨t, h, q⟩ := hbody cdv A outer s H vs Q E hr hsp
  exact ⟨t, h.nox, q⟩
theorem Fun.binds {x qual : Str} {st : Stmt} {f : Addr} {fd : FuncData} {ps : List Str} (F : Fun K x qual st f fd)
    (h : ∀ (kV doc pm : Value) (an : Option Addr) (cdv ct : Value) (us : List Value), us.length = ps.length -> bindArgs (PySem.W.fnOf x qual (defArgs st) (defBody st) (defScope st) .none kV doc pm an cdv ct) ⟨us, []⟩ = pure (ps.zip us)) : Binds K fd ps [] := by
  obtain ⟨oc, od, kV, doc, pm, an, cdv, ct, osl, rfl, lk, hcd⟩ := F.ex
  exact .all (h kV doc pm an cdv ct)
theorem fun_mk {x qual : Str} {st : Stmt} {f : Addr} {oc : Value} {od an : Option Addr} {osl : Array (Option Value)} {kV doc pm cdv ct : Value} (l : K.lookup f = some ⟨oc, od, .func (PySem.W.fnOf x qual (defArgs st) (defBody st) (defScope st) .none kV doc pm an cdv ct), osl⟩)
    (c : PySem.W.codeIn K cdv qual = true) (k : PySem.W.keepIn K (.ref f) = true) : Fun K x qual st f (PySem.W.fnOf x qual (defArgs st) (defBody st) (defScope st) .none kV doc pm an cdv ct) := ⟨⟨oc, od, kV, doc, pm, an, cdv, ct, osl, rfl, l, c⟩, k⟩
end
theorem hu_of {A : Around} {k : Nat} (hr : Room k A) : A.units + 1 < cLine := Nat.lt_of_le_of_lt (Nat.add_le_add_left (by decide : 1 <= 64) _) hr.units
theorem small1000 {n : Nat} (h : n <= 1000) : n < sizeLine := Nat.lt_of_le_of_lt h (by decide)
section
variable {X : Cx}
theorem pv (i : Nat) {x : Str} {pos : Pos} (hN : X.N[i]? = some x := by rfl) (hv : Vis X.env.scope x := by first | exact Or.inl rfl | exact Or.inr (Or.inl rfl) | exact Or.inr (Or.inr rfl)) (hd : (x == ("__debug__" : Str)) = false := by decide)
    (hcd : (x == ("__classdict__" : Str)) = false := by decide) : PE X (.Name x pos) (tVar i) := pe_var hN hv hd hcd
end
section
variable {κ : Type} [DecidableEq κ]
end
end L2
set_option maxHeartbeats 4000000
namespace L2
open PySem PySem.Spec PyProof.Rows
def SrcOk (X : Cx) (scope : Scope) : List (Str × Option Nat) -> Prop
  | [] => True
  | (_, none) :: r => SrcOk X scope r
  | (x, some j) :: r => (X.N[j]? = some x /\ scope.names.lookup x = some .free /\ (X.env.kindOf x = some .cell ∨ X.env.kindOf x = some .free)) /\ SrcOk X scope r
def srcV (l : List (Str × Option Nat)) (σ : St) : St := l.map fun p => p.2.bind fun j => (σ[j]?).join
theorem SrcOk.get {X : Cx} {scope : Scope} : ∀ {l : List (Str × Option Nat)}, SrcOk X scope l -> ∀ {i : Nat} {x : Str} {j : Nat}, l[i]? = some (x, some j) ->
    X.N[j]? = some x /\ scope.names.lookup x = some .free /\ (X.env.kindOf x = some .cell ∨ X.env.kindOf x = some .free)
  | [], _, i, x, j, e => by simp at e
  | (y, none) :: r, h, 0, x, j, e => by simp at e
  | (y, none) :: r, h, i + 1, x, j, e => SrcOk.get (l := r) h (i := i) (by simpa using e)
  | (y, some k) :: r, h, 0, x, j, e => by
    simp at e
    obtain ⟨rfl, rfl⟩ := e
    exact h.1
  | (y, some k) :: r, h, i + 1, x, j, e => SrcOk.get (l := r) h.2 (i := i) (by simpa using e)
theorem closure_ok (env : Env) : ∀ (names : List (Str × NameKind)) (cs0 : List (Str × Addr)), (∀ x ∈ names, x.2 = .free -> ∃ c, env.cells.lookup x.1 = some c) ->
    ∃ cl, (forIn names cs0 (fun (x : Str × NameKind) (cs : List (Str × Addr)) => (if x.2 == .free then do let a ← cellOf env x.1; pure (ForInStep.yield ((x.1, a) :: cs)) else pure (ForInStep.yield cs) : Sem (ForInStep (List (Str × Addr)))))) = pure cl /\
      (∀ y c, cl.lookup y = some c -> env.cells.lookup y = some c ∨ cs0.lookup y = some c) /\ (∀ x ∈ names, x.2 = .free -> ∃ c, cl.lookup x.1 = some c ) /\ (∀ y, (∃ c, cs0.lookup y = some c) -> ∃ c, cl.lookup y = some c)
  | [], cs0, h => ⟨cs0, rfl, fun _ _ e => .inr e, fun _ hx => (nomatch hx), fun _ e => e⟩
  | (n, k) :: r, cs0, h => by
    by_cases hk : k = .free
    · subst hk
      obtain ⟨c, ec⟩ := h (n, .free) List.mem_cons_self rfl
      obtain ⟨cl, e1, e2, e3, e4⟩ := closure_ok env r ((n, c) :: cs0) fun x hx => h x (List.mem_cons_of_mem _ hx)
      have hc : cellOf env n = pure c := by
        unfold cellOf
        have ec' : env.cells.lookup n = some c := ec
        rw [ec']
      have own : ∃ c', cl.lookup n = some c' := e4 n ⟨c, by simp [List.lookup_cons]⟩
      refine ⟨cl, ?_, fun y d e => ?_, fun x hx hf => ?_, fun y ⟨d, e⟩ => ?_⟩
      · rw [List.forIn_cons]
        simp only [beq_self_eq_true, if_true, hc, pure_bind]
        exact e1
      · rcases e2 y d e with z | z
        · exact .inl z
        · rw [List.lookup_cons] at z
          split at z
          · rename_i hy
            have : y = n := by simpa using hy
            subst this
            cases z
            exact .inl ec
          · exact .inr z
      · rcases List.mem_cons.mp hx with rfl | hx
        · exact own
        · exact e3 x hx hf
      · refine e4 y ?_
        rw [List.lookup_cons]
        split
        · exact ⟨_, rfl⟩
        · exact ⟨d, e⟩
    · obtain ⟨cl, e1, e2, e3, e4⟩ := closure_ok env r cs0 fun x hx => h x (List.mem_cons_of_mem _ hx)
      have hb : (k == NameKind.free) = false := by simpa using hk
      refine ⟨cl, ?_, e2, fun x hx hf => ?_, e4⟩
      · rw [List.forIn_cons]
        simp only [hb, Bool.false_eq_true, if_false, pure_bind]
        exact e1
      · rcases List.mem_cons.mp hx with rfl | hx
        · exact absurd hf hk
        · exact e3 x hx hf
theorem closureFor_ok {scope : Scope} {env : Env} (h : ∀ x ∈ scope.names, x.2 = .free -> ∃ c, env.cells.lookup x.1 = some c) :
    ∃ cl, closureFor scope env = pure cl /\ (∀ y c, cl.lookup y = some c -> env.cells.lookup y = some c) /\ ∀ x ∈ scope.names, x.2 = .free -> ∃ c, cl.lookup x.1 = some c := by
  obtain ⟨cl, e1, e2, e3, _⟩ := closure_ok env scope.names [] h
  refine ⟨cl, ?_, fun y c e => (e2 y c e).elim id fun z => by simp at z, e3⟩
  unfold closureFor
  have e1' := e1
  simp only [bind_pure_comp] at e1' ⊢
  first
    | (rw [e1']; rfl)
    | (simp only [e1']; rfl)
    | (simpa using e1')
theorem lookup_relabel_free {env : Env} : ∀ {names : List (Str × NameKind)} {x : Str}, names.lookup x = some .free ->
    ((names.map fun (n, k) => if (k == NameKind.free && env.scope.kind == .function && env.kindOf n == some .cell) then (n, NameKind.cell) else (n, k)).lookup x = some .cell ∨
     (names.map fun (n, k) => if (k == NameKind.free && env.scope.kind == .function && env.kindOf n == some .cell) then (n, NameKind.cell) else (n, k)).lookup x = some .free)
  | [], _, h => by simp at h
  | (n, k) :: r, x, h => by
    have ih := @lookup_relabel_free env r x
    show List.lookup x ((if (k == NameKind.free && env.scope.kind == .function && env.kindOf n == some .cell) = true then (n, NameKind.cell) else (n, k)) :: _) = _ ∨ List.lookup x ((if (k == NameKind.free && env.scope.kind == .function && env.kindOf n == some .cell) = true then (n, NameKind.cell) else (n, k)) :: _) = _
    cases hx : x == n with
    | true =>
      simp only [List.lookup_cons, hx] at h
      cases h
      by_cases hc : (NameKind.free == NameKind.free && env.scope.kind == .function && env.kindOf n == some .cell) = true
      · rw [if_pos hc]; left; simp [List.lookup_cons, hx]
      · rw [if_neg hc]; right; simp [List.lookup_cons, hx]
    | false =>
      simp only [List.lookup_cons, hx] at h
      by_cases hc : (k == NameKind.free && env.scope.kind == .function && env.kindOf n == some .cell) = true
      · rw [if_pos hc]; simp only [List.lookup_cons, hx]; exact ih h
      · rw [if_neg hc]; simp only [List.lookup_cons, hx]; exact ih h
theorem relabel_back {env : Env} {x : Str} : ∀ {names : List (Str × NameKind)},
    ((names.map fun (n, k) => if (k == NameKind.free && env.scope.kind == .function && env.kindOf n == some .cell) then (n, NameKind.cell) else (n, k)).lookup x = some .cell ∨
     (names.map fun (n, k) => if (k == NameKind.free && env.scope.kind == .function && env.kindOf n == some .cell) then (n, NameKind.cell) else (n, k)).lookup x = some .free) -> (x, NameKind.free) ∈ names ∨ names.lookup x = some .cell
  | [], h => by simp at h
  | (n, k) :: r, h => by
    have ih := @relabel_back env x r
    simp only [List.map_cons] at h
    by_cases hb : (k == NameKind.free && env.scope.kind == .function && env.kindOf n == some .cell) = true
    · rw [if_pos hb] at h
      have hkf : k = .free := by
        have := (Bool.and_eq_true_iff.mp (Bool.and_eq_true_iff.mp hb).1).1
        simpa using this
      by_cases hx : x = n
      · rw [hx, hkf]; exact .inl List.mem_cons_self
      · have hx' : (x == n) = false := by simpa using hx
        simp only [List.lookup_cons, hx'] at h ⊢
        exact (ih h).imp (List.mem_cons_of_mem _) id
    · rw [if_neg hb] at h
      by_cases hx : x = n
      · have hx' : (x == n) = true := by simpa using hx
        simp only [List.lookup_cons, hx'] at h ⊢
        rcases h with h | h
        · exact .inr h
        · rw [hx, Option.some.inj h]; exact .inl List.mem_cons_self
      · have hx' : (x == n) = false := by simpa using hx
        simp only [List.lookup_cons, hx'] at h ⊢
        exact (ih h).imp (List.mem_cons_of_mem _) id
theorem cellsFrom_app : ∀ (names : List (Str × NameKind)) (n : Nat) (acc more : List (Str × Addr)), cellsFrom n names (acc ++ more) = cellsFrom n names acc ++ more
  | [], _, _, _ => rfl
  | (x, k) :: r, n, acc, more => by
    unfold cellsFrom
    split
    · exact cellsFrom_app r (n + 1) ((x, n) :: acc) more
    · exact cellsFrom_app r n acc more
theorem cellsFrom_mem : ∀ (names : List (Str × NameKind)) (n : Nat) (acc : List (Str × Addr)) (x : Str) (c : Addr), (x, c) ∈ cellsFrom n names acc -> (x, NameKind.cell) ∈ names ∨ (x, c) ∈ acc
  | [], _, _, _, _, h => .inr h
  | (y, k) :: r, n, acc, x, c, h => by
    unfold cellsFrom at h
    split at h
    · rename_i hk
      have hk : k = .cell := by simpa using hk
      rcases cellsFrom_mem r _ _ x c h with z | z
      · exact .inl (List.mem_cons_of_mem _ z)
      · rcases List.mem_cons.mp z with z | z
        · cases z; rw [hk]; exact .inl List.mem_cons_self
        · exact .inr z
    · exact (cellsFrom_mem r _ _ x c h).imp (List.mem_cons_of_mem _) id
theorem newFunctionEnv_comp {M : Model} {A : Around} {E : Value -> Shared -> Prop} {s : Shared} {scope : Scope} {globals : Addr} {closure : List (Str × Addr)} {qual : Str} {outer : Env} {Q : Env -> Shared -> Prop}
    (hQ : Q (newEnv scope s.heap.objs.size globals (cellsFrom (s.heap.objs.size + 1) scope.names closure) qual none .none (some outer) 0) { s with heap := pushCells (s.heap.push { cls := .type "dict", data := .dict #[] }) scope.names }) :
    wpAny M A (newFunctionEnv scope globals closure [] qual none .none (some outer)) Q E s := by
  simp only [newFunctionEnv, Option.isSome_some, if_true]
  refine wpAny_bind (wpAny_alloc ?_)
  refine wpAny_bind (wpAny_layCells _ (fun name kind cells => by cases hkc : kind == NameKind.cell <;> simp [hkc]) _ _ _ _ ?_)
  rw [show ({ s with heap := s.heap.push { cls := .type "dict", data := .dict #[] } } : Shared).heap.objs.size = s.heap.objs.size + 1 from Heap.size_push ..]
  exact wpAny_bind (wpAny_pure (wpAny_pure hQ))
def cxComp (X : Cx) (l : List (Str × Option Nat)) (scope : Scope) (cl : List (Str × Addr)) (C : Addr) (fp : List Addr) (s3 : Shared) (H3 : Hp) : Cx :=
  { X with N := l.map (·.1), s₀ := s3, H₀ := H3, env := compEnvC scope cl C X.env, outer := X.stack, ex := fp, fn := fun x => scope.names.lookup x == some .cell, pn := [], xe := fun _ _ => False }
def PIf (X : Cx) (ifs : List Expr) (t : TT) : Prop :=
  ∀ (pins : List (Addr × Obj)) (s : Shared) (σ : St) (H : Hp) (Q : Bool -> Hp -> Prop), Inv X pins σ H s -> t σ H Q ->
    wpAny (model X.prog X.w) X.A (forIn ifs true fun c r => if r = true then do let ok ← isTrue c X.env (eval c X.env); pure (ForInStep.yield ok) else pure (ForInStep.yield r)) (TP X pins σ Q) X.xe s
def tYes : TT := fun _ H Q => Q true H
theorem pif_nil {X : Cx} : PIf X [] tYes := fun _ _ _ H _ I h => wpAny_tests_nil ⟨H, I, h⟩
theorem pif_one {X : Cx} {c : Expr} {t : TT} (h : PT X c t) : PIf X [c] t := fun pins s σ H Q I hw => wpAny_tests_one (h pins s σ H Q I hw)
def TurnIs (e tg : Expr) (ifs : List Expr) (p : Pos) (d : Nat) (body : Value -> Env -> Sem Unit) : Prop :=
  ∀ it acc env, compTurn e d it acc env = (standAt p >>= fun _ => pyNext it >>= fun r => match r with
    | none => pure (.done .next)
    | some v => letOwnedTupleGo tg it v >>= fun _ => assign tg env v >>= fun _ => (forIn ifs true fun c r => if r = true then do let ok ← isTrue c env (eval c env); pure (ForInStep.yield ok) else pure (ForInStep.yield r)) >>= fun ok =>
      if ok = true then body acc env >>= fun _ => again (.compLoop e d it acc env) else again (.compLoop e d it acc env))
def LorS (e : Expr) : Prop := (∃ a b c d, e = .ListComp a b c d) ∨ ∃ a b c d, e = .SetComp a b c d
theorem compLoop_any {prog : Program} {w : World} {A : Around} {R : Result -> Shared -> Prop} {s : Shared} {e tg : Expr} {ifs : List Expr} {p : Pos} {d : Nat} {body : Value -> Env -> Sem Unit} (hn : LorS e) (ht : TurnIs e tg ifs p d body) {it acc : Value} {env : Env} (I : Nat -> Shared -> Prop)
    (turn : ∀ n s, I n s -> wpAny (model prog w) A (pyNext it) (fun r s₁ => match r with
      | none => R (.ok .next) s₁
      | some v => wpAny (model prog w) A (letOwnedTupleGo tg it v) (fun _ s₁' => wpAny (model prog w) A (assign tg env v) (fun _ s₂ =>
          wpAny (model prog w) A (forIn ifs true fun c r => if r = true then do let ok ← isTrue c env (eval c env); pure (ForInStep.yield ok) else pure (ForInStep.yield r)) (fun ok s₃ =>
            if ok = true then wpAny (model prog w) A (body acc env) (fun _ s₅ => ∃ m, m < n /\ I m s₅) (fun _ _ => False) s₃
            else ∃ m, m < n /\ I m s₃) (fun _ _ => False) s₂) (fun _ _ => False) s₁') (fun _ _ => False) s₁) (fun _ _ => False) s)
    (n : Nat) (h : I n s) :
    codeAny (model prog w) A (.compLoop e d it acc env) R s := by
  have no : ∀ {α : Type} {t : Sem α} {Q : α -> Shared -> Prop} {E : Value -> Shared -> Prop} {s : Shared}, wpAny (model prog w) A t Q (fun _ _ => False) s -> wpAny (model prog w) A t Q E s := fun h => wpAny_mono h (fun _ _ q => q) fun _ _ f => f.elim
  refine codeAny_loop rfl I (fun n s hI => ?_) n h
  have hd : (model prog w).den (.compLoop e d it acc env) = (compTurn e d it acc env).onRaise (fun x => do noteFrame x env; theTreesLotGoes x) := by rcases hn with ⟨_, _, _, _, rfl⟩ | ⟨_, _, _, _, rfl⟩ <;> rfl
  have hu : A.under (.compLoop e d it acc env) = A := by rcases hn with ⟨_, _, _, _, rfl⟩ | ⟨_, _, _, _, rfl⟩ <;> rfl
  rw [hd, hu]
  refine wpAny_noted ?_
  rw [ht]
  refine wpAny_bind (wpAny_standAt (wpAny_bind (thn (no (turn n s hI)) (fun r s₁ h₁ => ?_))))
  cases r with
  | none => exact wpAny_pure h₁
  | some v =>
    refine wpAny_bind (thn (no h₁) fun _ s1' h1' => ?_)
    refine wpAny_bind (thn (no h1') (fun _ s₂ h₂ => wpAny_bind (thn (no h₂) (fun ok s₃ h₃ => ?_))))
    cases ok with
    | false => exact wpAny_pure ⟨rfl, h₃⟩
    | true => exact wpAny_bind (thn (no h₃) (fun _ s₅ h₅ => wpAny_pure ⟨rfl, h₅⟩))
theorem compStart_any {prog : Program} {w : World} {A : Around} {R : Result -> Shared -> Prop} {s : Shared} {e : Expr} {d : Nat} {gc : Comprehension} {it acc : Value} {env : Env} (hn : LorS e) (hg : (clausesOf e)[d]? = some gc) (ha : gc.is_async = 0)
    (h0 : codeAny (model prog w) A (.compLoop e d it acc env) R s)
    (h : wpAny (model prog w) A (pyIter it) (fun it' s' => codeAny (model prog w) A (.compLoop e d it' acc env) R s') (fun _ _ => False) s) :
    codeAny (model prog w) A (.compStart e d it acc env) R s := by
  refine codeAny_of_tree ?_
  have hd : (model prog w).den (.compStart e d it acc env) = (compStart e d it acc env).onRaise (fun x => do noteFrame x env; standAt theWindowsPlace) := by rcases hn with ⟨_, _, _, _, rfl⟩ | ⟨_, _, _, _, rfl⟩ <;> rfl
  have hu : A.under (.compStart e d it acc env) = A := by rcases hn with ⟨_, _, _, _, rfl⟩ | ⟨_, _, _, _, rfl⟩ <;> rfl
  rw [hd, hu]
  refine wpAny_notedAt ?_
  unfold compStart
  rw [hg]
  have e1 : (some gc).elim false (fun x => x.is_async != 0) = false := by show (gc.is_async != 0) = false; rw [ha]; rfl
  rw [e1]
  show wpAny _ _ (ask >>= _) _ _ s
  refine wpAny_bind (wpAny_askSetting (wpAny_ite ?_))
  split
  · first
      | exact wpAny_bind (wpAny_pure (wpAny_pure (And.intro rfl h0)))
      | exact wpAny_pure (And.intro rfl h0)
  · exact wpAny_bind (wpAny_rule (wpAny_bind (wpAny_standAt (wpAny_bind (wpAny_mono h (fun it' s' h' => wpAny_pure (And.intro rfl h')) fun _ _ x => x.elim)))))
def CompW (l : List (Str × Option Nat)) (g : TG) (tt : TT) (te : TE) (J : It) (σ : St) (H1 : Hp) (Q : Addr -> Hp -> Prop) : Prop :=
  ∀ D, H1 D = none -> ∃ W : Nat -> Nat -> List V -> St -> Hp -> Prop, (∃ m, W 0 m [] (srcV l σ) (upd H1 D (.lst []))) /\ ∀ i m ys σ1 H2, W i m ys σ1 H2 ->
    (J.stop i H2 /\ Q D H2) ∨ (J.go i H2 /\ ∀ x H3, J.yld i H2 x H3 -> g x σ1 H3 fun σ2 H4 => tt σ2 H4 fun b H5 =>
      if b = true then te σ2 H5 fun v H6 => H6 D = some (.lst ys) /\ ys.length < sizeLine /\ ∃ m', m' < m /\ W (i + 1) m' (ys ++ [v]) σ2 (upd H6 D (.lst (ys ++ [v]))) else ∃ m', m' < m /\ W (i + 1) m' ys σ2 H5)
def tCompB (l : List (Str × Option Nat)) (wi : TI) (g : TG) (tt : TT) (te : TE) (σ : St) (H : Hp) (Q : Addr -> Hp -> Prop) : Prop :=
  wi σ H fun J H1 => CompW l g tt te J σ H1 Q
theorem comp_any {α : Type} {X : Cx} {e tg : Expr} {ifs : List Expr} {scope : Scope} {cl : List (Str × Addr)} {l : List (Str × Option Nat)} {g : TG} {tt : TT} {body : Value -> Env -> Sem Unit} {p : Pos} {gc : Comprehension} {D : Addr}
    (hn : LorS e) (hturn : TurnIs e tg ifs p 0 body) (hgc : (clausesOf e)[0]? = some gc) (has : gc.is_async = 0)
    (hcl1 : ∀ y c, cl.lookup y = some c -> X.env.cells.lookup y = some c) (hcl2 : ∀ x ∈ scope.names, x.2 = .free -> ∃ c, cl.lookup x.1 = some c)
    (hkind : scope.kind = .function) (hcell : ∀ y ∈ scope.names, y.2 = .cell -> scope.names.lookup y.1 = some .cell) (hcalm : X.calm = true) (hsrc : SrcOk X scope l)
    (hg : ∀ cl C fp s3 H3, PG (cxComp X l scope cl C fp s3 H3) tg g) (ht : ∀ cl C fp s3 H3, PIf (cxComp X l scope cl C fp s3 H3) ifs tt)
    {pins : List (Addr × Obj)} {σ : St} {H3 : Hp} {s3 : Shared} {it : Addr} {fp : List Addr} {tn : Nat -> Heap -> Prop} {J : It} {Q : Hp -> Prop} {RR : Addr -> Result -> Shared -> Prop} {E : Value -> Shared -> Prop}
    {W : Nat -> Nat -> α -> St -> Hp -> Prop} {B : Nat -> Nat -> α -> St -> Hp -> Prop} {m0 : Nat} {y0 : α}
    (hb : ∀ cl C fp s3 H3 pins s i m ys σ H, Inv (cxComp X l scope cl C fp s3 H3) pins σ H s -> B i m ys σ H ->
      wpAny (model X.prog X.w) X.A (body (.ref D) (compEnvC scope cl C X.env)) (fun _ s' => ∃ m' ys' σ' H', m' < m /\ Inv (cxComp X l scope cl C fp s3 H3) pins σ' H' s' /\ W (i + 1) m' ys' σ' H') (fun _ _ => False) s)
    (I3 : Inv X pins σ H3 s3) (T : Turn X.prog X.w X.K tg J fp it tn) (st3 : tn 0 s3.heap) (hfp3 : ∀ b ∈ fp, FpOk X pins H3 b)
    (w0 : W 0 m0 y0 (srcV l σ) H3)
    (turn : ∀ i m ys σ1 H2, W i m ys σ1 H2 -> (J.stop i H2 /\ Q H2) ∨ (J.go i H2 /\ ∀ x H3, J.yld i H2 x H3 -> g x σ1 H3 fun σ2 H4 => tt σ2 H4 fun b H5 => if b = true then B i m ys σ2 H5 else ∃ m', m' < m /\ W (i + 1) m' ys σ2 H5))
    (hRR : ∀ C (s' : Shared) (H' : Hp), Q H' -> (∃ m, s'.heap.Ns C m) -> Inv X pins σ H' s' -> FpOk X pins H' C -> RR C (.ok .next) s') :
    wpAny (model X.prog X.w) X.A (newFunctionEnv scope X.env.globals cl [] X.env.qual none .none (some X.env)) (fun cenv s₄ =>
      codeAny (model X.prog X.w) X.A (.compStart e 0 (.ref it) (.ref D) { cenv with scope := relabel scope X.env }) (RR cenv.locals) s₄) E s3 := by
  refine newFunctionEnv_comp ?_
  have eC : (newEnv scope s3.heap.objs.size X.env.globals (cellsFrom (s3.heap.objs.size + 1) scope.names cl) X.env.qual none Value.none (some X.env) 0).locals = s3.heap.objs.size := rfl
  have cok := cellsFrom_ok scope.names (s3.heap.push { cls := .type "dict", data := .dict #[] }) (s3.heap.objs.size + 1) [] ⟨fun _ _ hm => (nomatch hm), List.Pairwise.nil⟩ (by rw [Heap.size_push]; exact Nat.le_refl _)
  rw [Heap.size_push] at cok
  have ecs : cellsFrom (s3.heap.objs.size + 1) scope.names cl = cellsFrom (s3.heap.objs.size + 1) scope.names [] ++ cl := cellsFrom_app scope.names _ [] cl
  have hns : (pushCells (s3.heap.push { cls := .type "dict", data := .dict #[] }) scope.names).Ns s3.heap.objs.size (fun _ => none) := (Heap.Ns.new s3.heap (.type "dict")).keeps (pushCells_keeps _ _)
  have old : ∀ b o, s3.heap.get? b = some o -> (pushCells (s3.heap.push { cls := .type "dict", data := .dict #[] }) scope.names).get? b = some o := fun b o e => pushCells_keeps _ _ b o (Heap.get?_push_of_some _ e)
  rw [ecs] at *
  have ownN : ∀ x c, (cellsFrom (s3.heap.objs.size + 1) scope.names []).lookup x = some c -> scope.names.lookup x = some .cell := fun x c e => by
    rcases cellsFrom_mem _ _ _ _ _ (mem_of_lookup e) with z | z
    · exact hcell _ z rfl
    · exact nomatch z
  have ownS : ∀ x, scope.names.lookup x = some .cell -> ∃ c, (cellsFrom (s3.heap.objs.size + 1) scope.names []).lookup x = some c := fun x e => Option.isSome_iff_exists.mp (PySem.W.cellsFrom_some scope.names _ [] (.inl e))
  generalize hown : cellsFrom (s3.heap.objs.size + 1) scope.names [] = own at *
  generalize hh4 : pushCells (s3.heap.push { cls := .type "dict", data := .dict #[] }) scope.names = h4 at *
  generalize hC : s3.heap.objs.size = C at *
  have eE : ({ newEnv scope C X.env.globals (own ++ cl) X.env.qual none Value.none (some X.env) 0 with scope := relabel scope X.env } : Env) = compEnvC scope (own ++ cl) C X.env := rfl
  have cs_of : ∀ x c, (own ++ cl).lookup x = some c -> (own.lookup x = some c /\ h4.IsCell c none /\ C + 1 <= c) ∨ (own.lookup x = none /\ cl.lookup x = some c) := fun x c e => by
    rw [List.lookup_append] at e
    cases q : own.lookup x with
    | none => rw [q] at e; exact .inr ⟨rfl, e⟩
    | some d => rw [q] at e; cases e; exact .inl ⟨rfl, cok.empty x c (mem_of_lookup q)⟩
  have of_cl : ∀ x c, scope.names.lookup x ≠ some .cell -> cl.lookup x = some c -> (own ++ cl).lookup x = some c := fun x c n e => by
    rw [List.lookup_append]
    cases q : own.lookup x with
    | none => exact e
    | some d => exact (n (ownN x d q)).elim
  have cltC : ∀ y c, cl.lookup y = some c -> c < C := fun y c e => by
    obtain ⟨v, q⟩ := I3.cell y c (hcl1 y c e)
    have := q.lt
    rw [hC] at this
    exact this
  have fpC : ∀ b ∈ fp, b ≠ C := fun b hb z => by
    obtain ⟨o, ho, _⟩ := T.obj _ _ st3 b hb
    exact absurd (Heap.lt_size ho) (by rw [z, hC]; exact Nat.lt_irrefl _)
  have cellC : ∀ y c, (own ++ cl).lookup y = some c -> c ≠ C := fun y c e z => by
    rcases cs_of y c e with ⟨_, _, q⟩ | ⟨_, q⟩
    · rw [z] at q; exact absurd q (Nat.not_succ_le_self _)
    · exact absurd (cltC y c q) (by rw [z]; exact Nat.lt_irrefl _)
  have fpB : ∀ b ∈ fp, b < C := fun b hb => by
    obtain ⟨o, ho, _⟩ := T.obj _ _ st3 b hb
    rw [← hC]; exact Heap.lt_size ho
  have fpCs : ∀ b ∈ fp, ∀ x c, (own ++ cl).lookup x = some c -> c ≠ b := fun b hb x c e z => by
    rcases cs_of x c e with ⟨_, _, q⟩ | ⟨_, q⟩
    · rw [z] at q; exact absurd (Nat.lt_of_lt_of_le (fpB b hb) (Nat.le_of_succ_le q)) (Nat.lt_irrefl _)
    · exact (hfp3 b hb).2.2.2.2.1 x c (hcl1 x c q) z
  have H3C : H3 C = none := by
    have := I3.fresh
    rw [hC] at this
    exact this
  have OK : (cxComp X l scope (own ++ cl) C fp s3 H3).Ok := {
    mod := I3.ok.mod
    kind := hkind
    glob := I3.ok.glob
    blt := I3.ok.blt
    above := Nat.le_of_eq hC
    inj := fun x y c e1 e2 => by
      rcases cs_of x c e1 with ⟨p1, _, p3⟩ | ⟨_, p1⟩ <;> rcases cs_of y c e2 with ⟨q1, _, q3⟩ | ⟨_, q1⟩
      · exact name_of_addr cok.apart (mem_of_lookup p1) (mem_of_lookup q1)
      · exact absurd (cltC y c q1) (Nat.not_lt.mpr (Nat.le_of_succ_le p3))
      · exact absurd (cltC x c p1) (Nat.not_lt.mpr (Nat.le_of_succ_le q3))
      · exact I3.ok.inj x y c (hcl1 x c p1) (hcl1 y c q1)
    has := fun x hx => by
      show ∃ c, (own ++ cl).lookup x = some c
      rw [List.lookup_append]
      cases q : own.lookup x with
      | some d => exact ⟨d, rfl⟩
      | none =>
        rcases relabel_back hx with z | z
        · obtain ⟨c, e⟩ := hcl2 (x, .free) z rfl
          exact ⟨c, e⟩
        · obtain ⟨c, e⟩ := ownS x z
          rw [q] at e; cases e
    cab := fun x c hf e => by
      have hf : (scope.names.lookup x == some NameKind.cell) = true := hf
      have hf : scope.names.lookup x = some .cell := by simpa using hf
      obtain ⟨d, ed⟩ := ownS x hf
      rcases cs_of x c e with ⟨_, _, q⟩ | ⟨q, _⟩
      · show s3.heap.objs.size <= c
        rw [hC]; omega
      · rw [q] at ed; cases ed
    hd := I3.ok.hd
    frames := I3.ok.frames
    stk := .inl rfl
    exf := fun b hb => ⟨fpC b hb, fpCs b hb⟩
    bs := fun b o e => I3.bs b o e
    bsz := Nat.le_trans I3.ok.bsz I3.sz
    noex := fun b o e hb => by
      rcases (hfp3 b hb).2.2.2.1 with z | z
      · exact I3.ok.noex b o e z
      · exact absurd (Nat.lt_of_lt_of_le (Heap.lt_size e) (Nat.le_trans I3.ok.bsz z)) (Nat.lt_irrefl _)
    exfs := fun b hb hz => by
      rcases List.mem_cons.mp (I3.stkSub b hz) with z | z
      · exact (hfp3 b hb).2.1 z
      · exact (hfp3 b hb).2.2.1 z
    funs := I3.stack
    frf := I3.stkFree }
  have fpX : ∀ {H' : Hp}, (∀ b ∈ fp, H' b = none) -> ∀ b ∈ fp, FpOk (cxComp X l scope (own ++ cl) C fp s3 H3) [] H' b := fun hn b hb =>
    ⟨hn b hb, fpC b hb, OK.exfs b hb, .inl hb, fpCs b hb, fun p hp => nomatch hp⟩
  have I4 : Inv (cxComp X l scope (own ++ cl) C fp s3 H3) [] (srcV l σ) H3 { s3 with heap := h4 } := {
    ok := OK
    os := rfl
    bare := I3.bare
    base := Un.kept old
    loc := by
      refine ⟨_, hns, fun i x v e1 e2 e3 => ?_⟩
      have e1' : (l.map (·.1))[i]? = some x := e1
      have e2' : (l.map fun p => p.2.bind fun j => (σ[j]?).join)[i]? = some (some v) := e2
      rw [List.getElem?_map] at e1' e2'
      cases el : l[i]? with
      | none => rw [el] at e1'; cases e1'
      | some p =>
        rw [el] at e1' e2'
        obtain ⟨y, o⟩ := p
        have e1'' : y = x := Option.some.inj e1'
        subst e1''
        cases o with
        | none => cases e2'
        | some j =>
          have e2'' : (σ[j]?).join = some v := Option.some.inj e2'
          have ej : σ[j]? = some (some v) := by
            cases q : σ[j]? with
            | none => rw [q] at e2''; cases e2''
            | some z => rw [q] at e2''; exact congrArg some e2''
          obtain ⟨k1, k2, k3⟩ := hsrc.get el
          obtain ⟨m, hn, hl⟩ := I3.loc
          obtain ⟨u, r, lk⟩ := hl j y v k1 ej (k3.elim (fun z => .inr (.inl z)) fun z => .inr (.inr z))
          refine ⟨u, r, .inr ⟨lookup_relabel_free k2, ?_⟩⟩
          rcases lk with ⟨z, _⟩ | ⟨_, c, ec, hcell'⟩
          · rcases k3 with k3 | k3 <;> (rw [z] at k3; cases k3)
          · have hm : (y, NameKind.free) ∈ scope.names := by
              have : ∀ {names : List (Str × NameKind)}, names.lookup y = some NameKind.free -> (y, NameKind.free) ∈ names := by
                intro names
                induction names with
                | nil => intro h; simp at h
                | cons q r ih =>
                  intro h
                  obtain ⟨n, k⟩ := q
                  rw [List.lookup_cons] at h
                  split at h
                  · rename_i hy
                    have : y = n := by simpa using hy
                    subst this
                    cases h
                    exact List.mem_cons_self
                  · exact List.mem_cons_of_mem _ (ih h)
              exact this k2
            obtain ⟨c', ec'⟩ := hcl2 _ hm rfl
            have : c' = c := by
              have := hcl1 _ _ ec'
              rw [ec] at this
              exact (Option.some.inj this).symm
            subst this
            obtain ⟨o, ho, hd⟩ := hcell'
            exact ⟨c', of_cl _ _ (by rw [k2]; intro z; cases z) ec', o, old _ _ ho, hd⟩
    cell := fun x c e => by
      rcases cs_of x c e with ⟨_, q, _⟩ | ⟨_, q⟩
      · exact ⟨none, q⟩
      · obtain ⟨v, o, ho, hd⟩ := I3.cell x c (hcl1 x c q)
        exact ⟨v, o, old _ _ ho, hd⟩
    free := H3C
    freeC := fun x c e => by
      rcases cs_of x c e with ⟨_, _, q⟩ | ⟨_, q⟩
      · exact I3.hok.fresh (by rw [hC]; omega)
      · exact I3.freeC x c (hcl1 x c q)
    pin := fun p hp => nomatch hp
    hok := I3.hok.kept old
    len := by show (List.map _ l).length = (List.map _ l).length; rw [List.length_map, List.length_map] }
  have st4 : tn 0 h4 := T.keep _ _ _ st3 fun b _ o e => old b o e
  have loop : ∀ s4 : Shared, s4 = { s3 with heap := h4 } ->
      codeAny (model X.prog X.w) X.A (.compLoop e 0 (.ref it) (.ref D) (compEnvC scope (own ++ cl) C X.env)) (RR C) s4 := by
    rintro s4 rfl
    refine compLoop_any hn hturn (fun n s' => ∃ i ys σ' H', Inv (cxComp X l scope (own ++ cl) C fp s3 H3) [] σ' H' s' /\ tn i s'.heap /\ (∀ b ∈ fp, H' b = none) /\ W i n ys σ' H') ?_ m0
      ⟨0, y0, srcV l σ, H3, I4, st4, fun b hb => (hfp3 b hb).1, w0⟩
    rintro n s5 ⟨i, ys, σ5, H5, I5, st5, fr5, w5⟩
    rcases turn i n ys σ5 H5 w5 with ⟨stop, q⟩ | ⟨go, step⟩
    · refine thn (T.done (cxComp X l scope (own ++ cl) C fp s3 H3) rfl rfl rfl hcalm i [] s5 σ5 H5 _ I5 (fpX fr5) st5 stop) fun r s6 ⟨hr, I6⟩ => ?_
      subst hr
      obtain ⟨m6, hn6, _⟩ := I6.loc
      have u : Un (frs X.stack) fp H3 H5 s3.heap s6.heap := I6.base
      refine hRR C s6 H5 q ⟨m6, hn6⟩ (I3.call' (s' := s6) (ch := fp) I6.os u I6.hok I6.bare fun b hb => ⟨(hfp3 b hb).2.2.2.1, (hfp3 b hb).2.1, (hfp3 b hb).2.2.2.2.1, (hfp3 b hb).2.2.2.2.2⟩) ?_
      have hle : s3.heap.objs.size <= C := Nat.le_of_eq hC
      have f0 := I3.fpOk (H' := H5) hle I6.free
      exact f0
    · refine thn (T.item (cxComp X l scope (own ++ cl) C fp s3 H3) rfl rfl rfl hcalm i [] s5 σ5 H5 _ I5 (fpX fr5) st5 go) fun r s6 ⟨u, hr, h6⟩ => ?_
      subst hr
      refine thn h6 fun _ s7 ⟨x, H7, I7, r7, y7, st7, fr7⟩ => ?_
      have I7' := I7.pinned (fpX fr7) (T.obj _ _ st7)
      have back : ∀ {σ8 : St} {H8 : Hp} {s8 : Shared}, Inv (cxComp X l scope (own ++ cl) C fp s3 H3) ([] ++ pinsAt fp s7.heap) σ8 H8 s8 -> Inv (cxComp X l scope (own ++ cl) C fp s3 H3) [] σ8 H8 s8 /\ tn (i + 1) s8.heap /\ ∀ b ∈ fp, H8 b = none := fun {σ8 H8 s8} I8 => by
        refine ⟨I8.unpinned, T.keep _ _ _ st7 fun b hb o e => (I8.pin (b, o) (List.mem_append_right _ (List.mem_append_right _ (mem_pinsAt hb e)))).1, fun b hb => ?_⟩
        obtain ⟨o, e, d⟩ := T.obj _ _ st7 b hb
        exact (I8.pin (b, o) (List.mem_append_right _ (List.mem_append_right _ (mem_pinsAt hb e)))).2.1
      refine thn (hg (own ++ cl) C fp s3 H3 _ s7 σ5 H7 x u _ I7' r7 (step x H7 y7)) fun _ s8 ⟨σ8, H8, I8, q8⟩ => ?_
      refine thn (ht (own ++ cl) C fp s3 H3 _ s8 σ8 H8 _ I8 q8) fun ok s9 ⟨H9, I9, q9⟩ => ?_
      cases ok with
      | false =>
        rw [if_neg (by decide)] at q9 ⊢
        obtain ⟨m', hm, w9⟩ := q9
        obtain ⟨z1, z2, z3⟩ := back I9
        exact ⟨m', hm, i + 1, ys, σ8, H9, z1, z2, z3, w9⟩
      | true =>
        rw [if_pos rfl] at q9 ⊢
        refine thn (hb (own ++ cl) C fp s3 H3 _ s9 i n ys σ8 H9 I9 q9) fun _ s11 ⟨m', ys', σ', H', hm, I11, w10⟩ => ?_
        obtain ⟨z1, z2, z3⟩ := back I11
        exact ⟨m', hm, i + 1, ys', σ', _, z1, z2, z3, w10⟩
  exact compStart_any hn hgc has (loop _ rfl) (T.self _ 0 _ _ _ st4 (loop _ rfl))
theorem add_any {Y : Cx} {elt : Expr} {te : TE} (he : PE Y elt te) (hxe : Y.xe = fun _ _ => False) {D : Addr} {ys : List V} {pins : List (Addr × Obj)} {s : Shared} {σ : St} {H : Hp} {N : V -> Hp -> Prop} (I : Inv Y pins σ H s)
    (h : te σ H fun v H6 => H6 D = some (.lst ys) /\ ys.length < sizeLine /\ N v (upd H6 D (.lst (ys ++ [v])))) :
    wpAny (model Y.prog Y.w) Y.A (eval elt Y.env >>= fun x => call (.builtin "list.append") [.ref D, x] >>= fun _ => pure PUnit.unit) (fun _ s' => ∃ v H', Inv Y pins σ H' s' /\ N v H') (fun _ _ => False) s := by
  have h1 := he pins s σ H _ I h
  rw [hxe] at h1
  refine wpAny_bind (thn h1 fun xv s10 ⟨v, H10, I10, r10, q10⟩ => ?_)
  obtain ⟨hl10, hz, w10⟩ := q10
  have h2 := mt_append _ s10 σ H10 (.ref D) [v] (.ref D) [xv] (fun z H' => z = .non /\ H' = upd H10 D (.lst (ys ++ [v]))) I10 rfl (.cons r10 .nil) ⟨D, ys, v, rfl, rfl, hl10, hz, rfl, rfl⟩
  rw [hxe] at h2
  refine wpAny_bind (thn h2 fun _ s11 h11 => ?_)
  obtain ⟨_, H11, I11, _, _, e11⟩ := h11
  subst e11
  exact wpAny_pure ⟨v, _, I11, w10⟩
theorem comp_core {X : Cx} {elt tg iter : Expr} {ifs : List Expr} {scope : Scope} {cl : List (Str × Addr)} {pos : Pos} {l : List (Str × Option Nat)} {g : TG} {tt : TT} {te : TE}
    (hclos : closureFor scope X.env = pure cl) (hcl1 : ∀ y c, cl.lookup y = some c -> X.env.cells.lookup y = some c) (hcl2 : ∀ x ∈ scope.names, x.2 = .free -> ∃ c, cl.lookup x.1 = some c)
    (hkind : scope.kind = .function) (hcell : ∀ y ∈ scope.names, y.2 = .cell -> scope.names.lookup y.1 = some .cell) (hcalm : X.calm = true) (hsrc : SrcOk X scope l)
    (hg : ∀ cl C fp s3 H3, PG (cxComp X l scope cl C fp s3 H3) tg g) (ht : ∀ cl C fp s3 H3, PIf (cxComp X l scope cl C fp s3 H3) ifs tt) (he : ∀ cl C fp s3 H3, PE (cxComp X l scope cl C fp s3 H3) elt te)
    {pins : List (Addr × Obj)} {σ : St} {H : Hp} {s : Shared} {it : Addr} {fp : List Addr} {tn : Nat -> Heap -> Prop} {J : It} {Q : Addr -> Hp -> Prop} {RR : Value -> Addr -> Result -> Shared -> Prop} {E : Value -> Shared -> Prop}
    (I : Inv X pins σ H s) (T : Turn X.prog X.w X.K tg J fp it tn) (st : tn 0 s.heap) (hfp : ∀ b ∈ fp, FpOk X pins H b)
    (hw : CompW l g tt te J σ H Q)
    (hRR : ∀ D C (s' : Shared) (H' : Hp), Q D H' -> (∃ m, s'.heap.Ns C m) -> Inv X pins σ H' s' -> FpOk X pins H' C -> RR (.ref D) C (.ok .next) s') :
    wpAny (model X.prog X.w) X.A (newList []) (fun acc s₃ => wpAny (model X.prog X.w) X.A (newFunctionEnv scope X.env.globals cl [] X.env.qual none .none (some X.env)) (fun cenv s₄ =>
      codeAny (model X.prog X.w) X.A (.compStart (.ListComp elt [⟨tg, iter, ifs, 0⟩] scope pos) 0 (.ref it) acc { cenv with scope := relabel scope X.env }) (RR acc cenv.locals) s₄) E s₃) E s := by
  refine wpAny_newList ?_ (by show 0 <= sizeLine; exact Nat.zero_le _)
  have I3 : Inv X pins σ (upd H s.heap.objs.size (.lst [])) { s with heap := s.heap.push { cls := .type "list", data := .seq ([] : List Value).toArray } } :=
    I.lnew (its := []) (ys := []) (t' := s.toks) .nil (Nat.zero_le _)
  have hD : H s.heap.objs.size = none := I.fresh
  obtain ⟨W, ⟨m0, w0⟩, turn⟩ := hw _ hD
  have fpD : ∀ b ∈ fp, b ≠ s.heap.objs.size := fun b hb z => by
    obtain ⟨o, ho, _⟩ := T.obj _ _ st b hb
    exact absurd (Heap.lt_size ho) (by rw [z]; exact Nat.lt_irrefl _)
  have hfp3 : ∀ b ∈ fp, FpOk X pins (upd H s.heap.objs.size (.lst [])) b := fun b hb => ⟨by rw [upd_ne (fpD b hb)]; exact (hfp b hb).1, (hfp b hb).2⟩
  have st3 : tn 0 (s.heap.push { cls := .type "list", data := .seq ([] : List Value).toArray }) := T.keep _ _ _ st fun b _ o e => Heap.get?_push_of_some _ e
  refine comp_any (α := List V) (B := fun i m ys σ H5 => te σ H5 fun v H6 => H6 s.heap.objs.size = some (.lst ys) /\ ys.length < sizeLine /\ ∃ m', m' < m /\ W (i + 1) m' (ys ++ [v]) σ (upd H6 s.heap.objs.size (.lst (ys ++ [v])))) (Q := Q s.heap.objs.size) (p := iter.pos) (body := fun acc env => eval elt env >>= fun x => call (.builtin "list.append") [acc, x] >>= fun _ => pure PUnit.unit)
    (.inl ⟨_, _, _, _, rfl⟩) (fun _ _ _ => rfl) rfl rfl hcl1 hcl2 hkind hcell hcalm hsrc hg ht (fun cl C fp s3 H3 pins s' i m ys σ H I h => ?_) I3 T st3 hfp3 w0 turn fun C s' H' q => hRR _ C s' H' q
  refine thn (add_any (N := fun v H' => ∃ m', m' < m /\ W (i + 1) m' (ys ++ [v]) σ H') (he cl C fp s3 H3) rfl I h) fun _ s11 ⟨v, H', I', m', hm, w'⟩ => ⟨m', _, _, H', hm, I', w'⟩
def tComp (l : List (Str × Option Nat)) (wi : TI) (g : TG) (tt : TT) (te : TE) : TE := fun σ H Q => tCompB l wi g tt te σ H fun D H' => Q (.ref D) H'
section
variable {X : Cx} {elt tg iter : Expr} {ifs : List Expr} {scope : Scope} {pos : Pos} {wi : TI} {g : TG} {tt : TT} {te : TE}
structure CompScope (X : Cx) (scope : Scope) (l : List (Str × Option Nat)) : Prop where
  kind : scope.kind = .function
  cell : ∀ y ∈ scope.names, y.2 = .cell -> scope.names.lookup y.1 = some .cell
  names : ∀ y ∈ scope.names, y.2 = .local -> scope.names.lookup y.1 = some .local
  free : ∀ y ∈ scope.names, y.2 = .free -> X.env.kindOf y.1 = some .cell ∨ X.env.kindOf y.1 = some .free
  src : SrcOk X scope l
theorem pe_comp (l : List (Str × Option Nat)) (hsc : CompScope X scope l) (hcalm : X.calm = true) (hi : PI X tg iter wi)
    (hg : ∀ cl C fp s3 H3, PG (cxComp X l scope cl C fp s3 H3) tg g) (ht : ∀ cl C fp s3 H3, PIf (cxComp X l scope cl C fp s3 H3) ifs tt) (he : ∀ cl C fp s3 H3, PE (cxComp X l scope cl C fp s3 H3) elt te)
    (hs : ∀ x, foldedSetIterable iter X.env x = pure x := by intro _; rfl) :
    PE X (.ListComp elt [⟨tg, iter, ifs, 0⟩] scope pos) (tComp l wi g tt te) := by
  intro pins s σ H Q I h
  obtain ⟨cl, e1, e2, e3⟩ := closureFor_ok (scope := scope) (env := X.env) fun x hx hf => I.ok.has x.1 (hsc.free x hx hf)
  rw [eval_ListComp]
  refine wpAny_comprehension_free (use := none) rfl hs e1 hsc.kind hsc.names (thn (hi pins s σ H _ I h) fun v s1 h1 => thn h1 fun itv s2 h2 => ?_)
  obtain ⟨it, fp, tn, J, H2, e, I2, T, st2, f2, hw⟩ := h2
  subst e
  refine comp_core (RR := fun acc C => compPost (model X.prog X.w) X.A X.xe none (EP X pins σ Q) acc C) e1 e2 e3 hsc.kind hsc.cell hcalm hsc.src hg ht he I2 T st2 f2 hw ?_
  intro D C s' H' q ⟨m, hn⟩ I' f'
  refine ⟨m, hn, fun h' hs' => ?_⟩
  exact ⟨.ref D, H', I'.turned (t' := s'.toks) (fun b o hb e => (hs'.2 b hb).trans e) f'.1 f'.2.1 f'.2.2.2.1 f'.2.2.2.2.1 f'.2.2.2.2.2, rfl, q⟩
theorem ps_setComp {i : Nat} {y : Str} {py spos : Pos} (l : List (Str × Option Nat)) (hsc : CompScope X scope l) (hcalm : X.calm = true) (hN : X.N.Nodup) (hy : X.N[i]? = some y) (hx : X.env.scope.names.lookup y = some .local) (hi : PI X tg iter wi)
    (hg : ∀ cl C fp s3 H3, PG (cxComp X l scope cl C fp s3 H3) tg g) (ht : ∀ cl C fp s3 H3, PIf (cxComp X l scope cl C fp s3 H3) ifs tt) (he : ∀ cl C fp s3 H3, PE (cxComp X l scope cl C fp s3 H3) elt te)
    (hsw : swapsWith (.ListComp elt [⟨tg, iter, ifs, 0⟩] scope pos) (some (.Name y py)) spos.line X.env = pure true)
    (hs : ∀ x, foldedSetIterable iter X.env x = pure x := by intro _; rfl) :
    PS X (.Assign [.Name y py] (.ListComp elt [⟨tg, iter, ifs, 0⟩] scope pos) spos) (tAsg (tComp l wi g tt te) (gName i)) := by
  intro pins s σ H D0 I h
  obtain ⟨cl, e1, e2, e3⟩ := closureFor_ok (scope := scope) (env := X.env) fun x hx hf => I.ok.has x.1 (hsc.free x hx hf)
  rw [exec_Assign_Name_used _ _ _ _ hsw]
  refine wpAny_bind (wpAny_standAt (wpAny_bind ?_))
  show wpAny _ X.A (do let _ ← comprehension (.ListComp elt [⟨tg, iter, ifs, 0⟩] scope pos) scope X.env _ (newList []) false (eval iter X.env) (some (assign (.Name y py) X.env))) _ _ s
  refine wpAny_bind (thn (wpAny_comprehension_free (use := some (assign (.Name y py) X.env)) (Q := fun _ s' => SP X pins D0 .next s') rfl hs e1 hsc.kind hsc.names
    (thn (hi pins s σ H _ I h) fun v s1 h1 => thn h1 fun itv s2 h2 => ?_)) fun _ s' hq => wpAny_pure (wpAny_pure hq))
  obtain ⟨it, fp, tn, J, H2, e, I2, T, st2, f2, hw⟩ := h2
  subst e
  refine comp_core (RR := fun acc C => compPost (model X.prog X.w) X.A X.xe (some (assign (.Name y py) X.env)) (fun _ s' => SP X pins D0 .next s') acc C) e1 e2 e3 hsc.kind hsc.cell hcalm hsc.src hg ht he I2 T st2 f2 hw ?_
  intro D C s' H' q ⟨m, hn⟩ I' f'
  show wpAny _ X.A (assign (.Name y py) X.env (.ref D)) _ _ _
  refine wpAny_assign_Name (store_ok2 (v := .ref D) I' hN hy (.inl hx) rfl (fun s'' I'' hk => ?_) (.inr hx))
  obtain ⟨a, hsb, ha⟩ := hk
  have hCa : C ≠ a := by
    rintro rfl
    rcases ha with z | z
    · exact f'.2.1 z
    · exact f'.2.2.2.2.1 y _ z rfl
  refine ⟨m, hn.sameBut hsb hCa, fun h' hs' => ?_⟩
  exact ⟨_, H', I''.turned (t' := s''.toks) (fun b o hb e => (hs'.2 b hb).trans e) f'.1 f'.2.1 f'.2.2.2.1 f'.2.2.2.2.1 f'.2.2.2.2.2, q⟩
end
end L2
namespace L2
open PySem PySem.Spec PyProof.Rows
def Fit (n : Nat) (i : Int) : Prop := i.natAbs < 2 ^ n
theorem Fit.mono {n m : Nat} {i : Int} (h : Fit n i) (k : n <= m) : Fit m i := Nat.lt_of_lt_of_le h (Nat.pow_le_pow_right (by decide) k)
theorem Fit.mul {n m : Nat} {i j : Int} (h : Fit n i) (k : Fit m j) : Fit (n + m) (i * j) := by
  unfold Fit at *
  rw [Int.natAbs_mul, Nat.pow_add]
  exact Nat.mul_lt_mul'' h k
theorem Fit.add {n : Nat} {i j : Int} (h : Fit n i) (k : Fit n j) : Fit (n + 1) (i + j) := by
  unfold Fit at *
  have := Int.natAbs_add_le i j
  rw [Nat.pow_succ]
  omega
theorem Fit.le {n : Nat} {i j : Int} (h : Fit n i) (k : j.natAbs <= i.natAbs) : Fit n j := Nat.lt_of_le_of_lt k h
theorem Fit.bits {n : Nat} {i : Int} (h : Fit n i) : Builtin.Int.intBits i <= n := by
  unfold Builtin.Int.intBits
  split
  · exact Nat.zero_le _
  · rename_i hz
    have h0 : i.natAbs ≠ 0 := by
      intro z
      apply hz
      have : i = 0 := by omega
      simp [this]
    have := (Nat.log2_lt h0).mpr h
    omega
theorem Fit.log {n : Nat} {i : Int} (h : Fit n i) (hn : 0 < n) : i.natAbs.log2 < n := by
  by_cases h0 : i.natAbs = 0
  · rw [h0]
    show Nat.log2 0 < n
    have : Nat.log2 0 = 0 := by decide
    rw [this]; exact hn
  · exact (Nat.log2_lt h0).mpr h
theorem Fit.mulOk {i j : Int} (h : Fit 60000000 i) (k : Fit 60000000 j) : IntMulOk i j := by
  have h1 := h.bits
  have h2 := k.bits
  unfold IntMulOk
  have e : Builtin.Int.intTooBig (((Builtin.Int.intBits i + Builtin.Int.intBits j : Nat)) : Int) = false := by
    unfold Builtin.Int.intTooBig
    refine decide_eq_false ?_
    show ¬ ((((Builtin.Int.intBits i + Builtin.Int.intBits j : Nat)) : Int) > (((2 ^ 27 : Nat)) : Int))
    have : (2 ^ 27 : Nat) = 134217728 := by decide
    omega
  simp [e]
  try (intro _ _; exact_mod_cast e)
theorem fit_of_lt {i : Int} {n : Nat} (h1 : -(2 ^ n) < i) (h2 : i < 2 ^ n) : Fit n i := by
  unfold Fit
  have e : ((2 ^ n : Nat) : Int) = (2 : Int) ^ n := by
    rw [Int.natCast_pow]; rfl
  have : (i.natAbs : Int) < ((2 ^ n : Nat) : Int) := by rw [e]; omega
  exact_mod_cast this
section
variable {X : Cx}
theorem op_mulG : OpR X (binaryOp .Mult) (rI (fun i j => Fit 60000000 i /\ Fit 60000000 j) fun i j => .int (i * j)) := opI fun _ _ _ _ _ _ _ hc q => mul_int q (hc.1.mulOk hc.2)
theorem op_fdivG : OpR X (binaryOp .FloorDiv) (rI (fun _ j => j ≠ 0 /\ Fit 9000 j) fun i j => .int (i.fdiv j)) := opI fun _ _ _ _ _ _ _ hc q => floordiv_int hc.1 q (.inl (PyProof.noPylong_of_log2 (hc.2.log (by decide))))
theorem call_divmodP : CallR X (.builtin "divmod") (fun xs H Q => ∃ i j, xs = [.int i, .int j] /\ (0 < j /\ Fit 9000 j) /\ ∀ p, H p = none -> Q (.ref p) (upd H p (.tup [.int (i / j), .int (i % j)]))) := by
  intro pins s σ H xs us Q I r h
  obtain ⟨i, j, rfl, ⟨h1, h2⟩, q⟩ := h
  obtain ⟨u, w', rfl, ⟨t, rfl⟩, ⟨t', rfl⟩⟩ := vals2 r
  refine divmod_int (by omega) ?_ (.inl (PyProof.noPylong_of_log2 (h2.log (by decide))))
  rw [Int.fdiv_eq_ediv_of_nonneg i (by omega), Int.fmod_eq_emod_of_nonneg i (by omega)]
  have hn : H s.heap.objs.size = none := I.hok.fresh (Nat.le_refl _)
  refine ⟨.ref s.heap.objs.size, _, ?_, rfl, q _ hn⟩
  refine I.laid (fun b o e => Heap.get?_push_of_some _ e) (Nat.le_refl _) ⟨by simp only [List.length_cons, List.length_nil]; rw [sizeLine_eq]; decide, [.int (i / j) s.toks, .int (i % j) (s.toks + 1)], .cons ⟨_, rfl⟩ (.cons ⟨_, rfl⟩ .nil), ?_⟩
  exact ⟨_, Heap.get?_push_size s.heap rfl, rfl, 0, rfl⟩
theorem bools_of : ∀ {bs : List Bool} {us : List Value}, Vals (bs.map V.bl) us -> ∀ (i : Nat) (v : Value), us[i]? = some v -> ∃ b : Bool, bs[i]? = some b /\ v = Value.bool b
  | [], us, r, i, v, e => by
    cases r
    simp at e
  | b :: bs, us, r, i, v, e => by
    cases r with
    | cons r1 r2 =>
      cases i with
      | zero =>
        simp at e
        subst e
        exact ⟨b, rfl, r1⟩
      | succ i =>
        obtain ⟨b', e1, e2⟩ := bools_of r2 i v (by simpa using e)
        exact ⟨b', by simpa using e1, e2⟩
theorem range_allB (bs : List Bool) : ((List.range bs.length).all fun i => (bs[i]?).getD true) = bs.all id := by
  rw [Bool.eq_iff_iff, List.all_eq_true, List.all_eq_true]
  constructor
  · intro h b hb
    obtain ⟨i, hi, e⟩ := List.getElem_of_mem hb
    have := h i (List.mem_range.mpr hi)
    simp only [List.getElem?_eq_getElem hi, Option.getD_some, e] at this
    exact this
  · intro h i hi
    have hi' := List.mem_range.mp hi
    simp only [List.getElem?_eq_getElem hi', Option.getD_some]
    exact h _ (List.getElem_mem hi')
theorem call_allL (hc : X.calm = true) : CallR X (.builtin "all") (fun xs H Q => ∃ (a : Addr) (bs : List Bool), xs = [.ref a] /\ SqL X.K H a (bs.map V.bl) /\ Q (.bl (bs.all id)) H) := by
  intro pins s σ H xs us Q I r h
  obtain ⟨a, bs, rfl, ha, q⟩ := h
  obtain ⟨u, rfl, ru⟩ := vals1 r
  cases ru
  obtain ⟨its, rv, p, hz⟩ := I.list ha
  have hl := p.isList
  have hlt : a < s.heap.objs.size := by obtain ⟨_, e, _⟩ := hl; exact Heap.lt_size e
  refine call_all_walk (wpAny_pyIter_list hl ?_)
  refine ⟨s.heap.objs.size, [s.heap.objs.size, a], [s.heap.objs.size], its.toArray.size, _, _, fun i => (bs[i]?).getD true, rfl, Walks.list (A := X.A.in1) (I.ok.hd hc) _ a (Nat.ne_of_lt hlt) its.toArray,
    ⟨⟨_, Heap.get?_push_size _ rfl, rfl, rfl⟩, hl.push _⟩, fun i v s' Q' E' hP hQ => ?_, fun h' tk hk => ?_⟩
  · obtain ⟨b, e, rfl⟩ := bools_of rv i v (by simpa using hP)
    simp only [e, Option.getD_some] at hQ
    exact wpAny_truthy_bool hQ
  · have e : ((List.range its.toArray.size).all fun i => (bs[i]?).getD true) = bs.all id := by
      rw [List.size_toArray, ← rv.length, List.length_map]; exact range_allB bs
    rw [e]
    refine ⟨.bl _, H, I.kept (t' := tk) fun b x e => hk b x (fun hm => ?_) (Heap.get?_push_of_some _ e), rfl, q⟩
    rw [List.mem_singleton.mp hm] at e
    exact Nat.lt_irrefl _ (Heap.lt_size e)
end
inductive Dt where
  | non | bl (b : Bool) | int (i : Int) | str (x : Str) | tup (l : List Dt) | lst (l : List Dt)
mutual
def Dt.dep : Dt -> Nat
  | .tup l => depL l + 1
  | .lst l => depL l + 1
  | _ => 0
def depL : List Dt -> Nat
  | [] => 0
  | d :: r => max d.dep (depL r)
end
mutual
def eqD : Dt -> Dt -> Bool
  | .non, .non => true
  | .bl a, .bl b => a == b
  | .bl a, .int b => (if a then 1 else 0) == b
  | .int a, .bl b => a == (if b then 1 else 0)
  | .int a, .int b => a == b
  | .str a, .str b => a == b
  | .tup a, .tup b => eqDL a b
  | .lst a, .lst b => eqDL a b
  | _, _ => false
def eqDL : List Dt -> List Dt -> Bool
  | [], [] => true
  | a :: r, b :: q => eqD a b && eqDL r q
  | _, _ => false
end
mutual
def Rep (K : PySem.W.Frag) (N : Addr -> Prop) (H : Hp) : Dt -> V -> Prop
  | .non, v => v = .non
  | .bl b, v => v = .bl b
  | .int i, v => v = .int i
  | .str x, v => v = .str x
  | .tup l, v => ∃ a xs, v = .ref a /\ ¬ N a /\ SqT K H a xs /\ RepL K N H l xs
  | .lst l, v => ∃ a xs, v = .ref a /\ ¬ N a /\ SqL K H a xs /\ RepL K N H l xs
def RepL (K : PySem.W.Frag) (N : Addr -> Prop) (H : Hp) : List Dt -> List V -> Prop
  | [], xs => xs = []
  | d :: r, xs => ∃ x ys, xs = x :: ys /\ Rep K N H d x /\ RepL K N H r ys
end
def SameX (N : Addr -> Prop) (H H' : Hp) : Prop := ∀ b o, H b = some o -> ¬ N b -> H' b = some o
theorem SameX.sqT {K : PySem.W.Frag} {N : Addr -> Prop} {H H' : Hp} {a : Addr} {xs : List V} (s : SameX N H H') (n : ¬ N a) (h : SqT K H a xs) : SqT K H' a xs := by
  rcases h with (h | ⟨o, h⟩) | h
  · exact .inl (.inl (s _ _ h n))
  · exact .inl (.inr ⟨o, s _ _ h n⟩)
  · exact .inr h
theorem SameX.sqL {K : PySem.W.Frag} {N : Addr -> Prop} {H H' : Hp} {a : Addr} {xs : List V} (s : SameX N H H') (n : ¬ N a) (h : SqL K H a xs) : SqL K H' a xs := by
  rcases h with (h | ⟨o, h⟩) | h
  · exact .inl (.inl (s _ _ h n))
  · exact .inl (.inr ⟨o, s _ _ h n⟩)
  · exact .inr h
mutual
theorem Rep.same {K : PySem.W.Frag} {N : Addr -> Prop} {H H' : Hp} (s : SameX N H H') : ∀ {d : Dt} {v : V}, Rep K N H d v -> Rep K N H' d v
  | .non, _, h => h
  | .bl _, _, h => h
  | .int _, _, h => h
  | .str _, _, h => h
  | .tup l, v, h => by
    unfold Rep at h ⊢
    obtain ⟨a, xs, e, n, q, r⟩ := h
    exact ⟨a, xs, e, n, s.sqT n q, RepL.same s r⟩
  | .lst l, v, h => by
    unfold Rep at h ⊢
    obtain ⟨a, xs, e, n, q, r⟩ := h
    exact ⟨a, xs, e, n, s.sqL n q, RepL.same s r⟩
theorem RepL.same {K : PySem.W.Frag} {N : Addr -> Prop} {H H' : Hp} (s : SameX N H H') : ∀ {l : List Dt} {xs : List V}, RepL K N H l xs -> RepL K N H' l xs
  | [], _, h => h
  | d :: r, xs, h => by
    unfold RepL at h ⊢
    obtain ⟨x, ys, e, h1, h2⟩ := h
    exact ⟨x, ys, e, Rep.same s h1, RepL.same s h2⟩
end
theorem RepL.length {K : PySem.W.Frag} {N : Addr -> Prop} {H : Hp} : ∀ {l : List Dt} {xs : List V}, RepL K N H l xs -> l.length = xs.length
  | [], xs, h => by unfold RepL at h; rw [h]; rfl
  | d :: r, xs, h => by
    unfold RepL at h
    obtain ⟨x, ys, rfl, _, h2⟩ := h
    rw [List.length_cons, List.length_cons, RepL.length h2]
theorem RepL.get {K : PySem.W.Frag} {N : Addr -> Prop} {H : Hp} : ∀ {l : List Dt} {xs : List V} {i : Nat} {d : Dt}, RepL K N H l xs -> l[i]? = some d -> ∃ x, xs[i]? = some x /\ Rep K N H d x
  | [], xs, i, d, h, e => by simp at e
  | d0 :: r, xs, 0, d, h, e => by
    unfold RepL at h
    obtain ⟨x, ys, rfl, h1, _⟩ := h
    simp at e
    subst e
    exact ⟨x, rfl, h1⟩
  | d0 :: r, xs, i + 1, d, h, e => by
    unfold RepL at h
    obtain ⟨x, ys, rfl, _, h2⟩ := h
    obtain ⟨y, e1, e2⟩ := RepL.get (i := i) h2 (by simpa using e)
    exact ⟨y, by simpa using e1, e2⟩
theorem eqDL_len : ∀ {l q : List Dt}, l.length ≠ q.length -> eqDL l q = false
  | [], [], h => absurd rfl h
  | [], _ :: _, _ => by simp [eqDL]
  | _ :: _, [], _ => by simp [eqDL]
  | a :: r, b :: q, h => by
    simp only [eqDL]
    rw [eqDL_len (l := r) (q := q) (by simpa using h), Bool.and_false]
theorem eqDL_range : ∀ {l q : List Dt}, l.length = q.length -> eqDL l q = (List.range l.length).all fun i => match l[i]?, q[i]? with | some a, some b => eqD a b | _, _ => true
  | [], [], _ => by simp [eqDL]
  | a :: r, b :: q, h => by
    simp only [eqDL]
    rw [eqDL_range (l := r) (q := q) (by simpa using h), List.length_cons, List.range_succ_eq_map, List.all_cons, List.all_map]
    simp [Function.comp_def]
theorem depL_get : ∀ {l : List Dt} {i : Nat} {d : Dt}, l[i]? = some d -> d.dep <= depL l
  | [], i, d, e => by simp at e
  | a :: r, 0, d, e => by simp at e; subst e; simp only [depL]; exact Nat.le_max_left _ _
  | a :: r, i + 1, d, e => by
    have := depL_get (l := r) (i := i) (d := d) (by simpa using e)
    simp only [depL]
    exact Nat.le_trans this (Nat.le_max_right _ _)
section
variable {X : Cx} {pins : List (Addr × Obj)} {σ : St} {H : Hp} {s : Shared} {N N' : Addr -> Prop}
theorem not_both (I : Inv X pins σ H s) {a : Addr} {xs ys : List V} (h : SqL X.K H a xs) (k : SqT X.K H a ys) : False := by
  obtain ⟨its, _, p, _⟩ := I.list h
  obtain ⟨its2, _, q, _⟩ := I.tuple k
  obtain ⟨o, e, c, _⟩ := p.isList
  obtain ⟨o2, e2, c2, _⟩ := q
  rw [e] at e2
  cases e2
  rw [c] at c2
  injection c2 with z
  exact absurd z (by decide)
mutual
theorem Rep.inj (I : Inv X pins σ H s) : ∀ {d e : Dt} {v : V}, Rep X.K N H d v -> Rep X.K N' H e v -> d = e
  | .non, .non, _, _, _ => rfl
  | .non, .bl _, _, h, k => by unfold Rep at h k; rw [h] at k; cases k
  | .non, .int _, _, h, k => by unfold Rep at h k; rw [h] at k; cases k
  | .non, .str _, _, h, k => by unfold Rep at h k; rw [h] at k; cases k
  | .non, .tup _, _, h, k => by unfold Rep at h k; obtain ⟨_, _, e, _⟩ := k; rw [h] at e; cases e
  | .non, .lst _, _, h, k => by unfold Rep at h k; obtain ⟨_, _, e, _⟩ := k; rw [h] at e; cases e
  | .bl _, .non, _, h, k => by unfold Rep at h k; rw [h] at k; cases k
  | .bl x, .bl y, _, h, k => by unfold Rep at h k; rw [h] at k; cases k; rfl
  | .bl _, .int _, _, h, k => by unfold Rep at h k; rw [h] at k; cases k
  | .bl _, .str _, _, h, k => by unfold Rep at h k; rw [h] at k; cases k
  | .bl _, .tup _, _, h, k => by unfold Rep at h k; obtain ⟨_, _, e, _⟩ := k; rw [h] at e; cases e
  | .bl _, .lst _, _, h, k => by unfold Rep at h k; obtain ⟨_, _, e, _⟩ := k; rw [h] at e; cases e
  | .int _, .non, _, h, k => by unfold Rep at h k; rw [h] at k; cases k
  | .int _, .bl _, _, h, k => by unfold Rep at h k; rw [h] at k; cases k
  | .int x, .int y, _, h, k => by unfold Rep at h k; rw [h] at k; cases k; rfl
  | .int _, .str _, _, h, k => by unfold Rep at h k; rw [h] at k; cases k
  | .int _, .tup _, _, h, k => by unfold Rep at h k; obtain ⟨_, _, e, _⟩ := k; rw [h] at e; cases e
  | .int _, .lst _, _, h, k => by unfold Rep at h k; obtain ⟨_, _, e, _⟩ := k; rw [h] at e; cases e
  | .str _, .non, _, h, k => by unfold Rep at h k; rw [h] at k; cases k
  | .str _, .bl _, _, h, k => by unfold Rep at h k; rw [h] at k; cases k
  | .str _, .int _, _, h, k => by unfold Rep at h k; rw [h] at k; cases k
  | .str x, .str y, _, h, k => by unfold Rep at h k; rw [h] at k; cases k; rfl
  | .str _, .tup _, _, h, k => by unfold Rep at h k; obtain ⟨_, _, e, _⟩ := k; rw [h] at e; cases e
  | .str _, .lst _, _, h, k => by unfold Rep at h k; obtain ⟨_, _, e, _⟩ := k; rw [h] at e; cases e
  | .tup _, .non, _, h, k => by unfold Rep at h k; obtain ⟨_, _, e, _⟩ := h; rw [k] at e; cases e
  | .tup _, .bl _, _, h, k => by unfold Rep at h k; obtain ⟨_, _, e, _⟩ := h; rw [k] at e; cases e
  | .tup _, .int _, _, h, k => by unfold Rep at h k; obtain ⟨_, _, e, _⟩ := h; rw [k] at e; cases e
  | .tup _, .str _, _, h, k => by unfold Rep at h k; obtain ⟨_, _, e, _⟩ := h; rw [k] at e; cases e
  | .tup l, .tup q, _, h, k => by
    unfold Rep at h k
    obtain ⟨a, xs, rfl, _, h1, h2⟩ := h
    obtain ⟨b, ys, e, _, k1, k2⟩ := k
    cases e
    have := I.tuple_inj h1 k1
    subst this
    rw [RepL.inj I h2 k2]
  | .tup _, .lst _, _, h, k => by unfold Rep at h k; obtain ⟨_, _, rfl, _, h1, _⟩ := h; obtain ⟨_, _, e, _, k1, _⟩ := k; cases e; exact (not_both I k1 h1).elim
  | .lst _, .non, _, h, k => by unfold Rep at h k; obtain ⟨_, _, e, _⟩ := h; rw [k] at e; cases e
  | .lst _, .bl _, _, h, k => by unfold Rep at h k; obtain ⟨_, _, e, _⟩ := h; rw [k] at e; cases e
  | .lst _, .int _, _, h, k => by unfold Rep at h k; obtain ⟨_, _, e, _⟩ := h; rw [k] at e; cases e
  | .lst _, .str _, _, h, k => by unfold Rep at h k; obtain ⟨_, _, e, _⟩ := h; rw [k] at e; cases e
  | .lst _, .tup _, _, h, k => by unfold Rep at h k; obtain ⟨_, _, rfl, _, h1, _⟩ := h; obtain ⟨_, _, e, _, k1, _⟩ := k; cases e; exact (not_both I h1 k1).elim
  | .lst l, .lst q, _, h, k => by
    unfold Rep at h k
    obtain ⟨a, xs, rfl, _, h1, h2⟩ := h
    obtain ⟨b, ys, e, _, k1, k2⟩ := k
    cases e
    have := I.list_inj h1 k1
    subst this
    rw [RepL.inj I h2 k2]
theorem RepL.inj (I : Inv X pins σ H s) : ∀ {l q : List Dt} {xs : List V}, RepL X.K N H l xs -> RepL X.K N' H q xs -> l = q
  | [], [], _, _, _ => rfl
  | [], _ :: _, _, h, k => by unfold RepL at h k; obtain ⟨_, _, e, _⟩ := k; rw [h] at e; cases e
  | _ :: _, [], _, h, k => by unfold RepL at h k; obtain ⟨_, _, e, _⟩ := h; rw [k] at e; cases e
  | a :: r, b :: q, xs, h, k => by
    unfold RepL at h k
    obtain ⟨x, ys, rfl, h1, h2⟩ := h
    obtain ⟨y, zs, e, k1, k2⟩ := k
    cases e
    rw [Rep.inj I h1 k1, RepL.inj I h2 k2]
end
mutual
theorem eqD_self : ∀ d : Dt, eqD d d = true
  | .non => by simp [eqD]
  | .bl _ => by simp [eqD]
  | .int _ => by simp [eqD]
  | .str _ => by simp [eqD]
  | .tup l => by simp only [eqD]; exact eqDL_self l
  | .lst l => by simp only [eqD]; exact eqDL_self l
theorem eqDL_self : ∀ l : List Dt, eqDL l l = true
  | [] => by simp [eqDL]
  | d :: r => by simp only [eqDL, eqD_self d, eqDL_self r, Bool.and_self]
end
theorem items_eq {A : Around} {k : Nat} (ih : ∀ (d e : Dt) {v w : V} {u z : Value}, d.dep <= k -> Rep X.K N H d v -> Rep X.K N' H e w -> RelV v u -> RelV w z -> SeqAt.EqAt A s u z (eqD d e))
    {l q : List Dt} {xs ys : List V} {its its2 : List Value} (hd : depL l <= k) (h : RepL X.K N H l xs) (h' : RepL X.K N' H q ys) (r : Vals xs its) (r' : Vals ys its2) :
    ∀ j (h1 : j < its.toArray.size) (h2 : j < its2.toArray.size), SeqAt.EqAt A s its.toArray[j] its2.toArray[j] (match l[j]?, q[j]? with | some a, some b => eqD a b | _, _ => true) := by
  intro j h1 h2
  have n1 : l.length = its.length := h.length.trans r.length
  have n2 : q.length = its2.length := h'.length.trans r'.length
  have j1 : j < l.length := by rw [n1]; simpa using h1
  have j2 : j < q.length := by rw [n2]; simpa using h2
  obtain ⟨x, ex, rx⟩ := h.get (List.getElem?_eq_getElem j1)
  obtain ⟨y, ey, ry⟩ := h'.get (List.getElem?_eq_getElem j2)
  obtain ⟨u, eu, ru⟩ := r.get ex
  obtain ⟨z, ez, rz⟩ := r'.get ey
  rw [List.getElem?_eq_getElem j1, List.getElem?_eq_getElem j2]
  have e1 : its.toArray[j] = u := by
    have := List.getElem?_eq_some_iff.mp eu
    obtain ⟨_, e⟩ := this
    simpa using e
  have e2 : its2.toArray[j] = z := by
    have := List.getElem?_eq_some_iff.mp ez
    obtain ⟨_, e⟩ := this
    simpa using e
  rw [e1, e2]
  exact ih _ _ (Nat.le_trans (depL_get (List.getElem?_eq_getElem j1)) hd) rx ry ru rz
theorem eq_tup_val {l q : List Dt} {xs ys : List V} {its its2 : List Value} (h : RepL X.K N H l xs) (h' : RepL X.K N' H q ys) (r : Vals xs its) (r' : Vals ys its2) :
    ((List.range (min its.toArray.size its2.toArray.size)).all (fun j => match l[j]?, q[j]? with | some a, some b => eqD a b | _, _ => true) && its.toArray.size == its2.toArray.size) = eqDL l q := by
  have n1 : l.length = its.toArray.size := by simpa using h.length.trans r.length
  have n2 : q.length = its2.toArray.size := by simpa using h'.length.trans r'.length
  rw [← n1, ← n2]
  by_cases hn : l.length = q.length
  · rw [eqDL_range hn, hn, Nat.min_self]
    simp
  · rw [eqDL_len hn]
    have : (l.length == q.length) = false := by simpa using hn
    rw [this, Bool.and_false]
theorem eqAt_D (I : Inv X pins σ H s) : ∀ (k : Nat) (A : Around), A.units + k < cLine -> ∀ (d e : Dt) {v w : V} {u z : Value}, d.dep <= k -> Rep X.K N H d v -> Rep X.K N' H e w -> RelV v u -> RelV w z -> SeqAt.EqAt A s u z (eqD d e) := by
  intro k
  induction k with
  | zero =>
    intro A hA d e v w u z hd h h' r r'
    have hu : A.units < cLine := by omega
    cases d with
    | tup l => exact absurd hd (by simp [Dt.dep])
    | lst l => exact absurd hd (by simp [Dt.dep])
    | non => 
      unfold Rep at h
      subst h
      cases e with
      | non =>
        unfold Rep at h'
        subst h'
        have := eqAt_V (A := A) (s := s) r r' rfl rfl
        simpa [eqD, eqV] using this
      | bl y =>
        unfold Rep at h'
        subst h'
        have := eqAt_V (A := A) (s := s) r r' rfl rfl
        simpa [eqD, eqV] using this
      | int y =>
        unfold Rep at h'
        subst h'
        have := eqAt_V (A := A) (s := s) r r' rfl rfl
        simpa [eqD, eqV] using this
      | str y =>
        unfold Rep at h'
        subst h'
        have := eqAt_V (A := A) (s := s) r r' rfl rfl
        simpa [eqD, eqV] using this
      | tup y =>
        unfold Rep at h'
        obtain ⟨a, xs, rfl, _, q1, _⟩ := h'
        cases r'
        obtain ⟨its, _, p, _⟩ := I.tuple q1
        cases r
        simp only [eqD]
        exact SeqAt.EqAt.none_tuple p hu
      | lst y =>
        unfold Rep at h'
        obtain ⟨a, xs, rfl, _, q1, _⟩ := h'
        cases r'
        obtain ⟨its, _, p, _⟩ := I.list q1
        cases r
        simp only [eqD]
        exact SeqAt.EqAt.none_list p.isList hu
    | bl x => 
      unfold Rep at h
      subst h
      cases e with
      | non =>
        unfold Rep at h'
        subst h'
        have := eqAt_V (A := A) (s := s) r r' rfl rfl
        simpa [eqD, eqV] using this
      | bl y =>
        unfold Rep at h'
        subst h'
        have := eqAt_V (A := A) (s := s) r r' rfl rfl
        simpa [eqD, eqV] using this
      | int y =>
        unfold Rep at h'
        subst h'
        have := eqAt_V (A := A) (s := s) r r' rfl rfl
        simpa [eqD, eqV] using this
      | str y =>
        unfold Rep at h'
        subst h'
        have := eqAt_V (A := A) (s := s) r r' rfl rfl
        simpa [eqD, eqV] using this
      | tup y =>
        unfold Rep at h'
        obtain ⟨a, xs, rfl, _, q1, _⟩ := h'
        cases r'
        obtain ⟨its, _, p, _⟩ := I.tuple q1
        cases r
        simp only [eqD]
        exact SeqAt.EqAt.bool_tuple x p hu
      | lst y =>
        unfold Rep at h'
        obtain ⟨a, xs, rfl, _, q1, _⟩ := h'
        cases r'
        obtain ⟨its, _, p, _⟩ := I.list q1
        cases r
        simp only [eqD]
        exact SeqAt.EqAt.bool_list x p.isList hu
    | int x => 
      unfold Rep at h
      subst h
      cases e with
      | non =>
        unfold Rep at h'
        subst h'
        have := eqAt_V (A := A) (s := s) r r' rfl rfl
        simpa [eqD, eqV] using this
      | bl y =>
        unfold Rep at h'
        subst h'
        have := eqAt_V (A := A) (s := s) r r' rfl rfl
        simpa [eqD, eqV] using this
      | int y =>
        unfold Rep at h'
        subst h'
        have := eqAt_V (A := A) (s := s) r r' rfl rfl
        simpa [eqD, eqV] using this
      | str y =>
        unfold Rep at h'
        subst h'
        have := eqAt_V (A := A) (s := s) r r' rfl rfl
        simpa [eqD, eqV] using this
      | tup y =>
        unfold Rep at h'
        obtain ⟨a, xs, rfl, _, q1, _⟩ := h'
        cases r'
        obtain ⟨its, _, p, _⟩ := I.tuple q1
        obtain ⟨t, rfl⟩ := r
        simp only [eqD]
        exact SeqAt.EqAt.int_tuple x t p hu
      | lst y =>
        unfold Rep at h'
        obtain ⟨a, xs, rfl, _, q1, _⟩ := h'
        cases r'
        obtain ⟨its, _, p, _⟩ := I.list q1
        obtain ⟨t, rfl⟩ := r
        simp only [eqD]
        exact SeqAt.EqAt.int_list x t p.isList hu
    | str x => 
      unfold Rep at h
      subst h
      cases e with
      | non =>
        unfold Rep at h'
        subst h'
        have := eqAt_V (A := A) (s := s) r r' rfl rfl
        simpa [eqD, eqV] using this
      | bl y =>
        unfold Rep at h'
        subst h'
        have := eqAt_V (A := A) (s := s) r r' rfl rfl
        simpa [eqD, eqV] using this
      | int y =>
        unfold Rep at h'
        subst h'
        have := eqAt_V (A := A) (s := s) r r' rfl rfl
        simpa [eqD, eqV] using this
      | str y =>
        unfold Rep at h'
        subst h'
        have := eqAt_V (A := A) (s := s) r r' rfl rfl
        simpa [eqD, eqV] using this
      | tup y =>
        unfold Rep at h'
        obtain ⟨a, xs, rfl, _, q1, _⟩ := h'
        cases r'
        obtain ⟨its, _, p, _⟩ := I.tuple q1
        obtain ⟨t, rfl⟩ := r
        simp only [eqD]
        exact SeqAt.EqAt.str_tuple x t p hu
      | lst y =>
        unfold Rep at h'
        obtain ⟨a, xs, rfl, _, q1, _⟩ := h'
        cases r'
        obtain ⟨its, _, p, _⟩ := I.list q1
        obtain ⟨t, rfl⟩ := r
        simp only [eqD]
        exact SeqAt.EqAt.str_list x t p.isList hu
  | succ k ih =>
    intro A hA d e v w u z hd h h' r r'
    have hu : A.units < cLine := by omega
    have hA' : A.in1.units + k < cLine := by have : A.in1.units = A.units + 1 := rfl; omega
    cases d with
    | non => 
      unfold Rep at h
      subst h
      cases e with
      | non =>
        unfold Rep at h'
        subst h'
        have := eqAt_V (A := A) (s := s) r r' rfl rfl
        simpa [eqD, eqV] using this
      | bl y =>
        unfold Rep at h'
        subst h'
        have := eqAt_V (A := A) (s := s) r r' rfl rfl
        simpa [eqD, eqV] using this
      | int y =>
        unfold Rep at h'
        subst h'
        have := eqAt_V (A := A) (s := s) r r' rfl rfl
        simpa [eqD, eqV] using this
      | str y =>
        unfold Rep at h'
        subst h'
        have := eqAt_V (A := A) (s := s) r r' rfl rfl
        simpa [eqD, eqV] using this
      | tup y =>
        unfold Rep at h'
        obtain ⟨a, xs, rfl, _, q1, _⟩ := h'
        cases r'
        obtain ⟨its, _, p, _⟩ := I.tuple q1
        cases r
        simp only [eqD]
        exact SeqAt.EqAt.none_tuple p hu
      | lst y =>
        unfold Rep at h'
        obtain ⟨a, xs, rfl, _, q1, _⟩ := h'
        cases r'
        obtain ⟨its, _, p, _⟩ := I.list q1
        cases r
        simp only [eqD]
        exact SeqAt.EqAt.none_list p.isList hu
    | bl x => 
      unfold Rep at h
      subst h
      cases e with
      | non =>
        unfold Rep at h'
        subst h'
        have := eqAt_V (A := A) (s := s) r r' rfl rfl
        simpa [eqD, eqV] using this
      | bl y =>
        unfold Rep at h'
        subst h'
        have := eqAt_V (A := A) (s := s) r r' rfl rfl
        simpa [eqD, eqV] using this
      | int y =>
        unfold Rep at h'
        subst h'
        have := eqAt_V (A := A) (s := s) r r' rfl rfl
        simpa [eqD, eqV] using this
      | str y =>
        unfold Rep at h'
        subst h'
        have := eqAt_V (A := A) (s := s) r r' rfl rfl
        simpa [eqD, eqV] using this
      | tup y =>
        unfold Rep at h'
        obtain ⟨a, xs, rfl, _, q1, _⟩ := h'
        cases r'
        obtain ⟨its, _, p, _⟩ := I.tuple q1
        cases r
        simp only [eqD]
        exact SeqAt.EqAt.bool_tuple x p hu
      | lst y =>
        unfold Rep at h'
        obtain ⟨a, xs, rfl, _, q1, _⟩ := h'
        cases r'
        obtain ⟨its, _, p, _⟩ := I.list q1
        cases r
        simp only [eqD]
        exact SeqAt.EqAt.bool_list x p.isList hu
    | int x => 
      unfold Rep at h
      subst h
      cases e with
      | non =>
        unfold Rep at h'
        subst h'
        have := eqAt_V (A := A) (s := s) r r' rfl rfl
        simpa [eqD, eqV] using this
      | bl y =>
        unfold Rep at h'
        subst h'
        have := eqAt_V (A := A) (s := s) r r' rfl rfl
        simpa [eqD, eqV] using this
      | int y =>
        unfold Rep at h'
        subst h'
        have := eqAt_V (A := A) (s := s) r r' rfl rfl
        simpa [eqD, eqV] using this
      | str y =>
        unfold Rep at h'
        subst h'
        have := eqAt_V (A := A) (s := s) r r' rfl rfl
        simpa [eqD, eqV] using this
      | tup y =>
        unfold Rep at h'
        obtain ⟨a, xs, rfl, _, q1, _⟩ := h'
        cases r'
        obtain ⟨its, _, p, _⟩ := I.tuple q1
        obtain ⟨t, rfl⟩ := r
        simp only [eqD]
        exact SeqAt.EqAt.int_tuple x t p hu
      | lst y =>
        unfold Rep at h'
        obtain ⟨a, xs, rfl, _, q1, _⟩ := h'
        cases r'
        obtain ⟨its, _, p, _⟩ := I.list q1
        obtain ⟨t, rfl⟩ := r
        simp only [eqD]
        exact SeqAt.EqAt.int_list x t p.isList hu
    | str x => 
      unfold Rep at h
      subst h
      cases e with
      | non =>
        unfold Rep at h'
        subst h'
        have := eqAt_V (A := A) (s := s) r r' rfl rfl
        simpa [eqD, eqV] using this
      | bl y =>
        unfold Rep at h'
        subst h'
        have := eqAt_V (A := A) (s := s) r r' rfl rfl
        simpa [eqD, eqV] using this
      | int y =>
        unfold Rep at h'
        subst h'
        have := eqAt_V (A := A) (s := s) r r' rfl rfl
        simpa [eqD, eqV] using this
      | str y =>
        unfold Rep at h'
        subst h'
        have := eqAt_V (A := A) (s := s) r r' rfl rfl
        simpa [eqD, eqV] using this
      | tup y =>
        unfold Rep at h'
        obtain ⟨a, xs, rfl, _, q1, _⟩ := h'
        cases r'
        obtain ⟨its, _, p, _⟩ := I.tuple q1
        obtain ⟨t, rfl⟩ := r
        simp only [eqD]
        exact SeqAt.EqAt.str_tuple x t p hu
      | lst y =>
        unfold Rep at h'
        obtain ⟨a, xs, rfl, _, q1, _⟩ := h'
        cases r'
        obtain ⟨its, _, p, _⟩ := I.list q1
        obtain ⟨t, rfl⟩ := r
        simp only [eqD]
        exact SeqAt.EqAt.str_list x t p.isList hu
    | tup l =>
      have h0 := h
      unfold Rep at h
      obtain ⟨a, xs, rfl, na, q1, q2⟩ := h
      cases r
      obtain ⟨its, r1, p1, _⟩ := I.tuple q1
      have hd' : depL l <= k := by simp only [Dt.dep] at hd; omega
      cases e with
      | non =>
        unfold Rep at h'
        subst h'
        cases r'
        simp only [eqD]
        exact SeqAt.EqAt.tuple_none p1 hu
      | bl y =>
        unfold Rep at h'
        subst h'
        cases r'
        simp only [eqD]
        exact SeqAt.EqAt.tuple_bool y p1 hu
      | int y =>
        unfold Rep at h'
        subst h'
        obtain ⟨t, rfl⟩ := r'
        simp only [eqD]
        exact SeqAt.EqAt.tuple_int y t p1 hu
      | str y =>
        unfold Rep at h'
        subst h'
        obtain ⟨t, rfl⟩ := r'
        simp only [eqD]
        exact SeqAt.EqAt.tuple_str y t p1 hu
      | tup q =>
        have h0' := h'
        unfold Rep at h'
        obtain ⟨b, ys, rfl, nb, k1, k2⟩ := h'
        cases r'
        obtain ⟨its2, r2, p2, _⟩ := I.tuple k1
        by_cases hab : a = b
        · subst hab
          have := Rep.inj I h0 h0'
          rw [← this, eqD_self]
          exact SeqAt.EqAt.same _
        · refine SeqAt.EqAt.of_refs hab ?_
          simp only [eqD]
          have := SeqAt.RcAt.tuples (A := A) (s := s) p1 p2 hu (items_eq (A := A.in1) (fun d e => ih A.in1 hA' d e) hd' q2 k2 r1 r2)
          rw [eq_tup_val q2 k2 r1 r2] at this
          exact this
      | lst q =>
        have h0' := h'
        unfold Rep at h'
        obtain ⟨b, ys, rfl, nb, k1, k2⟩ := h'
        cases r'
        obtain ⟨its2, r2, p2, _⟩ := I.list k1
        simp only [eqD]
        exact SeqAt.EqAt.tuple_list p1 p2.isList hu
    | lst l =>
      have h0 := h
      unfold Rep at h
      obtain ⟨a, xs, rfl, na, q1, q2⟩ := h
      cases r
      obtain ⟨its, r1, p1, _⟩ := I.list q1
      have hd' : depL l <= k := by simp only [Dt.dep] at hd; omega
      cases e with
      | non =>
        unfold Rep at h'
        subst h'
        cases r'
        simp only [eqD]
        exact SeqAt.EqAt.list_none p1.isList hu
      | bl y =>
        unfold Rep at h'
        subst h'
        cases r'
        simp only [eqD]
        exact SeqAt.EqAt.list_bool y p1.isList hu
      | int y =>
        unfold Rep at h'
        subst h'
        obtain ⟨t, rfl⟩ := r'
        simp only [eqD]
        exact SeqAt.EqAt.list_int y t p1.isList hu
      | str y =>
        unfold Rep at h'
        subst h'
        obtain ⟨t, rfl⟩ := r'
        simp only [eqD]
        exact SeqAt.EqAt.list_str y t p1.isList hu
      | tup q =>
        have h0' := h'
        unfold Rep at h'
        obtain ⟨b, ys, rfl, nb, k1, k2⟩ := h'
        cases r'
        obtain ⟨its2, r2, p2, _⟩ := I.tuple k1
        simp only [eqD]
        exact SeqAt.EqAt.list_tuple p1.isList p2 hu
      | lst q =>
        have h0' := h'
        unfold Rep at h'
        obtain ⟨b, ys, rfl, nb, k1, k2⟩ := h'
        cases r'
        obtain ⟨its2, r2, p2, _⟩ := I.list k1
        by_cases hab : a = b
        · subst hab
          have := Rep.inj I h0 h0'
          rw [← this, eqD_self]
          exact SeqAt.EqAt.same _
        · refine SeqAt.EqAt.of_refs hab ?_
          simp only [eqD]
          have n1 : l.length = its.toArray.size := by simpa using q2.length.trans r1.length
          have n2 : q.length = its2.toArray.size := by simpa using k2.length.trans r2.length
          by_cases hn : l.length = q.length
          · have := SeqAt.RcAt.lists (A := A) (s := s) p1.isList p2.isList (by rw [← n1, ← n2]; exact hn) hu (items_eq (A := A.in1) (fun d e => ih A.in1 hA' d e) hd' q2 k2 r1 r2)
            rw [← n1, ← eqDL_range hn] at this
            exact this
          · rw [eqDL_len hn]
            refine SeqAt.RcAt.lists_lengths p1.isList p2.isList ?_ hu
            rw [← n1, ← n2]
            simpa using hn
def rEqD (K : PySem.W.Frag) (neg : Bool) : R2 := fun x y H Q => ∃ (N N' : Addr -> Prop) (l q : List Dt) (c : Bool), (Rep K N H (if c then .tup l else .lst l) x /\ Rep K N' H (if c then .tup q else .lst q) y) /\ depL l <= 20 /\ Q (.bl (if neg then !eqDL l q else eqDL l q)) H
theorem op_eqD (hu : X.A.units + 30 < cLine) : OpR X (compareOp .Eq) (rEqD X.K false) := by
  intro pins s σ H x y v u Q I rx ry h
  obtain ⟨N, N', l, q, c, ⟨h1, h2⟩, hd, hq⟩ := h
  have hu0 : X.A.units < cLine := by omega
  have hu1 : X.A.in1.units + 20 < cLine := by have : X.A.in1.units = X.A.units + 1 := rfl; omega
  cases c with
  | true =>
    simp only [if_true] at h1 h2
    unfold Rep at h1 h2
    obtain ⟨a, xs, rfl, _, q1, q2⟩ := h1
    obtain ⟨b, ys, rfl, _, k1, k2⟩ := h2
    cases rx
    cases ry
    obtain ⟨its, r1, p1, _⟩ := I.tuple q1
    obtain ⟨its2, r2, p2, _⟩ := I.tuple k1
    have := SeqAt.RcAt.tuples (A := X.A) (s := s) p1 p2 hu0 (items_eq (A := X.A.in1) (fun d e => eqAt_D I 20 X.A.in1 hu1 d e) hd q2 k2 r1 r2)
    rw [eq_tup_val q2 k2 r1 r2] at this
    exact this X.prog X.w _ _ ⟨.bl _, H, I, rfl, hq⟩
  | false =>
    simp only [Bool.false_eq_true, if_false] at h1 h2
    unfold Rep at h1 h2
    obtain ⟨a, xs, rfl, _, q1, q2⟩ := h1
    obtain ⟨b, ys, rfl, _, k1, k2⟩ := h2
    cases rx
    cases ry
    obtain ⟨its, r1, p1, _⟩ := I.list q1
    obtain ⟨its2, r2, p2, _⟩ := I.list k1
    have n1 : l.length = its.toArray.size := by simpa using q2.length.trans r1.length
    have n2 : q.length = its2.toArray.size := by simpa using k2.length.trans r2.length
    by_cases hn : l.length = q.length
    · have := SeqAt.RcAt.lists (A := X.A) (s := s) p1.isList p2.isList (by rw [← n1, ← n2]; exact hn) hu0 (items_eq (A := X.A.in1) (fun d e => eqAt_D I 20 X.A.in1 hu1 d e) hd q2 k2 r1 r2)
      rw [← n1, ← eqDL_range hn] at this
      exact this X.prog X.w _ _ ⟨.bl _, H, I, rfl, hq⟩
    · simp only [eqDL_len hn] at hq
      exact SeqAt.RcAt.lists_lengths p1.isList p2.isList (by rw [← n1, ← n2]; simpa using hn) hu0 X.prog X.w _ _ ⟨.bl _, H, I, rfl, hq⟩
theorem op_neD (hu : X.A.units + 30 < cLine) : OpR X (compareOp .NotEq) (rEqD X.K true) := by
  intro pins s σ H x y v u Q I rx ry h
  obtain ⟨N, N', l, q, c, ⟨h1, h2⟩, hd, hq⟩ := h
  have hu0 : X.A.units < cLine := by omega
  have hu1 : X.A.in1.units + 20 < cLine := by have : X.A.in1.units = X.A.units + 1 := rfl; omega
  cases c with
  | true =>
    simp only [if_true] at h1 h2
    unfold Rep at h1 h2
    obtain ⟨a, xs, rfl, _, q1, q2⟩ := h1
    obtain ⟨b, ys, rfl, _, k1, k2⟩ := h2
    cases rx
    cases ry
    obtain ⟨its, r1, p1, _⟩ := I.tuple q1
    obtain ⟨its2, r2, p2, _⟩ := I.tuple k1
    have := SeqAt.RcNeAt.tuples (A := X.A) (s := s) p1 p2 hu0 (items_eq (A := X.A.in1) (fun d e => eqAt_D I 20 X.A.in1 hu1 d e) hd q2 k2 r1 r2)
    rw [eq_tup_val q2 k2 r1 r2] at this
    exact this X.prog X.w _ _ ⟨.bl _, H, I, rfl, hq⟩
  | false =>
    simp only [Bool.false_eq_true, if_false] at h1 h2
    unfold Rep at h1 h2
    obtain ⟨a, xs, rfl, _, q1, q2⟩ := h1
    obtain ⟨b, ys, rfl, _, k1, k2⟩ := h2
    cases rx
    cases ry
    obtain ⟨its, r1, p1, _⟩ := I.list q1
    obtain ⟨its2, r2, p2, _⟩ := I.list k1
    have n1 : l.length = its.toArray.size := by simpa using q2.length.trans r1.length
    have n2 : q.length = its2.toArray.size := by simpa using k2.length.trans r2.length
    by_cases hn : l.length = q.length
    · have := SeqAt.RcNeAt.lists (A := X.A) (s := s) p1.isList p2.isList (by rw [← n1, ← n2]; exact hn) hu0 (items_eq (A := X.A.in1) (fun d e => eqAt_D I 20 X.A.in1 hu1 d e) hd q2 k2 r1 r2)
      rw [← n1, ← eqDL_range hn] at this
      exact this X.prog X.w _ _ ⟨.bl _, H, I, rfl, hq⟩
    · simp only [eqDL_len hn] at hq
      exact SeqAt.RcNeAt.lists_lengths p1.isList p2.isList (by rw [← n1, ← n2]; simpa using hn) hu0 X.prog X.w _ _ ⟨.bl _, H, I, rfl, hq⟩
end
end L2
namespace L2
open PySem PySem.Spec PyProof.Rows
theorem SrcOk.any {X : Cx} {scope : Scope} : ∀ {l : List (Str × Option Nat)}, SrcOk X scope l -> ∀ {x : Str}, (l.any fun p => p.1 == x && p.2.isSome) = true -> X.env.kindOf x = some .cell ∨ X.env.kindOf x = some .free
  | [], _, x, e => by simp at e
  | (y, none) :: r, h, x, e => SrcOk.any (l := r) h (by simpa using e)
  | (y, some k) :: r, h, x, e => by
    rw [List.any_cons, Bool.or_eq_true] at e
    rcases e with e | e
    · have : y = x := by simpa using e
      subst this
      exact h.1.2.2
    · exact SrcOk.any (l := r) h.2 e
theorem CompScope.of {X : Cx} {scope : Scope} {l : List (Str × Option Nat)} (hk : scope.kind = .function) (hc : ∀ y ∈ scope.names, y.2 = .cell -> scope.names.lookup y.1 = some .cell) (hn : ∀ y ∈ scope.names, y.2 = .local -> scope.names.lookup y.1 = some .local)
    (hf : ∀ y ∈ scope.names, y.2 = .free -> (l.any fun p => p.1 == y.1 && p.2.isSome) = true) (hs : SrcOk X scope l) : CompScope X scope l := ⟨hk, hc, hn, fun y hy hyf => hs.any (hf y hy hyf), hs⟩
theorem fit9 {i : Int} (h : Fit 64 i) : Fit 9000 i := h.mono (by decide)
end L2
namespace L2
open PySem PySem.Spec PyProof.Rows
def ItK (c : Bool) (h : Heap) (i l : Addr) (k : Nat) : Prop := if c = true then h.IsTupleIter i l k else h.IsListIter i l k
def SeqK (c : Bool) (h : Heap) (l : Addr) (xs : Array Value) : Prop := if c = true then h.IsTuple l xs else h.IsList l xs
theorem ItK.at {c : Bool} {h h' : Heap} {i l : Addr} {k : Nat} (x : ItK c h i l k) (e : ∀ o, h.get? i = some o -> h'.get? i = some o) : ItK c h' i l k := by
  cases c with
  | true => obtain ⟨o, ho, r⟩ := (show h.IsTupleIter i l k from x); exact (show h'.IsTupleIter i l k from ⟨o, e o ho, r⟩)
  | false => obtain ⟨o, ho, r⟩ := (show h.IsListIter i l k from x); exact (show h'.IsListIter i l k from ⟨o, e o ho, r⟩)
theorem SeqK.at {c : Bool} {h h' : Heap} {l : Addr} {xs : Array Value} (x : SeqK c h l xs) (e : ∀ o, h.get? l = some o -> h'.get? l = some o) : SeqK c h' l xs := by
  cases c with
  | true => obtain ⟨o, ho, r⟩ := (show h.IsTuple l xs from x); exact (show h'.IsTuple l xs from ⟨o, e o ho, r⟩)
  | false => obtain ⟨o, ho, r⟩ := (show h.IsList l xs from x); exact (show h'.IsList l xs from ⟨o, e o ho, r⟩)
theorem ItK.obj {c : Bool} {h : Heap} {i l : Addr} {k : Nat} (x : ItK c h i l k) : ∃ o, h.get? i = some o /\ ∀ v, o.data ≠ .cell v := by
  cases c with
  | true => obtain ⟨o, ho, _, d⟩ := (show h.IsTupleIter i l k from x); exact ⟨o, ho, fun v z => by rw [d] at z; cases z⟩
  | false => obtain ⟨o, ho, _, d⟩ := (show h.IsListIter i l k from x); exact ⟨o, ho, fun v z => by rw [d] at z; cases z⟩
section
variable {prog : Program} {w : World} {A : Around} {E : Value -> Shared -> Prop} {s : Shared}
theorem nxK_item {c : Bool} {i l : Addr} {k : Nat} {xs : Array Value} {v : Value} {Q : Value -> Shared -> Prop} (hi : ItK c s.heap i l k) (hl : SeqK c s.heap l xs) (hx : xs[k]? = some v)
    (hQ : ∀ h', ItK c h' i l (k + 1) -> Heap.SameBut i s.heap h' -> Q v { s with heap := h' }) : wpAny (model prog w) A (Builtin.SmallTypes.nextOf (.ref i)) Q E s := by
  cases c with
  | false => exact wpAny_nextOf_list_item hi hl hx hQ
  | true =>
    have hi' : s.heap.IsTupleIter i l k := hi
    obtain ⟨o1, g1, g2, g3⟩ := id hi'
    obtain ⟨o2, f1, _, n2, f3⟩ := (show s.heap.IsTuple l xs from hl)
    unfold Builtin.SmallTypes.nextOf
    refine wpAny_bind (wpAny_callSpecial?_slot (name := Str.ofString "__next__") hi'.typeIs F.slot_tuple_iterator_next (wpAny_call_entry F.slot_tuple_iterator_next hi'.typeIs F.entry_tuple_iterator_next ?_ (F.args_tuple_iterator_next_1 _)))
    show wpAny _ _ (field (.ref i) 0 >>= _) _ _ s
    refine wpAny_bind (wpAny_field g1 g3 (x := .ref l) rfl ?_)
    show wpAny _ _ (if (Value.ref l == Value.none) = true then _ else _) _ _ s
    rw [if_neg (show ¬ ((Value.ref l == Value.none) = true) from Bool.false_ne_true)]
    show wpAny _ _ (field (.ref i) 1 >>= _) _ _ s
    refine wpAny_bind (wpAny_field g1 g3 (x := .int k 0) rfl ?_)
    show wpAny _ _ (seqItems? (.ref l) >>= _) _ _ s
    refine wpAny_bind (wpAny_seqItems f1 f3 ?_)
    simp only [Int.toNat_natCast, hx]
    refine wpAny_bind (wpAny_setField g1 g3 (by simp) (wpAny_pure ⟨v, rfl, wpAny_pure (hQ _ (show Heap.IsTupleIter _ i l (k + 1) from ?_) (Heap.SameBut.update ..))⟩))
    refine ⟨_, Heap.get?_update_self _ g1 (Obj.isFreed_of_fields (Obj.data_mapFields g3 _)), (Obj.cls_mapFields ..).trans g2, ?_⟩
    rw [Obj.data_mapFields g3]
    simp [rawInt]
theorem nxK_end {c : Bool} {i l : Addr} {k : Nat} {xs : Array Value} {Q : Value -> Shared -> Prop} (hh : A.handled = none) (hi : ItK c s.heap i l k) (hl : SeqK c s.heap l xs) (hx : xs[k]? = none)
    (hE : ∀ h' e, Heap.ExtBut i s.heap h' -> (∃ o, h'.get? e = some o /\ o.cls = .type "StopIteration") -> E (.ref e) { s with heap := h' }) : wpAny (model prog w) A (Builtin.SmallTypes.nextOf (.ref i)) Q E s := by
  cases c with
  | false => exact wpAny_nextOf_list_end hh hi hl hx hE
  | true =>
    have hi' : s.heap.IsTupleIter i l k := hi
    obtain ⟨o1, g1, g2, g3⟩ := id hi'
    obtain ⟨o2, f1, _, n2, f3⟩ := (show s.heap.IsTuple l xs from hl)
    unfold Builtin.SmallTypes.nextOf
    refine wpAny_bind (wpAny_callSpecial?_slot (name := Str.ofString "__next__") hi'.typeIs F.slot_tuple_iterator_next (wpAny_call_entry F.slot_tuple_iterator_next hi'.typeIs F.entry_tuple_iterator_next ?_ (F.args_tuple_iterator_next_1 _)))
    show wpAny _ _ (field (.ref i) 0 >>= _) _ _ s
    refine wpAny_bind (wpAny_field g1 g3 (x := .ref l) rfl ?_)
    show wpAny _ _ (if (Value.ref l == Value.none) = true then _ else _) _ _ s
    rw [if_neg (show ¬ ((Value.ref l == Value.none) = true) from Bool.false_ne_true)]
    show wpAny _ _ (field (.ref i) 1 >>= _) _ _ s
    refine wpAny_bind (wpAny_field g1 g3 (x := .int k 0) rfl ?_)
    show wpAny _ _ (seqItems? (.ref l) >>= _) _ _ s
    refine wpAny_bind (wpAny_seqItems f1 f3 ?_)
    simp only [Int.toNat_natCast, hx]
    refine wpAny_bind (wpAny_rule (wpAny_bind (wpAny_setField g1 g3 (by simp) ?_)))
    show wpAny _ _ (newExc (.type "StopIteration") [] >>= _) _ _ _
    refine wpAny_bind ?_
    simp only [newExc, newTuple]
    refine wpAny_bind (wpAny_newObj_type ?_ (by size_fits))
    refine wpAny_bind (m := firstArgMember _ _) (wpAny_of_eq (a := Value.none) (by first | rfl | (simp only [firstArgMember]; rfl)) ?_)
    refine wpAny_newObj_type ?_ (by size_fits)
    simp only [raiseNew]
    refine wpAny_bind (wpAny_handled ?_)
    first | rw [show A.in1.handled = none from hh] | rw [hh]
    refine wpAny_bind (wpAny_pure (wpAny_throw ?_))
    exact hE _ _ (((Heap.SameBut.update ..).extBut.push _).push _) ⟨_, Heap.get?_push_size _ rfl, rfl⟩
structure ZK (c1 c2 : Bool) (h : Heap) (z a b i j l m : Addr) (k : Nat) : Prop where
  zz : IsZip h z a b .none
  ins : IsPair h a (.ref i) (.ref j)
  out : ∃ x y, IsPair h b x y
  i1 : ItK c1 h i l k
  i2 : ItK c2 h j m k
theorem zK_item {c1 c2 : Bool} {z a b i j l m : Addr} {k : Nat} {xs ys : Array Value} {x y : Value} {Q : Option Value -> Shared -> Prop} (D : ZipApart z a b i j l m) (Z : ZK c1 c2 s.heap z a b i j l m k)
    (hl1 : SeqK c1 s.heap l xs) (hl2 : SeqK c2 s.heap m ys) (hx : xs[k]? = some x) (hy : ys[k]? = some y)
    (hQ : ∀ h', IsZip h' z a b (rawInt s.heap.objs.size) -> IsPair h' a (.ref i) (.ref j) -> IsPair h' b x y -> ItK c1 h' i l (k + 1) -> ItK c2 h' j m (k + 1) -> IsPair h' s.heap.objs.size x y ->
      (∀ d o, d ≠ z -> d ≠ b -> d ≠ i -> d ≠ j -> s.heap.get? d = some o -> h'.get? d = some o) -> Q (some (.ref s.heap.objs.size)) { s with heap := h' }) :
    wpAny (model prog w) A (pyNext (.ref z)) Q E s := by
  obtain ⟨hz, hTI, ⟨p1, p2, hTO⟩, h1, h2⟩ := Z
  have hT : s.TypeIs (.ref z) "zip" := ⟨_, hz, rfl⟩
  unfold pyNext
  refine wpAny_bind (wpAny_attempt (wpAny_callSpecial?_slot (name := Str.ofString "__next__") hT F.slot_zip_next (wpAny_call_entry F.slot_zip_next hT F.entry_zip_next ?_ (F.args_zip_next_1 _))))
  show wpAny _ _ (field (.ref z) 2 >>= _) _ _ _
  refine wpAny_bind (wpAny_field hz rfl (x := .bool false) rfl ?_)
  show wpAny _ _ (field (.ref z) 3 >>= _) _ _ _
  refine wpAny_bind (wpAny_field hz rfl (x := .ref a) rfl ?_)
  refine wpAny_bind (wpAny_seqItems hTI rfl ?_)
  show wpAny _ _ (Builtin.SmallTypes.ownedTupleIsFree (.ref z) >>= _) _ _ _
  refine wpAny_bind ?_
  unfold Builtin.SmallTypes.ownedTupleIsFree
  refine wpAny_bind (wpAny_field hz rfl (x := .none) rfl (wpAny_pure ?_))
  simp only [if_true]
  refine wpAny_bind (wpAny_rule ?_)
  refine wpAny_bind (wpAny_field hz rfl (x := .ref b) rfl ?_)
  refine wpAny_bind (wpAny_setField_rec hz (by simp) fun q1 z1 t1 => ?_)
  replace z1 : IsZip q1 z a b .ellipsis := z1
  refine wpAny_bind ?_
  simp only [List.zipIdx_cons, List.zipIdx_nil, List.forIn_cons, List.forIn_nil]
  refine wpAny_bind (wpAny_bind (wpAny_onRaise ?_))
  show wpAny _ _ (Builtin.SmallTypes.nextOf (.ref i) >>= _) _ _ _
  refine wpAny_bind (nxK_item (s := { s with heap := q1 }) (h1.at fun o e => t1.extBut _ _ D.i1z e) (hl1.at fun o e => t1.extBut _ _ D.l1z e) hx fun q2 i2 t2 => wpAny_pure ?_)
  have b2 : IsPair q2 b p1 p2 := t2.extBut _ _ D.TOi1 (t1.extBut _ _ D.TOz hTO)
  refine wpAny_bind (wpAny_seqItems b2 rfl ?_)
  refine wpAny_bind (wpAny_updateSeq_pair b2 fun q3 b3 t3 => ?_)
  replace b3 : IsPair q3 b x p2 := b3
  refine wpAny_bind (wpAny_letGo (wpAny_pure ?_))
  refine wpAny_bind (wpAny_bind (wpAny_onRaise ?_))
  show wpAny _ _ (Builtin.SmallTypes.nextOf (.ref j) >>= _) _ _ _
  refine wpAny_bind (nxK_item (s := { s with heap := q3 }) (h2.at fun o e => t3.extBut _ _ D.TOi2.symm (t2.extBut _ _ D.i12.symm (t1.extBut _ _ D.i2z e)))
    (hl2.at fun o e => t3.extBut _ _ D.l2TO (t2.extBut _ _ D.l2i1 (t1.extBut _ _ D.l2z e))) hy fun q4 j4 t4 => wpAny_pure ?_)
  have b4 : IsPair q4 b x p2 := t4.extBut _ _ D.TOi2 b3
  refine wpAny_bind (wpAny_seqItems b4 rfl ?_)
  refine wpAny_bind (wpAny_updateSeq_pair b4 fun q5 b5 t5 => ?_)
  replace b5 : IsPair q5 b x y := b5
  refine wpAny_bind (wpAny_letGo (wpAny_pure (wpAny_pure ?_)))
  refine wpAny_bind (wpAny_seqItems b5 rfl ?_)
  refine wpAny_bind (wpAny_newTuple ?_)
  have hsz : q5.objs.size = s.heap.objs.size := by rw [t5.1, t4.1, t3.1, t2.1, t1.1]
  have z5 : IsZip q5 z a b .ellipsis := t5.extBut _ _ D.TOz.symm (t4.extBut _ _ D.i2z.symm (t3.extBut _ _ D.TOz.symm (t2.extBut _ _ D.i1z.symm z1)))
  have k5 : ∀ d o, d ≠ z -> d ≠ b -> d ≠ i -> d ≠ j -> s.heap.get? d = some o -> q5.get? d = some o := fun d o e1 e2 e3 e4 e =>
    t5.extBut _ _ e2 (t4.extBut _ _ e4 (t3.extBut _ _ e2 (t2.extBut _ _ e3 (t1.extBut _ _ e1 e))))
  have i5 : ItK c1 q5 i l (k + 1) := i2.at fun o e => t5.extBut _ _ D.TOi1.symm (t4.extBut _ _ D.i12 (t3.extBut _ _ D.TOi1.symm e))
  have j5 : ItK c2 q5 j m (k + 1) := j4.at fun o e => t5.extBut _ _ D.TOi2.symm e
  have zlt : z < q5.objs.size := Heap.lt_size z5
  show wpAny _ _ (Builtin.SmallTypes.ownedTupleHandOut (.ref z) (.ref q5.objs.size) >>= _) _ _ _
  refine wpAny_bind ?_
  unfold Builtin.SmallTypes.ownedTupleHandOut
  have z6 : IsZip (q5.push { cls := .type "tuple", data := .seq #[x, y] }) z a b .ellipsis := Heap.get?_push_of_some _ z5
  refine wpAny_bind (wpAny_setField_rec z6 (by simp) fun q7 z7 t7 => ?_)
  replace z7 : IsZip q7 z a b (rawInt q5.objs.size) := z7
  refine wpAny_setField_rec z7 (by simp) fun q8 z8 t8 => ?_
  replace z8 : IsZip q8 z a b (rawInt q5.objs.size) := z8
  have up : ∀ d o, d ≠ z -> q5.get? d = some o -> q8.get? d = some o := fun d o e1 e => t8.extBut _ _ e1 (t7.extBut _ _ e1 (Heap.get?_push_of_some _ e))
  have T8 : IsPair q8 q5.objs.size x y := t8.extBut _ _ (Nat.ne_of_gt zlt) (t7.extBut _ _ (Nat.ne_of_gt zlt) (Heap.get?_push_size _ rfl))
  rw [hsz] at z8 T8
  refine wpAny_pure ⟨_, rfl, wpAny_pure ?_⟩
  show Q (some (.ref q5.objs.size)) _
  rw [hsz]
  exact hQ q8 z8 (up _ _ D.TIz (k5 _ _ D.TIz D.TITO D.TIi1 D.TIi2 hTI)) (up _ _ D.TOz b5) (i5.at fun o e => up _ o D.i1z e) (j5.at fun o e => up _ o D.i2z e) T8 fun d o e1 e2 e3 e4 e => up d o e1 (k5 d o e1 e2 e3 e4 e)
theorem zK_end {c1 c2 : Bool} {z a b i j l m : Addr} {k : Nat} {xs ys : Array Value} {Q : Option Value -> Shared -> Prop} (hh : A.handled = none) (D : ZipApart z a b i j l m) (Z : ZK c1 c2 s.heap z a b i j l m k)
    (hl1 : SeqK c1 s.heap l xs) (hl2 : SeqK c2 s.heap m ys) (hend : xs[k]? = none ∨ ys[k]? = none)
    (hQ : ∀ h', (∀ d o, d ≠ z -> d ≠ b -> d ≠ i -> d ≠ j -> s.heap.get? d = some o -> h'.get? d = some o) -> Q none { s with heap := h' }) : wpAny (model prog w) A (pyNext (.ref z)) Q E s := by
  obtain ⟨hz, hTI, ⟨p1, p2, hTO⟩, h1, h2⟩ := Z
  have hT : s.TypeIs (.ref z) "zip" := ⟨_, hz, rfl⟩
  unfold pyNext
  have last : ∀ h' e, (∀ d o, d ≠ z -> d ≠ b -> d ≠ i -> d ≠ j -> s.heap.get? d = some o -> h'.get? d = some o) -> (∃ o, h'.get? e = some o /\ o.cls = .type "StopIteration") ->
      wpAny (model prog w) A (do if ← isInstance (.ref e) (.type "StopIteration") then pure none else throw (.ref e) : Sem (Option Value)) Q E { s with heap := h' } := fun h' e hk ⟨o, ho, hc⟩ =>
    wpAny_bind (wpAny_isInstance (T := "StopIteration") (b := true) ⟨o, ho, hc⟩ isSubtype_stop (wpAny_pure (hQ h' hk)))
  refine wpAny_bind (wpAny_attempt (wpAny_callSpecial?_slot (name := Str.ofString "__next__") hT F.slot_zip_next (wpAny_call_entry F.slot_zip_next hT F.entry_zip_next ?_ (F.args_zip_next_1 _))))
  show wpAny _ _ (field (.ref z) 2 >>= _) _ _ _
  refine wpAny_bind (wpAny_field hz rfl (x := .bool false) rfl ?_)
  show wpAny _ _ (field (.ref z) 3 >>= _) _ _ _
  refine wpAny_bind (wpAny_field hz rfl (x := .ref a) rfl ?_)
  refine wpAny_bind (wpAny_seqItems hTI rfl ?_)
  show wpAny _ _ (Builtin.SmallTypes.ownedTupleIsFree (.ref z) >>= _) _ _ _
  refine wpAny_bind ?_
  unfold Builtin.SmallTypes.ownedTupleIsFree
  refine wpAny_bind (wpAny_field hz rfl (x := .none) rfl (wpAny_pure ?_))
  simp only [if_true]
  refine wpAny_bind (wpAny_rule ?_)
  refine wpAny_bind (wpAny_field hz rfl (x := .ref b) rfl ?_)
  refine wpAny_bind (wpAny_setField_rec hz (by simp) fun q1 z1 t1 => ?_)
  replace z1 : IsZip q1 z a b .ellipsis := z1
  refine wpAny_bind ?_
  simp only [List.zipIdx_cons, List.zipIdx_nil, List.forIn_cons, List.forIn_nil]
  refine wpAny_bind (wpAny_bind (wpAny_onRaise ?_))
  show wpAny _ _ (Builtin.SmallTypes.nextOf (.ref i) >>= _) _ _ _
  cases hx : xs[k]? with
  | none =>
    refine wpAny_bind (nxK_end (s := { s with heap := q1 }) hh (h1.at fun o e => t1.extBut _ _ D.i1z e) (hl1.at fun o e => t1.extBut _ _ D.l1z e) hx fun q2 e t2 he => ?_)
    obtain ⟨oe, hoe, hce⟩ := he
    have z2 : IsZip q2 z a b .ellipsis := t2 _ _ D.i1z.symm z1
    have hez : e ≠ z := fun x => by subst x; rw [z2] at hoe; cases hoe; simp at hce
    refine wpAny_setField_rec z2 (by simp) fun q3 _ t3 => ?_
    exact last q3 e (fun d o e1 _ e3 _ x => t3.extBut _ _ e1 (t2 _ _ e3 (t1.extBut _ _ e1 x))) ⟨oe, t3.extBut _ _ hez hoe, hce⟩
  | some x =>
    have hy : ys[k]? = none := by
      rcases hend with h | h
      · rw [hx] at h; cases h
      · exact h
    refine wpAny_bind (nxK_item (s := { s with heap := q1 }) (h1.at fun o e => t1.extBut _ _ D.i1z e) (hl1.at fun o e => t1.extBut _ _ D.l1z e) hx fun q2 i2 t2 => wpAny_pure ?_)
    have b2 : IsPair q2 b p1 p2 := t2.extBut _ _ D.TOi1 (t1.extBut _ _ D.TOz hTO)
    refine wpAny_bind (wpAny_seqItems b2 rfl ?_)
    refine wpAny_bind (wpAny_updateSeq_pair b2 fun q3 b3 t3 => ?_)
    refine wpAny_bind (wpAny_letGo (wpAny_pure ?_))
    refine wpAny_bind (wpAny_bind (wpAny_onRaise ?_))
    show wpAny _ _ (Builtin.SmallTypes.nextOf (.ref j) >>= _) _ _ _
    refine wpAny_bind (nxK_end (s := { s with heap := q3 }) hh (h2.at fun o e => t3.extBut _ _ D.TOi2.symm (t2.extBut _ _ D.i12.symm (t1.extBut _ _ D.i2z e)))
      (hl2.at fun o e => t3.extBut _ _ D.l2TO (t2.extBut _ _ D.l2i1 (t1.extBut _ _ D.l2z e))) hy fun q4 e t4 he => ?_)
    obtain ⟨oe, hoe, hce⟩ := he
    have z4 : IsZip q4 z a b .ellipsis := t4 _ _ D.i2z.symm (t3.extBut _ _ D.TOz.symm (t2.extBut _ _ D.i1z.symm z1))
    have hez : e ≠ z := fun x => by subst x; rw [z4] at hoe; cases hoe; simp at hce
    refine wpAny_setField_rec z4 (by simp) fun q5 _ t5 => ?_
    exact last q5 e (fun d o e1 e2 e3 e4 x => t5.extBut _ _ e1 (t4 _ _ e4 (t3.extBut _ _ e2 (t2.extBut _ _ e3 (t1.extBut _ _ e1 x))))) ⟨oe, t5.extBut _ _ hez hoe, hce⟩
theorem new_zipT (l m : Addr) (xs ys : Array Value) :
    Meets (Builtin.«zip.__new__» ⟨[.type "zip", .ref l, .ref m], []⟩) (fun _ R s => s.heap.IsTuple l xs /\ s.heap.IsTuple m ys /\
      R (.ok (.ret (.ref (s.heap.objs.size + 4)))) { s with heap := ((((s.heap.push { cls := .type "tuple_iterator", data := .fields #[.ref l, .int 0 0] }).push { cls := .type "tuple_iterator", data := .fields #[.ref m, .int 0 0] }).push
        { cls := .type "tuple", data := .seq #[.ref s.heap.objs.size, .ref (s.heap.objs.size + 1)] }).push { cls := .type "tuple", data := .seq #[.none, .none] }).push { cls := .type "zip", data := .fields #[.none, .bool false, .bool false, .ref (s.heap.objs.size + 2), .ref (s.heap.objs.size + 3)] } }) :=
  .of_wp fun prog w A R s h => by
    obtain ⟨hp, g, d, tk, os⟩ := s; obtain ⟨hl1, hl2, h⟩ := h
    have hsub := sub_zip
    have hL1 : Heap.IsTuple (Shared.heap ⟨hp, g, d, tk, os⟩) l xs := hl1
    have hL2 : Heap.IsTuple (Shared.heap ⟨hp.push { cls := .type "tuple_iterator", data := .fields #[.ref l, .int 0 0] }, g, d, tk, os⟩) m ys := Heap.IsTuple.push hl2 _
    wp_walk using wpAny_pyIter_tuple hL1, wpAny_pyIter_tuple hL2
    simp only [Heap.size_push] at h ⊢
    exact ⟨_, rfl, h⟩
theorem zip_made {c : Bool} {l m : Addr} {xs ys : Array Value} {Q : Value -> Shared -> Prop} (hl1 : SeqK c s.heap l xs) (hl2 : SeqK c s.heap m ys)
    (k : ∀ h', ZK c c h' (s.heap.objs.size + 4) (s.heap.objs.size + 2) (s.heap.objs.size + 3) s.heap.objs.size (s.heap.objs.size + 1) l m 0 -> (∀ d o, s.heap.get? d = some o -> h'.get? d = some o) -> Q (.ref (s.heap.objs.size + 4)) { s with heap := h' }) :
    wpAny (model prog w) A (call (.type "zip") [.ref l, .ref m]) Q E s := by
  cases c with
  | false => exact call_zip_2 hl1 hl2 fun h' hz hTI hTO hi1 hi2 _ hk => k h' ⟨hz, hTI, ⟨_, _, hTO⟩, hi1, hi2⟩ hk
  | true =>
    refine callType_new F.called_zip (by decide) (F.typeCall_zip_2 _ _) (F.newCall_zip_2 _ _) (fun obj => F.args_object_init_3 obj _ _) F.entry_zip_new (new_zipT l m xs ys) ⟨hl1, hl2, ?_⟩
    have p : ∀ (h : Heap) (o1 o2 o3 o4 o5 : Obj) (d : Addr) (o : Obj), h.get? d = some o -> (((((h.push o1).push o2).push o3).push o4).push o5).get? d = some o := fun h o1 o2 o3 o4 o5 d o e =>
      Heap.get?_push_of_some _ (Heap.get?_push_of_some _ (Heap.get?_push_of_some _ (Heap.get?_push_of_some _ (Heap.get?_push_of_some _ e))))
    have q5 : ∀ (h : Heap) (o1 o2 o3 o4 o5 : Obj), o5.isFreed = false -> (((((h.push o1).push o2).push o3).push o4).push o5).get? (h.objs.size + 4) = some o5 := fun h o1 o2 o3 o4 o5 f => by
      have e : h.objs.size + 4 = ((((h.push o1).push o2).push o3).push o4).objs.size := by simp only [Heap.size_push]
      rw [e]; exact Heap.get?_push_size _ f
    have q4 : ∀ (h : Heap) (o1 o2 o3 o4 o5 : Obj), o4.isFreed = false -> (((((h.push o1).push o2).push o3).push o4).push o5).get? (h.objs.size + 3) = some o4 := fun h o1 o2 o3 o4 o5 f => by
      have e : h.objs.size + 3 = (((h.push o1).push o2).push o3).objs.size := by simp only [Heap.size_push]
      rw [e]; exact Heap.get?_push_of_some _ (Heap.get?_push_size _ f)
    have q3 : ∀ (h : Heap) (o1 o2 o3 o4 o5 : Obj), o3.isFreed = false -> (((((h.push o1).push o2).push o3).push o4).push o5).get? (h.objs.size + 2) = some o3 := fun h o1 o2 o3 o4 o5 f => by
      have e : h.objs.size + 2 = ((h.push o1).push o2).objs.size := by simp only [Heap.size_push]
      rw [e]; exact Heap.get?_push_of_some _ (Heap.get?_push_of_some _ (Heap.get?_push_size _ f))
    have q2 : ∀ (h : Heap) (o1 o2 o3 o4 o5 : Obj), o2.isFreed = false -> (((((h.push o1).push o2).push o3).push o4).push o5).get? (h.objs.size + 1) = some o2 := fun h o1 o2 o3 o4 o5 f => by
      have e : h.objs.size + 1 = (h.push o1).objs.size := by simp only [Heap.size_push]
      rw [e]; exact Heap.get?_push_of_some _ (Heap.get?_push_of_some _ (Heap.get?_push_of_some _ (Heap.get?_push_size _ f)))
    have q1 : ∀ (h : Heap) (o1 o2 o3 o4 o5 : Obj), o1.isFreed = false -> (((((h.push o1).push o2).push o3).push o4).push o5).get? h.objs.size = some o1 := fun h o1 o2 o3 o4 o5 f =>
      Heap.get?_push_of_some _ (Heap.get?_push_of_some _ (Heap.get?_push_of_some _ (Heap.get?_push_of_some _ (Heap.get?_push_size _ f))))
    exact ⟨⟨_, q5 _ _ _ _ _ _ rfl, rfl⟩, k _ ⟨q5 _ _ _ _ _ _ rfl, q3 _ _ _ _ _ _ rfl, ⟨_, _, q4 _ _ _ _ _ _ rfl⟩, ⟨_, q1 _ _ _ _ _ _ rfl, rfl, rfl⟩, ⟨_, q2 _ _ _ _ _ _ rfl, rfl, rfl⟩⟩ fun d o e => p _ _ _ _ _ _ d o e⟩
end
def SqK (c : Bool) (K : PySem.W.Frag) (H : Hp) (a : Addr) (xs : List V) : Prop := if c = true then SqT K H a xs else SqL K H a xs
theorem Inv.sqK {X : Cx} {pins : List (Addr × Obj)} {σ : St} {H : Hp} {s : Shared} {c : Bool} {a : Addr} {xs : List V} (I : Inv X pins σ H s) (h : SqK c X.K H a xs) : ∃ its : List Value, Vals xs its /\ SeqK c s.heap a its.toArray := by
  cases c with
  | true => obtain ⟨its, r, p, _⟩ := I.tuple (show SqT X.K H a xs from h); exact ⟨its, r, p⟩
  | false => obtain ⟨its, r, p, _⟩ := I.list (show SqL X.K H a xs from h); exact ⟨its, r, p.isList⟩
theorem Inv.sqK_inj {X : Cx} {pins : List (Addr × Obj)} {σ : St} {H : Hp} {s : Shared} {c : Bool} {a : Addr} {xs ys : List V} (I : Inv X pins σ H s) (h : SqK c X.K H a xs) (k : SqK c X.K H a ys) : xs = ys := by
  cases c with
  | true => exact I.tuple_inj (show SqT X.K H a xs from h) k
  | false => exact I.list_inj (show SqL X.K H a xs from h) k
def Itz (c : Bool) (K : PySem.W.Frag) (a b : Addr) : It :=
  ⟨fun i H => ∃ xs ys x y, SqK c K H a xs /\ SqK c K H b ys /\ xs[i]? = some x /\ ys[i]? = some y,
   fun i H v H' => ∃ T x y, v = .ref T /\ H T = none /\ H' = upd H T (.tup [x, y]) /\ ∀ xs ys, SqK c K H a xs -> SqK c K H b ys -> xs[i]? = some x /\ ys[i]? = some y,
   fun i H => ∃ xs ys, SqK c K H a xs /\ SqK c K H b ys /\ (xs.length <= i ∨ ys.length <= i)⟩
theorem turn_zip {P : Program} {w : World} {K : PySem.W.Frag} {es : List Expr} {kk : Nat} {tpos : Pos} (c : Bool) (l m z a b i j : Addr) (D : ZipApart z a b i j l m) :
    Turn P w K (.Tuple es kk tpos) (Itz c K l m) [z, a, b, i, j] z (fun n h => ZK c c h z a b i j l m n) where
  mem := by simp
  obj := fun n h st d hd => by
    obtain ⟨hz, hTI, ⟨p1, p2, hTO⟩, h1, h2⟩ := st
    simp only [List.mem_cons, List.not_mem_nil, or_false] at hd
    rcases hd with rfl | rfl | rfl | rfl | rfl
    · exact ⟨_, hz, fun v e => nomatch e⟩
    · exact ⟨_, hTI, fun v e => nomatch e⟩
    · exact ⟨_, hTO, fun v e => nomatch e⟩
    · exact h1.obj
    · exact h2.obj
  keep := fun n h h' st k => by
    obtain ⟨hz, hTI, ⟨p1, p2, hTO⟩, h1, h2⟩ := st
    exact ⟨k z (by simp) _ hz, k a (by simp) _ hTI, ⟨p1, p2, k b (by simp) _ hTO⟩, h1.at fun o e => k i (by simp) o e, h2.at fun o e => k j (by simp) o e⟩
  item := by
    intro X hP hw hK hc n pins s σ H E I hf st hg
    subst hP hw hK
    obtain ⟨xs, ys, x, y, hq1, hq2, hx, hy⟩ := hg
    obtain ⟨its1, r1, p1⟩ := I.sqK hq1
    obtain ⟨its2, r2, p2⟩ := I.sqK hq2
    obtain ⟨u1, e1, ru1⟩ := r1.get hx
    obtain ⟨u2, e2, ru2⟩ := r2.get hy
    refine zK_item D st p1 p2 (by simpa using e1) (by simpa using e2) fun h' z1 a1 b1 i1 j1 T1 kp => ?_
    refine ⟨_, rfl, wpAny_letOwnedTupleGo_zip (s := { s with heap := h' }) z1 fun h2 z2 t2 => ?_⟩
    have hTn : H s.heap.objs.size = none := I.hok.fresh (Nat.le_refl _)
    have zT : s.heap.objs.size ≠ z := Nat.ne_of_gt (Heap.lt_size (show s.heap.get? z = some _ from st.zz))
    have kp2 : ∀ d o, d ∉ [z, a, b, i, j] -> s.heap.get? d = some o -> h2.get? d = some o := fun d o hd e => by
      simp only [List.mem_cons, List.not_mem_nil, or_false, not_or] at hd
      exact t2.extBut _ _ hd.1 (kp d o hd.1 hd.2.2.1 hd.2.2.2.1 hd.2.2.2.2 e)
    have T2 : IsPair h2 s.heap.objs.size u1 u2 := t2.extBut _ _ zT T1
    have nfp : ∀ d o, H d = some o -> d ∉ [z, a, b, i, j] := fun d o e hd => by rw [(hf d hd).1] at e; cases e
    have nT : ∀ d o, H d = some o -> d ≠ s.heap.objs.size := fun d o e q => by rw [q, hTn] at e; cases e
    have newOk : HOk X.prog X.w (upd H s.heap.objs.size (.tup [x, y])) h2 := by
      intro d o e
      by_cases hd : d = s.heap.objs.size
      · subst hd
        rw [upd_same] at e
        cases e
        exact ⟨by show 2 <= sizeLine; decide, [u1, u2], .cons ru1 (.cons ru2 .nil), _, T2, rfl, 0, rfl⟩
      · rw [upd_ne hd] at e
        refine (I.hok d o e).stay (fun q v hq r => kp2 q v ?_ r) (fun q r => by rw [upd_ne (nT q _ r)]; exact r) (fun q xs' r => by rw [upd_ne (nT q _ r)]; exact r)
        rcases hq with rfl | hq
        · exact nfp _ _ e
        · exact nfp _ _ hq
    have I2 : Inv X pins σ (upd H s.heap.objs.size (.tup [x, y])) { s with heap := h2 } := by
      refine I.step (g' := s.gens) (d' := s.drawn) (t' := s.toks) (ch := [z, a, b, i, j]) (fun d hd => ⟨(hf d hd).2.2.2.1, (hf d hd).2.1, (hf d hd).2.2.2.2.1, (hf d hd).2.2.2.2.2⟩) (fun d o _ _ hd e _ => kp2 d o hd e) (fun d o _ _ hd e _ => ⟨o.slots, kp2 d o hd e⟩)
        (fun d o hd e nn => by rw [upd_ne (Nat.ne_of_lt (Heap.lt_size e))]; exact nn) (fun d o hd e => ⟨o, kp2 d o hd e⟩) (fun d xs' e => by rw [upd_ne (nT d _ e)]; exact e) (fun d o u e => by rw [upd_ne (nT d _ e)]; exact e)
        (fun d ps e => ⟨#[], by rw [upd_ne (nT d _ e), e]; simp⟩) (fun mm hm => ?_) newOk I.bare
      obtain ⟨o, es', ep, ho, r⟩ := hm
      exact ⟨o, es', ep, kp2 _ o (fun hd => (hf _ hd).2.1 rfl) ho, r⟩
    refine ⟨.ref s.heap.objs.size, _, I2, rfl, ⟨_, x, y, rfl, hTn, rfl, fun xs' ys' k1 k2 => ?_⟩, ?_, fun d hd => ?_⟩
    · rw [I.sqK_inj k1 hq1, I.sqK_inj k2 hq2]
      exact ⟨hx, hy⟩
    · exact ⟨z2, t2.extBut _ _ D.TIz a1, ⟨_, _, t2.extBut _ _ D.TOz b1⟩, i1.at fun o e => t2.extBut _ _ D.i1z e, j1.at fun o e => t2.extBut _ _ D.i2z e⟩
    · have hdn : d ≠ s.heap.objs.size := by
        rintro rfl
        have lt : ∀ {q : Addr} {o : Obj}, s.heap.get? q = some o -> s.heap.objs.size ≠ q := fun e => Nat.ne_of_gt (Heap.lt_size e)
        simp only [List.mem_cons, List.not_mem_nil, or_false] at hd
        obtain ⟨o1, g1, _⟩ := st.i1.obj
        obtain ⟨o2, g2, _⟩ := st.i2.obj
        obtain ⟨y1, y2, g3⟩ := st.out
        rcases hd with q | q | q | q | q
        · exact lt st.zz q
        · exact lt st.ins q
        · exact lt g3 q
        · exact lt g1 q
        · exact lt g2 q
      rw [upd_ne hdn]
      exact (hf d hd).1
  done := by
    intro X hP hw hK hc n pins s σ H E I hf st hg
    subst hP hw hK
    obtain ⟨xs, ys, hq1, hq2, hx⟩ := hg
    obtain ⟨its1, r1, p1⟩ := I.sqK hq1
    obtain ⟨its2, r2, p2⟩ := I.sqK hq2
    have n1 := r1.length
    have n2 := r2.length
    refine zK_end (I.ok.hd hc) D st p1 p2 (hx.elim (fun q => .inl (by simp; omega)) fun q => .inr (by simp; omega)) fun h' kp => ⟨rfl, ?_⟩
    have kp2 : ∀ d o, d ∉ [z, a, b, i, j] -> s.heap.get? d = some o -> h'.get? d = some o := fun d o hd e => by
      simp only [List.mem_cons, List.not_mem_nil, or_false, not_or] at hd
      exact kp d o hd.1 hd.2.2.1 hd.2.2.2.1 hd.2.2.2.2 e
    have nfp : ∀ d o, H d = some o -> d ∉ [z, a, b, i, j] := fun d o e hd => by rw [(hf d hd).1] at e; cases e
    have there : ∀ d o, s.heap.get? d = some o -> d ∉ [z, a, b, i, j] -> ∃ o', h'.get? d = some o' := fun d o e hd => ⟨o, kp2 d o hd e⟩
    refine I.step (g' := s.gens) (d' := s.drawn) (t' := s.toks) (ch := [z, a, b, i, j]) (fun d hd => ⟨(hf d hd).2.2.2.1, (hf d hd).2.1, (hf d hd).2.2.2.2.1, (hf d hd).2.2.2.2.2⟩) (fun d o _ _ hd e _ => kp2 d o hd e) (fun d o _ _ hd e _ => ⟨o.slots, kp2 d o hd e⟩)
      (fun d o hd e nn => nn) (fun d o hd e => ⟨o, kp2 d o hd e⟩) (fun d xs' e => e) (fun d o u e => e) (fun d ps e => ⟨#[], by rw [e]; simp⟩) (fun mm hm => ?_) (fun d o e => ?_) I.bare
    · obtain ⟨o, es', ep, ho, r⟩ := hm
      exact ⟨o, es', ep, kp2 _ o (fun hd => (hf _ hd).2.1 rfl) ho, r⟩
    · refine (I.hok d o e).stay (fun q v hq r => kp2 q v ?_ r) (fun _ r => r) (fun _ _ r => r)
      rcases hq with rfl | hq
      · exact nfp _ _ e
      · exact nfp _ _ hq
  self := fun _ _ _ _ _ st h => wpAny_pyIter_zip st.zz h
def iZip (K : PySem.W.Frag) (t : TA) : TI := fun σ H R => t σ H fun vs H2 => ∃ (c : Bool) (a b : Addr), vs = [.ref a, .ref b] /\ (∃ xs, SqK c K H2 a xs) /\ (∃ ys, SqK c K H2 b ys) /\ R (Itz c K a b) H2
theorem pi_zip {X : Cx} {es : List Expr} {kk : Nat} {tpos : Pos} {e1 e2 : Expr} {ta tb : TE} {p pos : Pos} (hg : Gl X "zip") (hm : X.mg "zip" = none) (h1 : PE X e1 ta) (h2 : PE X e2 tb)
    (hs : starEach [e1, e2] X.env = (false, eval e1 X.env) :: starEach [e2] X.env := by rfl) (hs2 : starEach [e2] X.env = [(false, eval e2 X.env)] := by rfl) (hpl : (backTo pos (starEach [e2] X.env)).any (·.1) = false := by rfl) :
    PI X (.Tuple es kk tpos) (.Call (.Name "zip" p) [e1, e2] [] pos) (iZip X.K (tCons ta (tCons tb tNil))) := by
  intro pins s σ H R I h
  refine wpAny_Call_Name_kw (ld_blt I hg hm PyProof.Rows.boot_zip ?_)
  refine PyProof.Rows.callWith_type1 (thn ((pa_cons h1 (pa_cons h2 pa_nil hs2) hs) pos pins s σ H _ I h) fun us s1 ⟨vs, H1, I1, r1, q1⟩ => ?_) hs hpl
  obtain ⟨c, a, b, rfl, ⟨xs, hx⟩, ⟨ys, hy⟩, q⟩ := q1
  obtain ⟨u1, u2, rfl, ru1, ru2⟩ := vals2 r1
  cases ru1
  cases ru2
  obtain ⟨its1, _, p1⟩ := I1.sqK hx
  obtain ⟨its2, _, p2⟩ := I1.sqK hy
  have a1 : a < s1.heap.objs.size := by
    cases c with
    | true => obtain ⟨_, e, _⟩ := (show s1.heap.IsTuple a _ from p1); exact Heap.lt_size e
    | false => obtain ⟨_, e, _⟩ := (show s1.heap.IsList a _ from p1); exact Heap.lt_size e
  have a2 : b < s1.heap.objs.size := by
    cases c with
    | true => obtain ⟨_, e, _⟩ := (show s1.heap.IsTuple b _ from p2); exact Heap.lt_size e
    | false => obtain ⟨_, e, _⟩ := (show s1.heap.IsList b _ from p2); exact Heap.lt_size e
  refine zip_made p1 p2 fun h' Z kp => ?_
  refine wpAny_pyIter_zip (s := { s1 with heap := h' }) Z.zz ?_
  refine ⟨_, _, _, _, H1, rfl, I1.kept (t' := s1.toks) kp, turn_zip c a b _ _ _ _ _ (zipApart_new a1 a2), Z, fun d hd => ?_, q⟩
  have hle : s1.heap.objs.size <= d := by
    simp only [List.mem_cons, List.not_mem_nil, or_false] at hd
    rcases hd with rfl | rfl | rfl | rfl | rfl
    · exact Nat.le_add_right _ _
    · exact Nat.le_add_right _ _
    · exact Nat.le_add_right _ _
    · exact Nat.le_refl _
    · exact Nat.le_add_right _ _
  exact I1.fpOk hle (I1.hok.fresh hle)
end L2
namespace L2
open PySem PySem.Spec PyProof.Rows
end L2
namespace L2
open PySem PySem.Spec PyProof.Rows
end L2
namespace L2
open PySem PySem.Spec PyProof.Rows
end L2
namespace L2
open PySem PySem.Spec PyProof.Rows
open PySem.Builtin.Str in
def rSplit : V -> List V -> Hp -> VK -> Prop := fun x vs H Q => ∃ t sep, x = .str t /\ vs = [.str sep] /\ (decide (t.length < sep.length) || decide (strKind t < strKind sep)) = false /\ (sep.length == 0) = false /\ (occurrences t sep 0 t.length (t.length + 1)).isEmpty = false /\ t.length <= 1000 /\
  (partsBetween t (occurrences t sep 0 t.length (t.length + 1)) sep.length).length <= 1000 /\ ∀ l, H l = none -> Q (.ref l) (upd H l (.lst ((partsBetween t (occurrences t sep 0 t.length (t.length + 1)) sep.length).map V.str)))
theorem vals_strsFrom : ∀ (n : Nat) (l : List Str), Vals (l.map V.str) (strsFrom n l)
  | _, [] => .nil
  | n, x :: r => .cons ⟨n, rfl⟩ (vals_strsFrom (n + 1) r)
theorem mt_split {X : Cx} : MtR X "str.split" rSplit := by
  intro pins s σ H x vs v us Q I rx rv h
  obtain ⟨t, sep, rfl, rfl, h1, hy, hf, hz, hn, q⟩ := h
  obtain ⟨tk, rfl⟩ := rx
  obtain ⟨u, rfl, ru⟩ := rv.one
  obtain ⟨tk2, rfl⟩ := ru
  refine call_meets F.slot_str_split ((tyV_is (T := "str") (x := .str t) I ⟨tk, rfl⟩ rfl).1) F.entry_str_split (F.args_str_split_2 _ _) (meets_str_split_sep t sep tk tk2 h1 hy hf (Nat.le_of_lt (small1000 hz)) (Nat.le_of_lt (small1000 hn))) ?_
  refine ⟨.ref s.heap.objs.size, _, I.lnew (t' := _) (vals_strsFrom s.toks _) ?_, rfl, q _ I.fresh⟩
  rw [List.length_map]
  exact Nat.le_of_lt (small1000 hn)
def rCount : V -> List V -> Hp -> VK -> Prop := fun x vs H Q => ∃ l xs y, x = .ref l /\ vs = [y] /\ H l = some (.lst xs) /\ flatV y = true /\ xs.all flatV = true /\ Q (.int ((xs.countP fun z => eqV z y : Nat) : Int)) H
theorem count_eqU {x : V} : ∀ {xs : List V} {us : List Value}, Vals xs us -> xs.all flatV = true -> us.countP (eqU x) = xs.countP fun z => eqV z x
  | _, _, .nil, _ => rfl
  | y :: xs, u :: us, .cons r t, f => by
    rw [List.all_cons, Bool.and_eq_true] at f
    rw [List.countP_cons, List.countP_cons, count_eqU t f.2, eqU_of r f.1]
theorem mt_count {X : Cx} : MtR X "list.count" rCount := by
  intro pins s σ H x vs v us Q I rx rv h
  obtain ⟨l, xs, y, rfl, rfl, hH, fy, fx, q⟩ := h
  cases rx
  obtain ⟨u, rfl, ru⟩ := rv.one
  obtain ⟨z, its, n, r, hl, e⟩ := I.lstM hH
  refine call_meets F.slot_list_count ⟨_, e, rfl⟩ F.entry_list_count (F.args_list_count_2 _ _) (SeqAt.list_countAt l its.toArray n none #[] u (eqU y)) ⟨e, fun w hw => mem_eqAt ru fy r fx w (by simpa using hw), ?_⟩
  refine ⟨.int _, H, I.tok _, ⟨_, rfl⟩, ?_⟩
  rw [show its.toArray.toList = its from rfl, count_eqU r fx]
  exact q
theorem pe_bmK {X : Cx} {K : PySem.W.Frag} {o e : Expr} {es : List Expr} {to : TE} {t : TA} {name : Str} {apos cpos : Pos} {T id : String} {r : V -> List V -> Hp -> VK -> Prop} (hK : X.K = K) (pa : PlainAttrs T) (slot : Slot T name id) (hty : typeOf (.builtin id) = pure (.type "method_descriptor")) (hm : MtR X id r) (ho : PE X o to) (ha : PA X (e :: es) t)
    (hbase : attributeBase o name X.env (eval o X.env) = eval o X.env := by rfl)
    (hfew : ((backTo cpos (starEach (e :: es) X.env)).all (fun x => !x.1) && (backToKw cpos (keywordEach [] X.env)).all (fun x => x.1.isSome)
      && decide ((e :: es).length + ([] : List Keyword).length + (if ([] : List Keyword).isEmpty then 0 else 1) < 30)) = true := by rfl)
    (hline : (apos.endLine == cpos.line) = true := by rfl) (hs : starEach (e :: es) X.env = (false, eval e X.env) :: starEach es X.env := by rfl) (hplain : (backTo cpos (starEach es X.env)).any (·.1) = false := by rfl) :
    PE X (.Call (.Attribute o name apos) (e :: es) [] cpos) (tBM K T r to t) := by subst hK; exact pe_bm pa slot hty hm ho ha hbase hfew hline hs hplain
theorem ix_ok {n : Nat} {i : Int} (h0 : 0 <= i) (h1 : i < n) : seqIndex? i n = some i.toNat := by
  have : ixN n i = some i.toNat := by
    unfold ixN
    rw [if_pos h0, if_pos h1]
  exact (ixN_seq this).1
end L2
namespace HT
open PySem PyProof.Rows
section
variable {prog : Program} {w : World} {A : Around} {E : Value -> Shared -> Prop} {s : Shared}
theorem getItem_tuple_whole {t sl : Addr} {items : Array Value} {vl vu : Value} {lo hi : Option Int} {Q : Value -> Shared -> Prop} (ht : IsTup s.heap t items) (hs : s.heap.IsSliceOf sl vl vu .none) (pl : IsPart vl lo) (pu : IsPart vu hi)
    (h1 : sIx items.size 0 lo = 0) (h2 : sIx items.size items.size hi = items.size) (h : Q (.ref t) s) : wpAny (model prog w) A (getItem (.ref t) (.ref sl)) Q E s := by
  obtain ⟨os, hos, hcs, hds⟩ := id hs
  have hTs : s.TypeIs (.ref sl) "slice" := ⟨os, hos, hcs⟩
  unfold getItem
  try with_reducible refine wpAny_holding ?_
  first | refine wpAny_bind (wpAny_pure ?_) | skip
  refine wpAny_bind (wpAny_sequenceKey ht.typeIs (by decide) ?_)
  refine wpAny_bind (wpAny_callSpecial?_slot (name := Str.ofString "__getitem__") ht.typeIs PyProof.Rows.slot_tuple_getitem
    (wpAny_call_entry PyProof.Rows.slot_tuple_getitem ht.typeIs entry_tuple_getitem ?_ (args_tuple_getitem _ _)))
  show wpAny _ _ (Builtin.Tuple.tupleItemsOf (.ref t) >>= _) _ _ s
  refine wpAny_bind (tupleItemsOf_ ht ?_)
  refine wpAny_bind (wpAny_typeOf hTs ?_)
  rw [if_pos (by decide)]
  refine wpAny_bind (sliceApplied_gen hs pl pu ?_)
  have hyes : ((((sIx items.size 0 lo : Nat) : Int) == 0 && (1 : Int) == 1 && (sIx items.size items.size hi - sIx items.size 0 lo) == items.size) = true) := by
    rw [h1, h2]; simp
  show wpAny _ _ (if (((sIx items.size 0 lo : Nat) : Int) == 0 && (1 : Int) == 1 && (sIx items.size items.size hi - sIx items.size 0 lo) == items.size) = true then _ else _) _ _ s
  rw [if_pos hyes]
  unfold Builtin.Tuple.tupleIsExact
  refine wpAny_bind (wpAny_bind (wpAny_typeOf ht.typeIs (wpAny_pure ?_)))
  rw [if_pos (by decide)]
  first
    | exact wpAny_bind (wpAny_rule (wpAny_pure ⟨_, rfl, wpAny_pure h⟩))
    | exact wpAny_bind (wpAny_rule (wpAny_bind (wpAny_pure (wpAny_pure ⟨_, rfl, wpAny_pure h⟩))))
end
end HT
namespace L2
open PySem PySem.Spec PyProof.Rows
theorem op_isnotB {X : Cx} : OpR X (compareOp .IsNot) (fun x y H Q => ∃ a b, x = .bl a /\ y = .bl b /\ Q (.bl (a != b)) H) := by
  intro pins s σ H x y v u Q I rx ry h
  obtain ⟨a, b, rfl, rfl, q⟩ := h
  cases (show v = Value.bool a from rx)
  cases (show u = Value.bool b from ry)
  exact isnot_bool ⟨.bl _, H, I, rfl, q⟩
def rCatT2 (K : PySem.W.Frag) : R2 := fun x y H Q => ∃ a b xs ys, x = .ref a /\ y = .ref b /\ SqT K H a xs /\ SqT K H b ys /\ ys ≠ [] /\ xs.length + ys.length <= sizeLine /\
  (xs = [] -> Q (.ref b) H) /\ (xs ≠ [] -> ∀ p, H p = none -> Q (.ref p) (upd H p (.tup (xs ++ ys))))
theorem op_catT2 {X : Cx} : OpR X (binaryOp .Add) (rCatT2 X.K) := by
  intro pins s σ H x y v u Q I rx ry h
  obtain ⟨a, b, xs, ys, rfl, rfl, ha, hb, hy, hz, q1, q2⟩ := h
  by_cases hx : xs = []
  · cases rx
    cases ry
    obtain ⟨its, r1, p1, _⟩ := I.tuple ha
    obtain ⟨its2, r2, p2, _⟩ := I.tuple hb
    obtain ⟨⟨cls, dd, data, sl⟩, ho, hc, n, hd⟩ := id p1
    obtain ⟨⟨cls2, dd2, data2, sl2⟩, ho2, hc2, n2, hd2⟩ := id p2
    simp only at hc hd hc2 hd2
    subst hc hd hc2 hd2
    have he : its = [] := r1.nil_iff.mpr hx
    exact concat_meets ⟨_, ho, rfl⟩ ⟨_, ho2, rfl⟩ noFill_tuple_add seq_tuple_add PySem.F.slot_tuple_add PySem.F.entry_tuple_add (PySem.F.args_tuple_add_2 _ _)
      (tuple_addW0 a b its.toArray its2.toArray n n2 dd dd2 sl sl2 (by simp [he])) ⟨ho, ho2, ⟨.ref b, H, I, rfl, q1 hx⟩⟩
  · exact op_catT pins s σ H (.ref a) (.ref b) v u Q I rx ry ⟨a, b, xs, ys, rfl, rfl, ha, hb, hx, hz, fun z => absurd z hy, fun _ => q2 hx⟩
def rSlT2 (K : PySem.W.Frag) : V -> Option Int -> Option Int -> Hp -> VK -> Prop := fun x lo hi H Q => ∃ a xs, x = .ref a /\ SqT K H a xs /\
  ((HT.sIx xs.length 0 lo = 0 /\ HT.sIx xs.length xs.length hi = xs.length) -> Q (.ref a) H) /\ (¬ (HT.sIx xs.length 0 lo = 0 /\ HT.sIx xs.length xs.length hi = xs.length) -> ∀ p, H p = none -> Q (.ref p) (upd H p (.tup (cutV xs lo hi))))
theorem sl_tup2 {X : Cx} : SlR X (rSlT2 X.K) := by
  intro pins s σ H x v vl vu lo hi sl Q I rx hs pl pu h
  obtain ⟨a, xs, rfl, hx, q1, q2⟩ := h
  by_cases hw : HT.sIx xs.length 0 lo = 0 /\ HT.sIx xs.length xs.length hi = xs.length
  · cases rx
    obtain ⟨its, r, ht, hz⟩ := I.tuple hx
    have hlen : its.toArray.size = xs.length := by rw [List.size_toArray]; exact r.length.symm
    refine ⟨"tuple", _, PyProof.Rows.slot_tuple_getitem.lookup, ht.typeIs, ?_⟩
    exact HT.getItem_tuple_whole ht hs pl pu (by rw [hlen]; exact hw.1) (by rw [hlen]; exact hw.2) ⟨.ref a, H, I, rfl, q1 hw⟩
  · exact sl_tup pins s σ H (.ref a) v vl vu lo hi sl Q I rx hs pl pu ⟨a, xs, rfl, hx, hw, q2 hw⟩
end L2
namespace L2
open PySem PySem.Spec PyProof.Rows
end L2
namespace L2
open PySem PySem.Spec PySem.W PyProof.Rows
section
variable {prog : Program} {w : World} {A : Around} {E : Value -> Shared -> Prop} {s : Shared} {K : PySem.W.Frag} {x C : Addr} {ox : Obj} {od : Option Obj} {name : Str}
end
end L2
namespace L2
open PySem PySem.Spec PySem.W PyProof.Rows
section
variable {K : PySem.W.Frag} {C : Addr} {nm : Str} {bm : List Value} {ini : Option Value}
end
def xcO (C e : Addr) : HO := .ext fun h => ∃ ox : Obj, h.get? e = some ox /\ ox.cls = .ref C /\ notCls ox = true /\ ox.dict = none
section
variable {X : Cx} {pins : List (Addr × Obj)} {σ : St} {H : Hp} {s : Shared} {h' : Heap} {a : Addr} {o : HO}
end
end L2
namespace L2
open PySem PySem.Spec PyProof.Rows
theorem vals_of_intsAre : ∀ {ns : List Int} {us : List Value}, IntsAre us ns -> Vals (ns.map V.int) us
  | _, _, .nil => .nil
  | _, _, .cons x t h => .cons ⟨t, rfl⟩ (vals_of_intsAre h)
end L2
namespace L2
open PySem PySem.Spec PyProof.Rows
end L2
namespace Mm
open PySem L2
inductive AV where
  | non | bl (b : Bool) | int (i : Int) | str (x : Str) | tup (xs : List AV) | ref (i : Nat) | sq (xs : List AV)
inductive AO where
  | lst (xs : List AV) | dK (kvs : List (Key × AV)) | dT (kvs : List (List Key × AV)) | ins (C : Nat) (fs : List (Str × AV)) | exc (C : Nat) | tab (i : Nat) (q : Str)
abbrev S := List AO
abbrev En := List (Option AV)
structure AX where
  cls : Nat
  fs : List (Str × AV)
inductive R (α : Type) where
  | ok (a : α) (s : S) | ex (c : AX) (s : S) | bad
def R.bind {α β : Type} : R α -> (α -> S -> R β) -> R β
  | .ok a s, f => f a s
  | .ex c s, _ => .ex c s
  | .bad, _ => .bad
inductive RS where
  | nx (e : En) (s : S) | rt (v : AV) (s : S) | bk (e : En) (s : S) | ct (e : En) (s : S) | ex (c : AX) (s : S) | bad
@[simp] theorem bind_ok {α β : Type} (a : α) (s : S) (f : α -> S -> R β) : (R.ok a s).bind f = f a s := rfl
@[simp] theorem bind_bad {α β : Type} (f : α -> S -> R β) : (R.bad : R α).bind f = .bad := rfl
structure Tx where
  K : PySem.W.Frag
  cl : Nat -> Addr
def SqF (K : PySem.W.Frag) (H : Hp) (a : Addr) (xs : List V) : Prop :=
  (∃ o, H a = some (.frz o (.lst xs))) ∨ ∃ (o : Obj) (its : Array Value) (n : Nat), K.lookup a = some o /\ o.cls = .type "list" /\ o.dict = none /\ o.data = .seq its n /\ its.size <= sizeLine /\ Vals xs its.toList
theorem SqF.sqL {K : PySem.W.Frag} {H : Hp} {a : Addr} {xs : List V} (h : SqF K H a xs) : SqL K H a xs := by
  rcases h with h | h
  · exact .inl (.inr h)
  · exact .inr h
mutual
def VR (T : Tx) (ρ : List Addr) (H : Hp) : AV -> V -> Prop
  | .non, x => x = .non
  | .bl b, x => x = .bl b
  | .int i, x => x = .int i
  | .str z, x => x = .str z
  | .tup xs, x => ∃ a vs, x = .ref a /\ SqT T.K H a vs /\ VRs T ρ H xs vs
  | .ref i, x => ∃ a, ρ[i]? = some a /\ x = .ref a
  | .sq xs, x => ∃ a vs, x = .ref a /\ SqF T.K H a vs /\ VRs T ρ H xs vs
def VRs (T : Tx) (ρ : List Addr) (H : Hp) : List AV -> List V -> Prop
  | [], vs => vs = []
  | v :: r, vs => ∃ x ys, vs = x :: ys /\ VR T ρ H v x /\ VRs T ρ H r ys
end
structure Gr (ρ : List Addr) (H : Hp) (ρ' : List Addr) (H' : Hp) : Prop where
  pre : ρ <+: ρ'
  tups : ∀ b xs, H b = some (.tup xs) -> H' b = some (.tup xs)
  frzs : ∀ b o u, H b = some (.frz o u) -> H' b = some (.frz o u)
structure Up (ρ : List Addr) (H : Hp) (ρ' : List Addr) (H' : Hp) : Prop extends Gr ρ H ρ' H' where
  fr : ∀ b o, H b = some o -> b ∉ ρ -> H' b = some o /\ b ∉ ρ'
  live : ∀ b, H' b = none -> H b = none
theorem Up.refl {ρ : List Addr} {H : Hp} : Up ρ H ρ H := ⟨⟨List.prefix_rfl, fun _ _ h => h, fun _ _ _ h => h⟩, fun _ _ h n => ⟨h, n⟩, fun _ h => h⟩
theorem Up.trans {ρ ρ1 ρ2 : List Addr} {H H1 H2 : Hp} (a : Up ρ H ρ1 H1) (b : Up ρ1 H1 ρ2 H2) : Up ρ H ρ2 H2 :=
  ⟨⟨a.pre.trans b.pre, fun c xs h => b.tups c xs (a.tups c xs h), fun c o u h => b.frzs c o u (a.frzs c o u h)⟩, fun c o h n => let ⟨h1, n1⟩ := a.fr c o h n; b.fr c o h1 n1, fun c h => a.live c (b.live c h)⟩
theorem Up.add {ρ ρ1 : List Addr} {H H1 : Hp} {p : Addr} (a : Up ρ H ρ1 H1) (h : H p = none) : Up ρ H (ρ1 ++ [p]) H1 :=
  ⟨⟨a.pre.trans (List.prefix_append _ _), a.tups, a.frzs⟩, fun b o e n => ⟨(a.fr b o e n).1, fun z => by
    rcases List.mem_append.mp z with z | z
    · exact (a.fr b o e n).2 z
    · rw [List.mem_singleton.mp z, h] at e; cases e⟩, a.live⟩
theorem pre_get {α : Type} {ρ ρ' : List α} (h : ρ <+: ρ') {i : Nat} {a : α} (e : ρ[i]? = some a) : ρ'[i]? = some a := by
  obtain ⟨t, rfl⟩ := h
  rw [List.getElem?_append_left]
  · exact e
  · exact (List.getElem?_eq_some_iff.mp e).1
theorem Gr.sqT {K : PySem.W.Frag} {ρ ρ' : List Addr} {H H' : Hp} (u : Gr ρ H ρ' H') {a : Addr} {vs : List V} (h : SqT K H a vs) : SqT K H' a vs := by
  rcases h with (h | ⟨o, h⟩) | h
  · exact .inl (.inl (u.tups _ _ h))
  · exact .inl (.inr ⟨o, u.frzs _ _ _ h⟩)
  · exact .inr h
theorem Gr.sqF {K : PySem.W.Frag} {ρ ρ' : List Addr} {H H' : Hp} (u : Gr ρ H ρ' H') {a : Addr} {vs : List V} (h : SqF K H a vs) : SqF K H' a vs := by
  rcases h with ⟨o, h⟩ | h
  · exact .inl ⟨o, u.frzs _ _ _ h⟩
  · exact .inr h
section
variable {T : Tx} {ρ ρ' : List Addr} {H H' : Hp}
mutual
theorem VR.gr (u : Gr ρ H ρ' H') : ∀ {v : AV} {x : V}, VR T ρ H v x -> VR T ρ' H' v x
  | .non, _, h => h
  | .bl _, _, h => h
  | .int _, _, h => h
  | .str _, _, h => h
  | .ref _, _, h => by
    unfold VR at *
    obtain ⟨a, h, e⟩ := h
    exact ⟨a, pre_get u.pre h, e⟩
  | .tup _, _, h => by
    unfold VR at *
    obtain ⟨a, vs, e, h1, h2⟩ := h
    exact ⟨a, vs, e, u.sqT h1, VRs.gr u h2⟩
  | .sq _, _, h => by
    unfold VR at *
    obtain ⟨a, vs, e, h1, h2⟩ := h
    exact ⟨a, vs, e, u.sqF h1, VRs.gr u h2⟩
theorem VRs.gr (u : Gr ρ H ρ' H') : ∀ {l : List AV} {xs : List V}, VRs T ρ H l xs -> VRs T ρ' H' l xs
  | [], _, h => h
  | _ :: _, _, h => by
    unfold VRs at *
    obtain ⟨x, ys, e, h1, h2⟩ := h
    exact ⟨x, ys, e, VR.gr u h1, VRs.gr u h2⟩
end
theorem VR.up (u : Up ρ H ρ' H') {v : AV} {x : V} (h : VR T ρ H v x) : VR T ρ' H' v x := h.gr u.toGr
theorem VRs.up (u : Up ρ H ρ' H') {v : List AV} {x : List V} (h : VRs T ρ H v x) : VRs T ρ' H' v x := h.gr u.toGr
theorem VRs.length : ∀ {l : List AV} {xs : List V}, VRs T ρ H l xs -> l.length = xs.length
  | [], _, h => by unfold VRs at h; subst h; rfl
  | _ :: _, _, h => by
    unfold VRs at h
    obtain ⟨x, ys, rfl, _, h2⟩ := h
    simp [VRs.length h2]
theorem VRs.nil : VRs T ρ H [] [] := by unfold VRs; rfl
theorem VRs.cons {v : AV} {x : V} {l : List AV} {xs : List V} (h : VR T ρ H v x) (k : VRs T ρ H l xs) : VRs T ρ H (v :: l) (x :: xs) := by
  unfold VRs
  exact ⟨x, xs, rfl, h, k⟩
theorem VRs.nil_inv {xs : List V} (h : VRs T ρ H [] xs) : xs = [] := by unfold VRs at h; exact h
theorem VRs.cons_inv {v : AV} {l : List AV} {xs : List V} (h : VRs T ρ H (v :: l) xs) : ∃ x ys, xs = x :: ys /\ VR T ρ H v x /\ VRs T ρ H l ys := by unfold VRs at h; exact h
theorem VRs.get : ∀ {l : List AV} {xs : List V} {i : Nat} {v : AV}, VRs T ρ H l xs -> l[i]? = some v -> ∃ x, xs[i]? = some x /\ VR T ρ H v x
  | [], _, _, _, _, e => by simp at e
  | _ :: _, _, 0, _, h, e => by
    obtain ⟨x, ys, rfl, h1, _⟩ := h.cons_inv
    simp at e; subst e
    exact ⟨x, rfl, h1⟩
  | _ :: _, _, i + 1, _, h, e => by
    obtain ⟨x, ys, rfl, _, h2⟩ := h.cons_inv
    exact VRs.get (i := i) h2 (by simpa using e)
theorem VRs.append : ∀ {l q : List AV} {xs ys : List V}, VRs T ρ H l xs -> VRs T ρ H q ys -> VRs T ρ H (l ++ q) (xs ++ ys)
  | [], _, _, _, h, k => by cases h.nil_inv; exact k
  | _ :: _, _, _, _, h, k => by
    obtain ⟨x, zs, rfl, h1, h2⟩ := h.cons_inv
    exact .cons h1 (VRs.append h2 k)
theorem VRs.one {v : AV} {x : V} (h : VR T ρ H v x) : VRs T ρ H [v] [x] := .cons h .nil
theorem VRs.set : ∀ {l : List AV} {xs : List V} {v : AV} {x : V} (i : Nat), VRs T ρ H l xs -> VR T ρ H v x -> VRs T ρ H (l.set i v) (xs.set i x)
  | [], _, _, _, _, h, _ => by cases h.nil_inv; exact .nil
  | _ :: _, _, _, _, 0, h, k => by
    obtain ⟨x, zs, rfl, h1, h2⟩ := h.cons_inv
    exact .cons k h2
  | _ :: _, _, _, _, i + 1, h, k => by
    obtain ⟨x, zs, rfl, h1, h2⟩ := h.cons_inv
    exact .cons h1 (VRs.set i h2 k)
theorem VRs.drop : ∀ {l : List AV} {xs : List V} (n : Nat), VRs T ρ H l xs -> VRs T ρ H (l.drop n) (xs.drop n)
  | _, _, 0, h => h
  | [], _, _ + 1, h => by cases h.nil_inv; exact .nil
  | _ :: _, _, n + 1, h => by
    obtain ⟨x, zs, rfl, h1, h2⟩ := h.cons_inv
    exact VRs.drop n h2
theorem VRs.take : ∀ {l : List AV} {xs : List V} (n : Nat), VRs T ρ H l xs -> VRs T ρ H (l.take n) (xs.take n)
  | _, _, 0, h => .nil
  | [], _, _ + 1, h => by cases h.nil_inv; exact .nil
  | _ :: _, _, n + 1, h => by
    obtain ⟨x, zs, rfl, h1, h2⟩ := h.cons_inv
    exact .cons h1 (VRs.take n h2)
theorem VRs.map {α : Type} {f : α -> AV} {g : α -> V} (h : ∀ a, VR T ρ H (f a) (g a)) : ∀ (l : List α), VRs T ρ H (l.map f) (l.map g)
  | [] => .nil
  | a :: r => .cons (h a) (VRs.map h r)
theorem VRs.ints_inv : ∀ {ns : List Int} {xs : List V}, VRs T ρ H (ns.map AV.int) xs -> xs = ns.map V.int
  | [], _, h => h.nil_inv
  | _ :: _, _, h => by
    obtain ⟨x, zs, rfl, h1, h2⟩ := h.cons_inv
    unfold VR at h1
    rw [h1, VRs.ints_inv h2]; rfl
theorem VRs.bls_inv : ∀ {ns : List Bool} {xs : List V}, VRs T ρ H (ns.map AV.bl) xs -> xs = ns.map V.bl
  | [], _, h => h.nil_inv
  | _ :: _, _, h => by
    obtain ⟨x, zs, rfl, h1, h2⟩ := h.cons_inv
    unfold VR at h1
    rw [h1, VRs.bls_inv h2]; rfl
theorem vr_int {i : Int} : VR T ρ H (.int i) (.int i) := by unfold VR; rfl
theorem vr_bl {i : Bool} : VR T ρ H (.bl i) (.bl i) := by unfold VR; rfl
theorem vr_str {i : Str} : VR T ρ H (.str i) (.str i) := by unfold VR; rfl
theorem vr_non : VR T ρ H .non .non := by unfold VR; rfl
theorem vr_ref {i : Nat} {a : Addr} (h : ρ[i]? = some a) : VR T ρ H (.ref i) (.ref a) := by unfold VR; exact ⟨a, h, rfl⟩
theorem vr_tup {xs : List AV} {a : Addr} {vs : List V} (h : SqT T.K H a vs) (k : VRs T ρ H xs vs) : VR T ρ H (.tup xs) (.ref a) := by unfold VR; exact ⟨a, vs, rfl, h, k⟩
theorem VR.tup_inv {xs : List AV} {x : V} (h : VR T ρ H (.tup xs) x) : ∃ a vs, x = .ref a /\ SqT T.K H a vs /\ VRs T ρ H xs vs := by unfold VR at h; exact h
theorem VR.ref_inv {i : Nat} {x : V} (h : VR T ρ H (.ref i) x) : ∃ a, ρ[i]? = some a /\ x = .ref a := by unfold VR at h; exact h
theorem VR.sq_inv {xs : List AV} {x : V} (h : VR T ρ H (.sq xs) x) : ∃ a vs, x = .ref a /\ SqF T.K H a vs /\ VRs T ρ H xs vs := by unfold VR at h; exact h
theorem VR.int_inv {i : Int} {x : V} (h : VR T ρ H (.int i) x) : x = .int i := by unfold VR at h; exact h
theorem VR.bl_inv {i : Bool} {x : V} (h : VR T ρ H (.bl i) x) : x = .bl i := by unfold VR at h; exact h
theorem VR.str_inv {i : Str} {x : V} (h : VR T ρ H (.str i) x) : x = .str i := by unfold VR at h; exact h
theorem VR.non_inv {x : V} (h : VR T ρ H .non x) : x = .non := by unfold VR at h; exact h
def TabOk (H : Hp) (q : Str) (ps : Array Value) : Prop := TriplesOk ps.toList /\ ∀ pos cv, codeAmong pos ps.toList = some cv -> ∃ c oc u vs t, cv = .ref c /\ H c = some (.frz oc u) /\ oc.data = .fields vs /\ vs[1]? = some (.str q t)
def OR (T : Tx) (ρ : List Addr) (H : Hp) : AO -> Addr -> Prop
  | .lst xs, a => ∃ vs, H a = some (.lst vs) /\ VRs T ρ H xs vs
  | .dK kvs, a => ∃ ks : List (Key × V), H a = some (.dK ks) /\ kvs.map (·.1) = ks.map (·.1) /\ VRs T ρ H (kvs.map (·.2)) (ks.map (·.2))
  | .dT kvs, a => ∃ ks : List (List Key × V), H a = some (.dT ks) /\ kvs.map (·.1) = ks.map (·.1) /\ VRs T ρ H (kvs.map (·.2)) (ks.map (·.2))
  | .ins C fs, a => ∃ (dx : Addr) (ks : List (Str × V)), H a = some (.ins (T.cl C) dx ks) /\ fs.map (·.1) = ks.map (·.1) /\ VRs T ρ H (fs.map (·.2)) (ks.map (·.2))
  | .exc C, a => H a = some (xcO (T.cl C) a)
  | .tab i q, a => a = T.cl i /\ ∃ ps, H a = some (.tbl ps) /\ TabOk H q ps
theorem OR.ex {o : AO} {a : Addr} (h : OR T ρ H o a) : ∃ u, H a = some u := by
  cases o with
  | lst xs => obtain ⟨_, h, _⟩ := h; exact ⟨_, h⟩
  | dK xs => obtain ⟨_, h, _⟩ := h; exact ⟨_, h⟩
  | dT xs => obtain ⟨_, h, _⟩ := h; exact ⟨_, h⟩
  | ins C xs => obtain ⟨_, _, h, _⟩ := h; exact ⟨_, h⟩
  | exc C => exact ⟨_, h⟩
  | tab i q => obtain ⟨_, _, h, _⟩ := h; exact ⟨_, h⟩
theorem OR.up {o : AO} {a : Addr} (u : Gr ρ H ρ' H') (e : H' a = H a) (h : OR T ρ H o a) : OR T ρ' H' o a := by
  cases o with
  | lst xs => obtain ⟨vs, h, k⟩ := h; exact ⟨vs, e.trans h, k.gr u⟩
  | dK xs => obtain ⟨vs, h, q, k⟩ := h; exact ⟨vs, e.trans h, q, k.gr u⟩
  | dT xs => obtain ⟨vs, h, q, k⟩ := h; exact ⟨vs, e.trans h, q, k.gr u⟩
  | ins C xs => obtain ⟨dx, vs, h, q, k⟩ := h; exact ⟨dx, vs, e.trans h, q, k.gr u⟩
  | exc C => exact e.trans h
  | tab i q =>
    obtain ⟨h1, ps, h2, h3, h4⟩ := h
    exact ⟨h1, ps, e.trans h2, h3, fun pos cv z => let ⟨c, oc, w, vs, t, k1, k2, k3⟩ := h4 pos cv z; ⟨c, oc, w, vs, t, k1, u.frzs _ _ _ k2, k3⟩⟩
end
structure SR (T : Tx) (ρ : List Addr) (s : S) (H : Hp) : Prop where
  nd : ρ.Nodup
  len : ρ.length = s.length
  obj : ∀ (i : Nat) (o : AO), s[i]? = some o -> ∃ a, ρ[i]? = some a /\ OR T ρ H o a
section
variable {T : Tx} {ρ ρ' : List Addr} {s : S} {H H' : Hp}
theorem SR.in (h : SR T ρ s H) {a : Addr} (ha : a ∈ ρ) : ∃ u, H a = some u := by
  obtain ⟨i, hi, e⟩ := List.getElem_of_mem ha
  have hi2 : i < s.length := by rw [← h.len]; exact hi
  obtain ⟨b, e2, q⟩ := h.obj i s[i] (List.getElem?_eq_getElem hi2)
  rw [List.getElem?_eq_getElem hi] at e2
  cases e2
  rw [e] at q
  exact q.ex
theorem SR.out (h : SR T ρ s H) {a : Addr} (ha : H a = none) : a ∉ ρ := fun z => by
  obtain ⟨u, e⟩ := h.in z
  rw [ha] at e; cases e
theorem SR.upNew (h : SR T ρ s H) {p : Addr} {o : HO} (hp : H p = none) : Up ρ H ρ (upd H p o) :=
  ⟨⟨List.prefix_rfl, fun b xs e => by rw [upd_ne (ne_of_none e hp)]; exact e, fun b o u e => by rw [upd_ne (ne_of_none e hp)]; exact e⟩, fun b u e n => ⟨by rw [upd_ne (ne_of_none e hp)]; exact e, n⟩, fun b e => by
    by_cases hb : b = p
    · rw [hb]; exact hp
    · rw [upd_ne hb] at e; exact e⟩
theorem SR.up (h : SR T ρ s H) (u : Gr ρ H ρ H') (k : ∀ a ∈ ρ, H' a = H a) : SR T ρ s H' :=
  ⟨h.nd, h.len, fun i o e => by
    obtain ⟨a, e1, q⟩ := h.obj i o e
    exact ⟨a, e1, q.up u (k a (List.mem_of_getElem? e1))⟩⟩
theorem SR.new (h : SR T ρ s H) {p : Addr} {o : HO} (hp : H p = none) : SR T ρ s (upd H p o) :=
  h.up (h.upNew hp).toGr fun a ha => upd_ne fun e => h.out hp (e ▸ ha)
theorem SR.add (h : SR T ρ s H) {p : Addr} {o : AO} (hp : p ∉ ρ) (k : OR T (ρ ++ [p]) H o p) : SR T (ρ ++ [p]) (s ++ [o]) H := by
  refine ⟨List.nodup_append.mpr ⟨h.nd, by simp, fun a ha b hb e => hp (by rw [List.mem_singleton.mp hb] at e; exact e ▸ ha)⟩, by simp [h.len], fun i q e => ?_⟩
  by_cases hi : i < s.length
  · rw [List.getElem?_append_left hi] at e
    obtain ⟨a, e1, q1⟩ := h.obj i q e
    refine ⟨a, by rw [List.getElem?_append_left (by rw [h.len]; exact hi)]; exact e1, ?_⟩
    exact q1.up ⟨List.prefix_append _ _, fun _ _ e => e, fun _ _ _ e => e⟩ rfl
  · rw [List.getElem?_append_right (by omega)] at e
    have hz : i - s.length = 0 := by
      have := (List.getElem?_eq_some_iff.mp e).1
      simp at this; omega
    rw [hz] at e
    cases e
    exact ⟨p, by rw [List.getElem?_append_right (by rw [h.len]; omega), h.len, hz]; rfl, k⟩
end
structure Rl (α β : Type) where
  r : Hp -> List Addr -> Hp -> α -> β -> Prop
  anti : ∀ {H H1 : Hp} {ρ : List Addr} {H' : Hp} {v : α} {x : β}, (∀ b, H1 b = none -> H b = none) -> r H1 ρ H' v x -> r H ρ H' v x
abbrev XEt := AX -> List Addr -> S -> Hp -> Prop
def Out {α β : Type} (T : Tx) (XE : XEt) (rl : Rl α β) (ρ : List Addr) (H : Hp) : R α -> (β -> Hp -> Prop) -> Prop
  | .ok v s, Q => ∀ ρ' H' x, Up ρ H ρ' H' -> SR T ρ' s H' -> rl.r H ρ' H' v x -> Q x H'
  | .ex c s, _ => ∀ ρ' H', Up ρ H ρ' H' -> SR T ρ' s H' -> XE c ρ' s H'
  | .bad, _ => False
theorem Out.up {α β : Type} {T : Tx} {XE : XEt} {rl : Rl α β} {ρ ρ' : List Addr} {H H' : Hp} {r : R α} {Q : β -> Hp -> Prop} (u : Up ρ H ρ' H') (h : Out T XE rl ρ H r Q) : Out T XE rl ρ' H' r Q := by
  cases r with
  | ok v s => exact fun ρ2 H2 x u2 sr vr => h ρ2 H2 x (u.trans u2) sr (rl.anti u.live vr)
  | ex c s => exact fun ρ2 H2 u2 sr => h ρ2 H2 (u.trans u2) sr
  | bad => exact h
structure ER (T : Tx) (ρ : List Addr) (H : Hp) (env : En) (σ : St) : Prop where
  len : env.length = σ.length
  get : ∀ (i : Nat) (v : AV), env[i]? = some (some v) -> ∃ x, σ[i]? = some (some x) /\ VR T ρ H v x
theorem ER.up {T : Tx} {ρ ρ' : List Addr} {H H' : Hp} {env : En} {σ : St} (u : Up ρ H ρ' H') (h : ER T ρ H env σ) : ER T ρ' H' env σ :=
  ⟨h.len, fun i v e => let ⟨x, e1, q⟩ := h.get i v e; ⟨x, e1, q.up u⟩⟩
theorem ER.set {T : Tx} {ρ : List Addr} {H : Hp} {env : En} {σ : St} (h : ER T ρ H env σ) {i : Nat} {v : AV} {x : V} (k : VR T ρ H v x) : ER T ρ H (env.set i (some v)) (σ.set i (some x)) := by
  refine ⟨by simp [h.len], fun j w e => ?_⟩
  by_cases hij : i = j
  · subst hij
    have hl : i < env.length := by
      have := (List.getElem?_eq_some_iff.mp e).1
      simpa using this
    rw [List.getElem?_set_self hl] at e
    cases e
    exact ⟨x, by rw [List.getElem?_set_self (by rw [← h.len]; exact hl)], k⟩
  · rw [List.getElem?_set_ne hij] at e ⊢
    exact h.get j w e
def tG {α β : Type} (T : Tx) (XE : XEt) (rl : Rl α β) (m : En -> S -> R α) : St -> Hp -> (β -> Hp -> Prop) -> Prop := fun σ H Q =>
  ∃ ρ env s, SR T ρ s H /\ ER T ρ H env σ /\ Out T XE rl ρ H (m env s) Q
theorem step {α β α' β' : Type} {T : Tx} {XE : XEt} {rl : Rl α β} {rl2 : Rl α' β'} {ρ : List Addr} {env : En} {s : S} {σ : St} {H : Hp} {m : En -> S -> R α} {k : α -> S -> R α'} {Q : β' -> Hp -> Prop} {F : β -> Hp -> Prop}
    (hs : SR T ρ s H) (he : ER T ρ H env σ) (ho : Out T XE rl2 ρ H ((m env s).bind k) Q)
    (hk : ∀ v s1 ρ1 H1 x, m env s = .ok v s1 -> Up ρ H ρ1 H1 -> SR T ρ1 s1 H1 -> ER T ρ1 H1 env σ -> rl.r H ρ1 H1 v x -> Out T XE rl2 ρ1 H1 (k v s1) Q -> F x H1) : tG T XE rl m σ H F := by
  refine ⟨ρ, env, s, hs, he, ?_⟩
  cases e : m env s with
  | ok v s1 =>
    rw [e] at ho
    exact fun ρ1 H1 x u sr vr => hk v s1 ρ1 H1 x e u sr (he.up u) vr (Out.up u ho)
  | ex c s1 => rw [e] at ho; exact ho
  | bad => rw [e] at ho; exact ho
theorem Out.here {α β : Type} {T : Tx} {XE : XEt} {rl : Rl α β} {ρ : List Addr} {H : Hp} {v : α} {s : S} {Q : β -> Hp -> Prop} {x : β} (h : Out T XE rl ρ H (.ok v s) Q) (sr : SR T ρ s H) (r : rl.r H ρ H v x) : Q x H := h ρ H x .refl sr r
theorem PE.imp {X : Cx} {e : Expr} {t t' : TE} (h : PE X e t) (k : ∀ σ H Q, t' σ H Q -> t σ H Q) : PE X e t' := fun pins s σ H Q I hq => h pins s σ H Q I (k σ H Q hq)
theorem PT.imp {X : Cx} {e : Expr} {t t' : TT} (h : PT X e t) (k : ∀ σ H Q, t' σ H Q -> t σ H Q) : PT X e t' := fun pins s σ H Q I hq => h pins s σ H Q I (k σ H Q hq)
theorem PW.imp {X : Cx} {e : Expr} {t t' : TT} (h : PW X e t) (k : ∀ σ H Q, t' σ H Q -> t σ H Q) : PW X e t' := fun wh pins s σ H Q I hq => h wh pins s σ H Q I (k σ H Q hq)
theorem PA.imp {X : Cx} {e : List Expr} {t t' : TA} (h : PA X e t) (k : ∀ σ H Q, t' σ H Q -> t σ H Q) : PA X e t' := fun pos pins s σ H Q I hq => h pos pins s σ H Q I (k σ H Q hq)
theorem PS.imp {X : Cx} {e : Stmt} {t t' : TS} (h : PS X e t) (k : ∀ D σ H, t' D σ H -> t D σ H) : PS X e t' := fun pins s σ H Q I hq => h pins s σ H Q I (k Q σ H hq)
theorem PSs.imp {X : Cx} {e : List Stmt} {t t' : TS} (h : PSs X e t) (k : ∀ D σ H, t' D σ H -> t D σ H) : PSs X e t' := fun pins s σ H Q I hq => h pins s σ H Q I (k Q σ H hq)
theorem PI.imp {X : Cx} {tg e : Expr} {t t' : TI} (h : PI X tg e t) (k : ∀ σ H R, t' σ H R -> t σ H R) : PI X tg e t' := fun pins s σ H Q I hq => h pins s σ H Q I (k σ H Q hq)
theorem PG.imp {X : Cx} {e : Expr} {t t' : TG} (h : PG X e t) (k : ∀ v σ H Q, t' v σ H Q -> t v σ H Q) : PG X e t' := fun pins s σ H v u Q I r hq => h pins s σ H v u Q I r (k v σ H Q hq)
theorem PGs.imp {X : Cx} {e : List Expr} {t t' : TGs} (h : PGs X e t) (k : ∀ v σ H Q, t' v σ H Q -> t v σ H Q) : PGs X e t' := fun pins s σ H v u Q I r hq => h pins s σ H v u Q I r (k v σ H Q hq)
end Mm
namespace Mm
open PySem L2
abbrev Ev := En -> S -> R AV
abbrev Evs := En -> S -> R (List AV)
abbrev Eb := En -> S -> R Bool
structure Big (i : Int) : Prop where
  f : Fit 60000000 i
structure Mid (i : Int) : Prop where
  f : Fit 9000 i
noncomputable instance {i : Int} : Decidable (Big i) := Classical.propDecidable _
noncomputable instance {i : Int} : Decidable (Mid i) := Classical.propDecidable _
def rV (T : Tx) : Rl AV V := ⟨fun _ ρ H v x => VR T ρ H v x, fun _ h => h⟩
def rA (T : Tx) : Rl (List AV) (List V) := ⟨fun _ ρ H v x => VRs T ρ H v x, fun _ h => h⟩
def rB : Rl Bool Bool := ⟨fun _ _ _ b c => b = c, fun _ h => h⟩
def rL (T : Tx) : Rl (List AV) V := ⟨fun H₀ ρ H xs x => ∃ a vs, x = .ref a /\ H₀ a = none /\ a ∉ ρ /\ H a = some (.lst vs) /\ VRs T ρ H xs vs, fun k ⟨a, vs, e, h, r⟩ => ⟨a, vs, e, k a h, r⟩⟩
def rQ (T : Tx) : Rl (List AV) V := ⟨fun _ ρ H xs x => ∃ a vs, x = .ref a /\ (SqL T.K H a vs ∨ SqT T.K H a vs) /\ VRs T ρ H xs vs, fun _ h => h⟩
theorem Out.hereV {T : Tx} {XE : XEt} {ρ : List Addr} {H : Hp} {v : AV} {s : S} {Q : VK} {x : V} (h : Out T XE (rV T) ρ H (.ok v s) Q) (sr : SR T ρ s H) (r : VR T ρ H v x) : Q x H := h ρ H x .refl sr r
abbrev tE (T : Tx) (XE : XEt) (m : Ev) : TE := tG T XE (rV T) m
abbrev tL (T : Tx) (XE : XEt) (m : Evs) : TE := tG T XE (rL T) m
abbrev tQ (T : Tx) (XE : XEt) (m : Evs) : TE := tG T XE (rQ T) m
abbrev tP (T : Tx) (XE : XEt) (m : Evs) : TA := tG T XE (rA T) m
abbrev tC' (T : Tx) (XE : XEt) (m : Eb) : TT := tG T XE rB m
section
variable {T : Tx} {XE : XEt} {X : Cx} {pos : Pos}
def mv (i : Nat) : Ev := fun env s => match env[i]? with
  | some (some v) => .ok v s
  | _ => .bad
theorem me_v {i : Nat} {e : Expr} (h : PE X e (tVar i)) : PE X e (tE T XE (mv i)) := PE.imp h fun σ H Q ⟨ρ, env, s, hs, he, ho⟩ => by
  unfold mv at ho
  split at ho
  · rename_i v ev
    obtain ⟨x, e1, q⟩ := he.get i v ev
    exact ⟨x, e1, ho.hereV hs q⟩
  · exact ho.elim
def mc (v : AV) : Ev := fun _ s => .ok v s
theorem me_int {i : Int} {j : Nat} : PE X (.Constant (.int i) j pos) (tE T XE (mc (.int i))) := PE.imp pe_int fun σ H Q ⟨ρ, env, s, hs, he, ho⟩ => ho.hereV hs vr_int
theorem me_bl {i : Bool} {j : Nat} : PE X (.Constant (.bool i) j pos) (tE T XE (mc (.bl i))) := PE.imp pe_bl fun σ H Q ⟨ρ, env, s, hs, he, ho⟩ => ho.hereV hs vr_bl
theorem me_non {j : Nat} : PE X (.Constant .none j pos) (tE T XE (mc .non)) := PE.imp pe_non fun σ H Q ⟨ρ, env, s, hs, he, ho⟩ => ho.hereV hs vr_non
theorem me_str {i : Str} {j : Nat} : PE X (.Constant (.str i) j pos) (tE T XE (mc (.str i))) := PE.imp pe_str fun σ H Q ⟨ρ, env, s, hs, he, ho⟩ => ho.hereV hs vr_str
def r2M (T : Tx) (XE : XEt) (op : AV -> AV -> S -> R AV) : R2 := fun x y H Q => ∃ ρ v w s, SR T ρ s H /\ VR T ρ H v x /\ VR T ρ H w y /\ Out T XE (rV T) ρ H (op v w s) Q
def r1M (T : Tx) (XE : XEt) (op : AV -> S -> R AV) : V -> Hp -> VK -> Prop := fun x H Q => ∃ ρ v s, SR T ρ s H /\ VR T ρ H v x /\ Out T XE (rV T) ρ H (op v s) Q
def mBin (op : AV -> AV -> S -> R AV) (a b : Ev) : Ev := fun env s => (a env s).bind fun v s1 => (b env s1).bind fun w s2 => op v w s2
def mUn (op : AV -> S -> R AV) (a : Ev) : Ev := fun env s => (a env s).bind fun v s1 => op v s1
theorem t2 {op : AV -> AV -> S -> R AV} {a b : Ev} {σ : St} {H : Hp} {Q : VK} (h : tE T XE (mBin op a b) σ H Q) : tOp (r2M T XE op) (tE T XE a) (tE T XE b) σ H Q := by
  obtain ⟨ρ, env, s, hs, he, ho⟩ := h
  exact step hs he ho fun v s1 ρ1 H1 x _ u1 sr1 er1 vr1 ho1 => step sr1 er1 ho1 fun w s2 ρ2 H2 y _ u2 sr2 er2 vr2 ho2 => ⟨ρ2, v, w, s2, sr2, VR.up u2 vr1, vr2, ho2⟩
theorem t1 {op : AV -> S -> R AV} {a : Ev} {σ : St} {H : Hp} {Q : VK} (h : tE T XE (mUn op a) σ H Q) : tUn (r1M T XE op) (tE T XE a) σ H Q := by
  obtain ⟨ρ, env, s, hs, he, ho⟩ := h
  exact step hs he ho fun v s1 ρ1 H1 x _ u1 sr1 er1 vr1 ho1 => ⟨ρ1, v, s1, sr1, vr1, ho1⟩
theorem me_bin {o : Operator} {op : AV -> AV -> S -> R AV} {a b : Expr} {m1 m2 : Ev} (hop : OpR X (binaryOp o) (r2M T XE op)) (ha : PE X a (tE T XE m1)) (hb : PE X b (tE T XE m2)) : PE X (.BinOp a o b pos) (tE T XE (mBin op m1 m2)) :=
  PE.imp (pe_op hop ha hb) fun _ _ _ h => t2 h
theorem me_un {o : UnaryOp} {op : AV -> S -> R AV} {a : Expr} {m1 : Ev} (hop : UnR X (unaryOp o) (r1M T XE op)) (ha : PE X a (tE T XE m1)) : PE X (.UnaryOp o a pos) (tE T XE (mUn op m1)) :=
  PE.imp (pe_un hop ha) fun _ _ _ h => t1 h
theorem me_cmp {o : CmpOp} {op : AV -> AV -> S -> R AV} {a b : Expr} {m1 m2 : Ev} (hop : OpR X (compareOp o) (r2M T XE op)) (ha : PE X a (tE T XE m1)) (hb : PE X b (tE T XE m2)) (hm : behindInMarks o b = false := by rfl) : PE X (.Compare a [o] [b] pos) (tE T XE (mBin op m1 m2)) :=
  PE.imp (pe_cmpR hop ha hb hm) fun _ _ _ h => t2 h
theorem me_ix {op : AV -> AV -> S -> R AV} {a b : Expr} {m1 m2 : Ev} (hop : IxR X (r2M T XE op)) (ha : PE X a (tE T XE m1)) (hb : PE X b (tE T XE m2)) (hs : PlainIx b := by exact fun _ _ => rfl) : PE X (.Subscript a b pos) (tE T XE (mBin op m1 m2)) :=
  PE.imp (pe_ix hop ha hb hs) fun _ _ _ h => t2 h
theorem Out.alloc {ρ : List Addr} {H : Hp} {s : S} {o : AO} {u : HO} {p : Addr} {Q : VK} (h : Out T XE (rV T) ρ H (.ok (.ref s.length) (s ++ [o])) Q) (sr : SR T ρ s H) (hp : H p = none) (k : OR T (ρ ++ [p]) (upd H p u) o p) : Q (.ref p) (upd H p u) := by
  have s1 : SR T (ρ ++ [p]) (s ++ [o]) (upd H p u) := (sr.new hp).add (sr.out hp) k
  exact h _ _ _ ((sr.upNew hp).add hp) s1 (vr_ref (T := T) (H := upd H p u) (by rw [List.getElem?_append_right (by rw [sr.len]; exact Nat.le_refl _), sr.len, Nat.sub_self]; rfl))
theorem Out.tup {ρ : List Addr} {H : Hp} {s : S} {xs : List AV} {vs : List V} {p : Addr} {Q : VK} (h : Out T XE (rV T) ρ H (.ok (.tup xs) s) Q) (sr : SR T ρ s H) (hp : H p = none) (k : VRs T ρ H xs vs) : Q (.ref p) (upd H p (.tup vs)) :=
  h _ _ _ (sr.upNew hp) (sr.new hp) (vr_tup (SqT.of upd_same) (VRs.up (sr.upNew hp) k))
theorem Out.lst {ρ : List Addr} {H : Hp} {s : S} {xs : List AV} {vs : List V} {p : Addr} {Q : VK} (h : Out T XE (rL T) ρ H (.ok xs s) Q) (sr : SR T ρ s H) (hp : H p = none) (k : VRs T ρ H xs vs) : Q (.ref p) (upd H p (.lst vs)) :=
  h _ _ _ (sr.upNew hp) (sr.new hp) ⟨p, vs, rfl, hp, sr.out hp, upd_same, VRs.up (sr.upNew hp) k⟩
theorem SR.lstAt {ρ : List Addr} {H : Hp} {s : S} (sr : SR T ρ s H) {i : Nat} {xs : List AV} (e : s[i]? = some (.lst xs)) {x : V} (h : VR T ρ H (.ref i) x) : ∃ a vs, x = .ref a /\ ρ[i]? = some a /\ H a = some (.lst vs) /\ VRs T ρ H xs vs := by
  obtain ⟨a, e1, vs, h1, h2⟩ := sr.obj i _ e
  obtain ⟨b, e2, rfl⟩ := h.ref_inv
  rw [e1] at e2
  cases e2
  exact ⟨a, vs, rfl, e1, h1, h2⟩
theorem SR.dKAt {ρ : List Addr} {H : Hp} {s : S} (sr : SR T ρ s H) {i : Nat} {xs : List (Key × AV)} (e : s[i]? = some (.dK xs)) {x : V} (h : VR T ρ H (.ref i) x) : ∃ (a : Addr) (vs : List (Key × V)), x = .ref a /\ ρ[i]? = some a /\ H a = some (.dK vs) /\ xs.map (·.1) = vs.map (·.1) /\ VRs T ρ H (xs.map (·.2)) (vs.map (·.2)) := by
  obtain ⟨a, e1, vs, h1, h2⟩ := sr.obj i _ e
  obtain ⟨b, e2, rfl⟩ := h.ref_inv
  rw [e1] at e2
  cases e2
  exact ⟨a, vs, rfl, e1, h1, h2⟩
theorem SR.upSet {ρ : List Addr} {H : Hp} {s : S} (sr : SR T ρ s H) {i : Nat} {a : Addr} (e : ρ[i]? = some a) {u u0 : HO} (h0 : H a = some u0) (n1 : ∀ xs, u0 ≠ .tup xs) (n2 : ∀ o v, u0 ≠ .frz o v) : Up ρ H ρ (upd H a u) := by
  refine ⟨⟨List.prefix_rfl, fun b xs h => ?_, fun b o v h => ?_⟩, fun b o h n => ⟨?_, n⟩, fun b h => ?_⟩
  · rw [upd_ne (ne_of h h0 fun z => n1 xs z.symm)]; exact h
  · rw [upd_ne (ne_of h h0 fun z => n2 o v z.symm)]; exact h
  · rw [upd_ne fun z => n (by rw [z]; exact List.mem_of_getElem? e)]; exact h
  · by_cases hb : b = a
    · subst hb; rw [upd_same] at h; cases h
    · rw [upd_ne hb] at h; exact h
theorem SR.set {ρ : List Addr} {H : Hp} {s : S} (sr : SR T ρ s H) {i : Nat} {a : Addr} (e : ρ[i]? = some a) {u : HO} {o : AO} (up : Up ρ H ρ (upd H a u)) (k : OR T ρ (upd H a u) o a) : SR T ρ (s.set i o) (upd H a u) := by
  refine ⟨sr.nd, by simp [sr.len], fun j q ej => ?_⟩
  by_cases hij : i = j
  · subst hij
    have hl : i < s.length := by have := (List.getElem?_eq_some_iff.mp ej).1; simpa using this
    rw [List.getElem?_set_self hl] at ej
    cases ej
    exact ⟨a, e, k⟩
  · rw [List.getElem?_set_ne hij] at ej
    obtain ⟨b, e1, q1⟩ := sr.obj j q ej
    refine ⟨b, e1, q1.up up.toGr (upd_ne fun z => hij ?_)⟩
    subst z
    have h1 := (List.getElem?_eq_some_iff.mp e)
    have h2 := (List.getElem?_eq_some_iff.mp e1)
    exact (List.getElem_inj sr.nd).mp (h1.2.trans h2.2.symm)
theorem Out.ifInv {α β : Type} {rl : Rl α β} {ρ : List Addr} {H : Hp} {c : Prop} {_ : Decidable c} {r : R α} {Q : β -> Hp -> Prop} (h : Out T XE rl ρ H (if c then r else .bad) Q) : c /\ Out T XE rl ρ H r Q := by
  by_cases hc : c
  · rw [if_pos hc] at h; exact ⟨hc, h⟩
  · rw [if_neg hc] at h; exact h.elim
def need {α γ : Type} (o : Option γ) (f : γ -> R α) : R α := match o with
  | some x => f x
  | none => .bad
@[simp] theorem need_some {α γ : Type} (x : γ) (f : γ -> R α) : need (some x) f = f x := rfl
theorem Out.needInv {α β γ : Type} {rl : Rl α β} {ρ : List Addr} {H : Hp} {o : Option γ} {f : γ -> R α} {Q : β -> Hp -> Prop} (h : Out T XE rl ρ H (need o f) Q) : ∃ x, o = some x /\ Out T XE rl ρ H (f x) Q := by
  cases o with
  | none => exact h.elim
  | some x => exact ⟨x, rfl, h⟩
def lstO (s : S) (i : Nat) : Option (List AV) := match s[i]? with
  | some (.lst xs) => some xs
  | _ => none
theorem lstO_inv {s : S} {i : Nat} {xs : List AV} (h : lstO s i = some xs) : s[i]? = some (.lst xs) := by
  unfold lstO at h
  split at h
  · cases h; assumption
  · cases h
theorem lstO_of {s : S} {i : Nat} {xs : List AV} (h : s[i]? = some (.lst xs)) : lstO s i = some xs := by
  unfold lstO; rw [h]
def opAdd : AV -> AV -> S -> R AV
  | .int i, .int j, s => .ok (.int (i + j)) s
  | .str x, .str y, s => if x.length + y.length <= sizeLine then .ok (.str (x ++ y)) s else .bad
  | .tup xs, .tup ys, s => if ys ≠ [] /\ xs.length + ys.length <= sizeLine then .ok (.tup (xs ++ ys)) s else .bad
  | .ref i, .ref j, s => need (lstO s i) fun xs => need (lstO s j) fun ys => if xs.length + ys.length <= sizeLine then .ok (.ref s.length) (s ++ [.lst (xs ++ ys)]) else .bad
  | _, _, _ => .bad
theorem VRs.ne {ρ : List Addr} {H : Hp} {l : List AV} {xs : List V} (h : VRs T ρ H l xs) (k : l ≠ []) : xs ≠ [] := by
  intro z
  have := h.length
  rw [z] at this
  exact k (List.length_eq_zero_iff.mp this)
theorem OR.lst {ρ : List Addr} {H : Hp} {a : Addr} {xs : List AV} {vs : List V} (h : H a = some (.lst vs)) (k : VRs T ρ H xs vs) : OR T ρ H (.lst xs) a := ⟨vs, h, k⟩
theorem oAdd (hK : X.K = T.K) : OpR X (binaryOp .Add) (r2M T XE opAdd) := by
  intro pins s σ H x y v u Q I rx ry ⟨ρ, a, b, st, sr, va, vb, ho⟩
  cases a <;> cases b <;> try exact ho.elim
  · exact op_add pins s σ H x y v u Q I rx ry ⟨_, _, va.int_inv, vb.int_inv, ho.hereV sr vr_int⟩
  · obtain ⟨hl, ho⟩ := ho.ifInv
    exact op_add_str pins s σ H x y v u Q I rx ry ⟨_, _, va.str_inv, vb.str_inv, hl, ho.hereV sr vr_str⟩
  · obtain ⟨hl, ho⟩ := ho.ifInv
    obtain ⟨p, vs, rfl, h1, k1⟩ := va.tup_inv
    obtain ⟨q, ws, rfl, h2, k2⟩ := vb.tup_inv
    refine op_catT2 pins s σ H (.ref p) (.ref q) v u Q I rx ry ⟨p, q, vs, ws, rfl, rfl, hK ▸ h1, hK ▸ h2, k2.ne hl.1, by rw [← k1.length, ← k2.length]; exact hl.2, fun hx => ?_, fun _ r hr => ho.tup sr hr (k1.append k2)⟩
    have hx' : vs = [] := hx
    subst hx'
    exact ho.hereV sr (vr_tup h2 (k1.append k2))
  · obtain ⟨xs, e1, ho⟩ := ho.needInv
    obtain ⟨ys, e2, ho⟩ := ho.needInv
    obtain ⟨hl, ho⟩ := ho.ifInv
    obtain ⟨p, vs, rfl, _, h1, k1⟩ := sr.lstAt (lstO_inv e1) va
    obtain ⟨q, ws, rfl, _, h2, k2⟩ := sr.lstAt (lstO_inv e2) vb
    refine op_cat pins s σ H (.ref p) (.ref q) v u Q I rx ry ⟨p, q, vs, ws, rfl, rfl, h1, h2, by rw [← k1.length, ← k2.length]; exact hl, fun r hr => ho.alloc sr hr ?_⟩
    exact OR.lst upd_same (VRs.gr ((sr.upNew hr).add hr).toGr (k1.append k2))
def opSub : AV -> AV -> S -> R AV
  | .int i, .int j, s => .ok (.int (i - j)) s
  | _, _, _ => .bad
theorem oSub : OpR X (binaryOp .Sub) (r2M T XE opSub) := by
  intro pins s σ H x y v u Q I rx ry ⟨ρ, a, b, st, sr, va, vb, ho⟩
  cases a <;> cases b <;> try exact ho.elim
  exact op_sub pins s σ H x y v u Q I rx ry ⟨_, _, va.int_inv, vb.int_inv, ho.hereV sr vr_int⟩
noncomputable def opMul : AV -> AV -> S -> R AV
  | .int i, .int j, s => if Big i /\ Big j then .ok (.int (i * j)) s else .bad
  | _, _, _ => .bad
theorem oMul : OpR X (binaryOp .Mult) (r2M T XE opMul) := by
  intro pins s σ H x y v u Q I rx ry ⟨ρ, a, b, st, sr, va, vb, ho⟩
  cases a <;> cases b <;> try exact ho.elim
  obtain ⟨hl, ho⟩ := ho.ifInv
  exact op_mulG pins s σ H x y v u Q I rx ry ⟨_, _, va.int_inv, vb.int_inv, ⟨hl.1.f, hl.2.f⟩, ho.hereV sr vr_int⟩
noncomputable def opFdiv : AV -> AV -> S -> R AV
  | .int i, .int j, s => if j ≠ 0 /\ Mid j then .ok (.int (i.fdiv j)) s else .bad
  | _, _, _ => .bad
theorem oFdiv : OpR X (binaryOp .FloorDiv) (r2M T XE opFdiv) := by
  intro pins s σ H x y v u Q I rx ry ⟨ρ, a, b, st, sr, va, vb, ho⟩
  cases a <;> cases b <;> try exact ho.elim
  obtain ⟨hl, ho⟩ := ho.ifInv
  exact op_fdivG pins s σ H x y v u Q I rx ry ⟨_, _, va.int_inv, vb.int_inv, ⟨hl.1, hl.2.f⟩, ho.hereV sr vr_int⟩
def opMod : AV -> AV -> S -> R AV
  | .int i, .int j, s => if j ≠ 0 then .ok (.int (i.fmod j)) s else .bad
  | _, _, _ => .bad
theorem oMod : OpR X (binaryOp .Mod) (r2M T XE opMod) := by
  intro pins s σ H x y v u Q I rx ry ⟨ρ, a, b, st, sr, va, vb, ho⟩
  cases a <;> cases b <;> try exact ho.elim
  obtain ⟨hl, ho⟩ := ho.ifInv
  exact op_modN pins s σ H x y v u Q I rx ry ⟨_, _, va.int_inv, vb.int_inv, hl, ho.hereV sr vr_int⟩
instance {i j : Int} : Decidable (CPow i j) := inferInstanceAs (Decidable (0 <= j /\ j <= 1000000 /\ i.natAbs < 2 ^ 64))
def opPow : AV -> AV -> S -> R AV
  | .int i, .int j, s => if CPow i j then .ok (.int (i ^ j.toNat)) s else .bad
  | _, _, _ => .bad
theorem oPow : OpR X (binaryOp .Pow) (r2M T XE opPow) := by
  intro pins s σ H x y v u Q I rx ry ⟨ρ, a, b, st, sr, va, vb, ho⟩
  cases a <;> cases b <;> try exact ho.elim
  obtain ⟨hl, ho⟩ := ho.ifInv
  exact op_pow pins s σ H x y v u Q I rx ry ⟨_, _, va.int_inv, vb.int_inv, hl, ho.hereV sr vr_int⟩
def opNeg : AV -> S -> R AV
  | .int i, s => .ok (.int (-i)) s
  | _, _ => .bad
theorem oNeg : UnR X (unaryOp .USub) (r1M T XE opNeg) := by
  intro pins s σ H x v Q I rx ⟨ρ, a, st, sr, va, ho⟩
  cases a <;> try exact ho.elim
  exact un_neg pins s σ H x v Q I rx ⟨_, va.int_inv, ho.hereV sr vr_int⟩
def opLt : AV -> AV -> S -> R AV
  | .int i, .int j, s => .ok (.bl (decide (i < j))) s
  | .str i, .str j, s => .ok (.bl (decide (i.cps.toList < j.cps.toList))) s
  | _, _, _ => .bad
theorem oLt : OpR X (compareOp .Lt) (r2M T XE opLt) := by
  intro pins s σ H x y v u Q I rx ry ⟨ρ, a, b, st, sr, va, vb, ho⟩
  cases a <;> cases b <;> try exact ho.elim
  · exact op_lt pins s σ H x y v u Q I rx ry ⟨_, _, va.int_inv, vb.int_inv, ho.hereV sr vr_bl⟩
  · exact op_lt_str pins s σ H x y v u Q I rx ry ⟨_, _, va.str_inv, vb.str_inv, ho.hereV sr vr_bl⟩
def opLe : AV -> AV -> S -> R AV
  | .int i, .int j, s => .ok (.bl (decide (i <= j))) s
  | _, _, _ => .bad
def opGt : AV -> AV -> S -> R AV
  | .int i, .int j, s => .ok (.bl (decide (j < i))) s
  | _, _, _ => .bad
theorem oGt : OpR X (compareOp .Gt) (r2M T XE opGt) := by
  intro pins s σ H x y v u Q I rx ry ⟨ρ, a, b, st, sr, va, vb, ho⟩
  cases a <;> cases b <;> try exact ho.elim
  exact op_gt pins s σ H x y v u Q I rx ry ⟨_, _, va.int_inv, vb.int_inv, ho.hereV sr vr_bl⟩
def opGe : AV -> AV -> S -> R AV
  | .int i, .int j, s => .ok (.bl (decide (j <= i))) s
  | _, _, _ => .bad
theorem oGe : OpR X (compareOp .GtE) (r2M T XE opGe) := by
  intro pins s σ H x y v u Q I rx ry ⟨ρ, a, b, st, sr, va, vb, ho⟩
  cases a <;> cases b <;> try exact ho.elim
  exact op_ge pins s σ H x y v u Q I rx ry ⟨_, _, va.int_inv, vb.int_inv, ho.hereV sr vr_bl⟩
def toD : Nat -> S -> AV -> Option Dt
  | _, _, .non => some .non
  | _, _, .bl b => some (.bl b)
  | _, _, .int b => some (.int b)
  | _, _, .str b => some (.str b)
  | n + 1, s, .tup xs => (xs.mapM (toD n s)).map .tup
  | n + 1, s, .sq xs => (xs.mapM (toD n s)).map .lst
  | n + 1, s, .ref i => (lstO s i).bind fun xs => (xs.mapM (toD n s)).map .lst
  | _, _, _ => none
theorem mapM_cons' {α β : Type} {f : α -> Option β} {a : α} {l : List α} {r : List β} (h : (a :: l).mapM f = some r) : ∃ b q, f a = some b /\ l.mapM f = some q /\ r = b :: q := by
  rw [List.mapM_cons] at h
  cases e1 : f a with
  | none => rw [e1] at h; cases h
  | some b =>
    cases e2 : l.mapM f with
    | none => rw [e1, e2] at h; cases h
    | some q => rw [e1, e2] at h; cases h; exact ⟨b, q, rfl, rfl, rfl⟩
theorem reps_of {ρ : List Addr} {H : Hp} {f : AV -> Option Dt} (hf : ∀ v d x, f v = some d -> VR T ρ H v x -> Rep T.K (fun _ => False) H d x) : ∀ {xs : List AV} {l : List Dt} {vs : List V}, xs.mapM f = some l -> VRs T ρ H xs vs -> RepL T.K (fun _ => False) H l vs
  | [], l, vs, h, k => by
    rw [List.mapM_nil] at h
    cases h
    unfold RepL
    exact k.nil_inv
  | a :: r, l, vs, h, k => by
    obtain ⟨b, q, h1, h2, rfl⟩ := mapM_cons' h
    obtain ⟨x, ys, rfl, k1, k2⟩ := k.cons_inv
    unfold RepL
    exact ⟨x, ys, rfl, hf a b x h1 k1, reps_of hf h2 k2⟩
theorem rep_of {ρ : List Addr} {H : Hp} {s : S} (sr : SR T ρ s H) : ∀ (n : Nat) (v : AV) (d : Dt) (x : V), toD n s v = some d -> VR T ρ H v x -> Rep T.K (fun _ => False) H d x
  | n, .non, d, x, h, k => by
    have h : some Dt.non = some d := by cases n <;> exact h
    cases h; unfold Rep; exact k.non_inv
  | n, .bl b, d, x, h, k => by
    have h : some (Dt.bl b) = some d := by cases n <;> exact h
    cases h; unfold Rep; exact k.bl_inv
  | n, .int b, d, x, h, k => by
    have h : some (Dt.int b) = some d := by cases n <;> exact h
    cases h; unfold Rep; exact k.int_inv
  | n, .str b, d, x, h, k => by
    have h : some (Dt.str b) = some d := by cases n <;> exact h
    cases h; unfold Rep; exact k.str_inv
  | 0, .tup xs, d, x, h, k => by cases h
  | 0, .sq xs, d, x, h, k => by cases h
  | 0, .ref xs, d, x, h, k => by cases h
  | n + 1, .tup xs, d, x, h, k => by
    have h : (xs.mapM (toD n s)).map Dt.tup = some d := h
    obtain ⟨a, vs, rfl, h1, k1⟩ := k.tup_inv
    cases e : xs.mapM (toD n s) with
    | none => rw [e] at h; cases h
    | some l =>
      rw [e] at h; cases h
      unfold Rep
      exact ⟨a, vs, rfl, fun z => z, h1, reps_of (fun v d x => rep_of sr n v d x) e k1⟩
  | n + 1, .sq xs, d, x, h, k => by
    have h : (xs.mapM (toD n s)).map Dt.lst = some d := h
    obtain ⟨a, vs, rfl, h1, k1⟩ := k.sq_inv
    cases e : xs.mapM (toD n s) with
    | none => rw [e] at h; cases h
    | some l =>
      rw [e] at h; cases h
      unfold Rep
      exact ⟨a, vs, rfl, fun z => z, h1.sqL, reps_of (fun v d x => rep_of sr n v d x) e k1⟩
  | n + 1, .ref i, d, x, h, k => by
    have h : (lstO s i).bind (fun xs => (xs.mapM (toD n s)).map Dt.lst) = some d := h
    cases e0 : lstO s i with
    | none => rw [e0] at h; cases h
    | some xs =>
      rw [e0] at h
      have h : (xs.mapM (toD n s)).map Dt.lst = some d := h
      obtain ⟨a, vs, rfl, _, h1, k1⟩ := sr.lstAt (lstO_inv e0) k
      cases e : xs.mapM (toD n s) with
      | none => rw [e] at h; cases h
      | some l =>
        rw [e] at h; cases h
        unfold Rep
        exact ⟨a, vs, rfl, fun z => z, SqL.of h1, reps_of (fun v d x => rep_of sr n v d x) e k1⟩
def eqAV (s : S) : AV -> AV -> Option Bool
  | .non, .non => some true
  | .non, .int _ => some false | .int _, .non => some false | .non, .bl _ => some false | .bl _, .non => some false | .non, .str _ => some false | .str _, .non => some false
  | .int i, .int j => some (decide (i = j))
  | .bl i, .bl j => some (decide (i = j))
  | .str i, .str j => some (decide (i = j))
  | .int _, .str _ => some false | .str _, .int _ => some false | .bl _, .str _ => some false | .str _, .bl _ => some false
  | v, w => match toD 20 s v, toD 20 s w with
    | some (.tup l), some (.tup q) => if depL l <= 20 then some (eqDL l q) else none
    | some (.lst l), some (.lst q) => if depL l <= 20 then some (eqDL l q) else none
    | _, _ => none
def opEq (v w : AV) (s : S) : R AV := need (eqAV s v w) fun b => .ok (.bl b) s
def opNe (v w : AV) (s : S) : R AV := need (eqAV s v w) fun b => .ok (.bl (!b)) s
def EqRest (s : S) (v w : AV) (b : Bool) : Prop := ∃ (c : Bool) (l q : List Dt), toD 20 s v = some (if c then .tup l else .lst l) /\ toD 20 s w = some (if c then .tup q else .lst q) /\ depL l <= 20 /\ b = eqDL l q
theorem eqRest_of {s : S} {v w : AV} {b : Bool} (h : (match toD 20 s v, toD 20 s w with
    | some (.tup l), some (.tup q) => if depL l <= 20 then some (eqDL l q) else none
    | some (.lst l), some (.lst q) => if depL l <= 20 then some (eqDL l q) else none
    | _, _ => none) = some b) : EqRest s v w b := by
  split at h
  · rename_i l q e1 e2
    split at h
    · rename_i hd
      cases h
      exact ⟨true, l, q, e1, e2, hd, rfl⟩
    · cases h
  · rename_i l q e1 e2
    split at h
    · rename_i hd
      cases h
      exact ⟨false, l, q, e1, e2, hd, rfl⟩
    · cases h
  · cases h
theorem eqAV_inv {ρ : List Addr} {H : Hp} {s : S} {v w : AV} {b : Bool} {x y : V} (h : eqAV s v w = some b) (va : VR T ρ H v x) (vb : VR T ρ H w y) : (scal x y = true /\ decide (x = y) = b) ∨ EqRest s v w b := by
  cases v <;> cases w <;> first
    | exact .inr (eqRest_of h)
    | (refine .inl ?_
       have h : some _ = some b := h
       cases h
       first
         | cases va.non_inv | cases va.int_inv | cases va.bl_inv | cases va.str_inv
       first
         | cases vb.non_inv | cases vb.int_inv | cases vb.bl_inv | cases vb.str_inv
       refine ⟨rfl, ?_⟩
       first
         | rfl
         | simp)
theorem oEq (hK : X.K = T.K) (hu : X.A.units + 30 < cLine) : OpR X (compareOp .Eq) (r2M T XE opEq) := by
  intro pins s σ H x y v u Q I rx ry ⟨ρ, a, b, st, sr, va, vb, ho⟩
  obtain ⟨c, e, ho⟩ := ho.needInv
  rcases eqAV_inv e va vb with ⟨h1, h2⟩ | ⟨t, l, q, e1, e2, hd, rfl⟩
  · exact op_eq pins s σ H x y v u Q I rx ry ⟨h1, by rw [h2]; exact ho.hereV sr vr_bl⟩
  · refine op_eqD hu pins s σ H x y v u Q I rx ry ⟨fun _ => False, fun _ => False, l, q, t, ⟨?_, ?_⟩, hd, ho.hereV sr vr_bl⟩
    · exact hK ▸ rep_of sr 20 _ _ _ e1 va
    · exact hK ▸ rep_of sr 20 _ _ _ e2 vb
theorem oNe (hK : X.K = T.K) (hu : X.A.units + 30 < cLine) : OpR X (compareOp .NotEq) (r2M T XE opNe) := by
  intro pins s σ H x y v u Q I rx ry ⟨ρ, a, b, st, sr, va, vb, ho⟩
  obtain ⟨c, e, ho⟩ := ho.needInv
  rcases eqAV_inv e va vb with ⟨h1, h2⟩ | ⟨t, l, q, e1, e2, hd, rfl⟩
  · exact op_ne pins s σ H x y v u Q I rx ry ⟨h1, by rw [h2]; exact ho.hereV sr vr_bl⟩
  · refine op_neD hu pins s σ H x y v u Q I rx ry ⟨fun _ => False, fun _ => False, l, q, t, ⟨?_, ?_⟩, hd, ho.hereV sr vr_bl⟩
    · exact hK ▸ rep_of sr 20 _ _ _ e1 va
    · exact hK ▸ rep_of sr 20 _ _ _ e2 vb
def isNon : AV -> Bool
  | .non => true
  | _ => false
def opIsN : AV -> AV -> S -> R AV
  | v, .non, s => .ok (.bl (isNon v)) s
  | _, _, _ => .bad
def opIsntN : AV -> AV -> S -> R AV
  | v, .non, s => .ok (.bl (!isNon v)) s
  | .bl a, .bl b, s => .ok (.bl (a != b)) s
  | _, _, _ => .bad
theorem isNon_eq {ρ : List Addr} {H : Hp} {v : AV} {x : V} (h : VR T ρ H v x) : decide (x = .non) = isNon v := by
  cases v
  · cases h.non_inv; rfl
  · cases h.bl_inv; rfl
  · cases h.int_inv; rfl
  · cases h.str_inv; rfl
  · obtain ⟨_, _, rfl, _⟩ := h.tup_inv; rfl
  · obtain ⟨_, _, rfl⟩ := h.ref_inv; rfl
  · obtain ⟨_, _, rfl, _⟩ := h.sq_inv; rfl
theorem oIsN : OpR X (compareOp .Is) (r2M T XE opIsN) := by
  intro pins s σ H x y v u Q I rx ry ⟨ρ, a, b, st, sr, va, vb, ho⟩
  cases b <;> try (cases a <;> exact ho.elim)
  exact op_isN pins s σ H x y v u Q I rx ry ⟨vb.non_inv, by rw [isNon_eq va]; cases a <;> exact ho.hereV sr vr_bl⟩
theorem oIsntN : OpR X (compareOp .IsNot) (r2M T XE opIsntN) := by
  intro pins s σ H x y v u Q I rx ry ⟨ρ, a, b, st, sr, va, vb, ho⟩
  cases b
  · exact op_notN pins s σ H x y v u Q I rx ry ⟨vb.non_inv, by rw [isNon_eq va]; cases a <;> exact ho.hereV sr vr_bl⟩
  · cases a <;> try exact ho.elim
    exact op_isnotB pins s σ H x y v u Q I rx ry ⟨_, _, va.bl_inv, vb.bl_inv, ho.hereV sr vr_bl⟩
  all_goals (cases a <;> exact ho.elim)
end
end Mm
namespace Mm
open PySem L2
section
variable {T : Tx} {XE : XEt} {X : Cx} {pos : Pos}
def pNil : Evs := fun _ s => .ok [] s
def pCons (a : Ev) (r : Evs) : Evs := fun env s => (a env s).bind fun v s1 => (r env s1).bind fun vs s2 => .ok (v :: vs) s2
theorem pa_nil' : PA X [] (tP T XE pNil) := PA.imp pa_nil fun σ H Q ⟨ρ, env, s, hs, he, ho⟩ => ho.here (x := []) hs (VRs.nil (T := T) (ρ := ρ) (H := H))
theorem pa_cons' {e : Expr} {es : List Expr} {m : Ev} {r : Evs} (ha : PE X e (tE T XE m)) (hr : PA X es (tP T XE r)) (hs : starEach (e :: es) X.env = (false, eval e X.env) :: starEach es X.env := by rfl) : PA X (e :: es) (tP T XE (pCons m r)) :=
  PA.imp (pa_cons ha hr hs) fun σ H Q ⟨ρ, env, s, hs, he, ho⟩ =>
    step hs he ho fun v s1 ρ1 H1 x _ u1 sr1 er1 vr1 ho1 => step sr1 er1 ho1 fun w s2 ρ2 H2 y _ u2 sr2 er2 vr2 ho2 => ho2.here sr2 (VRs.cons (VR.up u2 vr1) vr2)
def mTup (r : Evs) : Ev := fun env s => (r env s).bind fun vs s1 => if vs.length <= sizeLine then .ok (.tup vs) s1 else .bad
theorem me_tup {es : List Expr} {k : Nat} {r : Evs} (h : PA X es (tP T XE r)) : PE X (.Tuple es k pos) (tE T XE (mTup r)) :=
  PE.imp (pe_tup h) fun σ H Q ⟨ρ, env, s, hs, he, ho⟩ => step hs he ho fun v s1 ρ1 H1 x _ u1 sr1 er1 vr1 ho1 => by
    obtain ⟨hl, ho1⟩ := ho1.ifInv
    have vr1 : VRs T ρ1 H1 v x := vr1
    exact ⟨by rw [← vr1.length]; exact hl, fun p hp => ho1.tup sr1 hp vr1⟩
def lLst (r : Evs) : Evs := fun env s => (r env s).bind fun vs s1 => if vs.length <= sizeLine then .ok vs s1 else .bad
theorem ml_lst {es : List Expr} {r : Evs} (h : PA X es (tP T XE r)) : PE X (.List es pos) (tL T XE (lLst r)) :=
  PE.imp (pe_lst h) fun σ H Q ⟨ρ, env, s, hs, he, ho⟩ => step hs he ho fun v s1 ρ1 H1 x _ u1 sr1 er1 vr1 ho1 => by
    obtain ⟨hl, ho1⟩ := ho1.ifInv
    have vr1 : VRs T ρ1 H1 v x := vr1
    exact ⟨by rw [← vr1.length]; exact hl, fun p hp => ho1.lst sr1 hp vr1⟩
def mNew (r : Evs) : Ev := fun env s => (r env s).bind fun vs s1 => .ok (.ref s1.length) (s1 ++ [.lst vs])
theorem me_new {e : Expr} {r : Evs} (h : PE X e (tL T XE r)) : PE X e (tE T XE (mNew r)) :=
  PE.imp h fun σ H Q ⟨ρ, env, s, hs, he, ho⟩ => by
    refine ⟨ρ, env, s, hs, he, ?_⟩
    unfold mNew at ho
    cases e : r env s with
    | bad => rw [e] at ho; exact ho
    | ex c s1 => rw [e] at ho; exact ho
    | ok vs s1 =>
      rw [e] at ho
      intro ρ1 H1 x u sr ⟨a, ws, e1, h0, h1, h2, k⟩
      subst e1
      have g : Gr ρ1 H1 (ρ1 ++ [a]) H1 := ⟨List.prefix_append _ _, fun _ _ z => z, fun _ _ _ z => z⟩
      refine ho (ρ1 ++ [a]) H1 (.ref a) (u.add h0) (sr.add h1 (OR.lst h2 (k.gr g))) (vr_ref (T := T) (H := H1) ?_)
      rw [List.getElem?_append_right (by rw [sr.len]; exact Nat.le_refl _), sr.len, Nat.sub_self]; rfl
theorem mq_new {e : Expr} {r : Evs} (h : PE X e (tL T XE r)) : PE X e (tQ T XE r) :=
  PE.imp h fun σ H Q ⟨ρ, env, s, hs, he, ho⟩ => by
    refine ⟨ρ, env, s, hs, he, ?_⟩
    cases e : r env s with
    | bad => rw [e] at ho; exact ho
    | ex c s1 => rw [e] at ho; exact ho
    | ok vs s1 =>
      rw [e] at ho
      intro ρ1 H1 x u sr ⟨a, ws, e1, h0, h1, h2, k⟩
      exact ho ρ1 H1 x u sr ⟨a, ws, e1, .inl (SqL.of h2), k⟩
def items (v : AV) (s : S) : Option (List AV) := match v with
  | .tup xs => some xs
  | .sq xs => some xs
  | .ref i => lstO s i
  | _ => none
theorem items_inv {ρ : List Addr} {H : Hp} {s : S} {v : AV} {xs : List AV} {x : V} (h : items v s = some xs) (sr : SR T ρ s H) (va : VR T ρ H v x) : ∃ a vs, x = .ref a /\ (SqL T.K H a vs ∨ SqT T.K H a vs) /\ VRs T ρ H xs vs := by
  cases v <;> try cases h
  · obtain ⟨a, vs, rfl, h1, k⟩ := va.tup_inv
    exact ⟨a, vs, rfl, .inr h1, k⟩
  · obtain ⟨a, vs, rfl, _, h1, k⟩ := sr.lstAt (lstO_inv h) va
    exact ⟨a, vs, rfl, .inl (SqL.of h1), k⟩
  · obtain ⟨a, vs, rfl, h1, k⟩ := va.sq_inv
    exact ⟨a, vs, rfl, .inl h1.sqL, k⟩
def lIts (m : Ev) : Evs := fun env s => (m env s).bind fun v s1 => need (items v s1) fun xs => .ok xs s1
theorem mq_its {e : Expr} {m : Ev} (h : PE X e (tE T XE m)) : PE X e (tQ T XE (lIts m)) :=
  PE.imp h fun σ H Q ⟨ρ, env, s, hs, he, ho⟩ => step hs he ho fun v s1 ρ1 H1 x _ u1 sr1 er1 vr1 ho1 => by
    obtain ⟨xs, e, ho1⟩ := ho1.needInv
    exact ho1 ρ1 H1 x .refl sr1 (items_inv e sr1 vr1)
mutual
def AV.low (b : Nat) : AV -> Bool
  | .ref i => decide (i < b)
  | .tup xs => lowL b xs
  | .sq xs => lowL b xs
  | _ => true
def lowL (b : Nat) : List AV -> Bool
  | [] => true
  | v :: r => v.low b && lowL b r
end
mutual
theorem VR.cut {ρ ρ' : List Addr} {H : Hp} {b : Nat} (e : ρ'.take b = ρ) : ∀ {v : AV} {x : V}, v.low b = true -> VR T ρ' H v x -> VR T ρ H v x
  | .non, _, _, h => by unfold VR at *; exact h
  | .bl _, _, _, h => by unfold VR at *; exact h
  | .int _, _, _, h => by unfold VR at *; exact h
  | .str _, _, _, h => by unfold VR at *; exact h
  | .ref i, _, k, h => by
    obtain ⟨a, e1, rfl⟩ := h.ref_inv
    unfold AV.low at k
    exact vr_ref (by rw [← e, List.getElem?_take_of_lt (of_decide_eq_true k)]; exact e1)
  | .tup xs, _, k, h => by
    obtain ⟨a, vs, rfl, h1, h2⟩ := h.tup_inv
    unfold AV.low at k
    exact vr_tup h1 (VRs.cut e k h2)
  | .sq xs, _, k, h => by
    obtain ⟨a, vs, rfl, h1, h2⟩ := h.sq_inv
    unfold AV.low at k
    unfold VR
    exact ⟨a, vs, rfl, h1, VRs.cut e k h2⟩
theorem VRs.cut {ρ ρ' : List Addr} {H : Hp} {b : Nat} (e : ρ'.take b = ρ) : ∀ {v : List AV} {x : List V}, lowL b v = true -> VRs T ρ' H v x -> VRs T ρ H v x
  | [], _, _, h => by cases h.nil_inv; exact .nil
  | _ :: _, _, k, h => by
    obtain ⟨x, ys, rfl, h1, h2⟩ := h.cons_inv
    unfold lowL at k
    rw [Bool.and_eq_true] at k
    exact .cons (VR.cut e k.1 h1) (VRs.cut e k.2 h2)
end
mutual
theorem VR.low {ρ : List Addr} {H : Hp} : ∀ {v : AV} {x : V}, VR T ρ H v x -> v.low ρ.length = true
  | .non, _, _ => by unfold AV.low; rfl
  | .bl _, _, _ => by unfold AV.low; rfl
  | .int _, _, _ => by unfold AV.low; rfl
  | .str _, _, _ => by unfold AV.low; rfl
  | .ref i, _, h => by
    obtain ⟨a, e1, rfl⟩ := h.ref_inv
    unfold AV.low
    exact decide_eq_true (List.getElem?_eq_some_iff.mp e1).1
  | .tup xs, _, h => by
    obtain ⟨a, vs, rfl, h1, h2⟩ := h.tup_inv
    unfold AV.low
    exact VRs.low h2
  | .sq xs, _, h => by
    obtain ⟨a, vs, rfl, h1, h2⟩ := h.sq_inv
    unfold AV.low
    exact VRs.low h2
theorem VRs.low {ρ : List Addr} {H : Hp} : ∀ {v : List AV} {x : List V}, VRs T ρ H v x -> lowL ρ.length v = true
  | [], _, _ => by unfold lowL; rfl
  | _ :: _, _, h => by
    obtain ⟨x, ys, rfl, h1, h2⟩ := h.cons_inv
    unfold lowL
    rw [VR.low h1, VRs.low h2]; rfl
end
def AO.low (b : Nat) : AO -> Bool
  | .lst xs => lowL b xs
  | .dK kvs => lowL b (kvs.map (·.2))
  | .dT kvs => lowL b (kvs.map (·.2))
  | .ins _ fs => lowL b (fs.map (·.2))
  | .exc _ => true
  | .tab _ _ => true
theorem OR.low {ρ : List Addr} {H : Hp} {o : AO} {a : Addr} (h : OR T ρ H o a) : o.low ρ.length = true := by
  cases o with
  | lst xs => obtain ⟨_, _, k⟩ := h; exact k.low
  | dK xs => obtain ⟨_, _, _, k⟩ := h; exact k.low
  | dT xs => obtain ⟨_, _, _, k⟩ := h; exact k.low
  | ins C xs => obtain ⟨_, _, _, _, k⟩ := h; exact k.low
  | exc C => rfl
  | tab i q => rfl
theorem OR.cut {ρ ρ' : List Addr} {H : Hp} {b : Nat} (e : ρ'.take b = ρ) {o : AO} {a : Addr} (k : o.low b = true) (h : OR T ρ' H o a) : OR T ρ H o a := by
  cases o with
  | lst xs => obtain ⟨vs, h1, h2⟩ := h; exact ⟨vs, h1, VRs.cut e k h2⟩
  | dK xs => obtain ⟨vs, h1, q, h2⟩ := h; exact ⟨vs, h1, q, VRs.cut e k h2⟩
  | dT xs => obtain ⟨vs, h1, q, h2⟩ := h; exact ⟨vs, h1, q, VRs.cut e k h2⟩
  | ins C xs => obtain ⟨dx, vs, h1, q, h2⟩ := h; exact ⟨dx, vs, h1, q, VRs.cut e k h2⟩
  | exc C => exact h
  | tab i q => exact h
theorem SR.closed {ρ : List Addr} {H : Hp} {s : S} (sr : SR T ρ s H) : s.all (AO.low s.length) = true := by
  rw [List.all_eq_true]
  intro o ho
  obtain ⟨i, hi, e⟩ := List.getElem_of_mem ho
  obtain ⟨a, _, q⟩ := sr.obj i o (by rw [List.getElem?_eq_getElem hi, e])
  rw [← sr.len]
  exact q.low
theorem SR.cut {ρ ρ' : List Addr} {H : Hp} {s' : S} {b : Nat} (sr : SR T ρ' s' H) (hl : ρ <+: ρ') (hb : ρ.length = b) (k : (s'.take b).all (AO.low b) = true) : SR T ρ (s'.take b) H := by
  have e : ρ'.take b = ρ := by obtain ⟨t, rfl⟩ := hl; rw [← hb, List.take_left']; rfl
  have hle : b <= s'.length := by rw [← hb, ← sr.len]; exact hl.length_le
  refine ⟨?_, by rw [List.length_take, Nat.min_eq_left hle]; exact hb, fun i o ei => ?_⟩
  · rw [← e]; exact sr.nd.sublist (List.take_sublist _ _)
  · have hi : i < b := by have := (List.getElem?_eq_some_iff.mp ei).1; rw [List.length_take] at this; omega
    have ei' := ei
    rw [List.getElem?_take_of_lt hi] at ei
    obtain ⟨a, e1, q⟩ := sr.obj i o ei
    refine ⟨a, by rw [← e, List.getElem?_take_of_lt hi]; exact e1, q.cut e ?_⟩
    exact List.all_eq_true.mp k o (List.mem_of_getElem? ei')
theorem Up.cut {ρ ρ' : List Addr} {H H' : Hp} (u : Up ρ H ρ' H') : Up ρ H ρ H' := ⟨⟨List.prefix_rfl, u.tups, u.frzs⟩, fun b o e n => ⟨(u.fr b o e n).1, n⟩, u.live⟩
noncomputable def gcE (m : Ev) : Ev := fun env s => (m env s).bind fun v s1 => open Classical in if s1.take s.length = s /\ v.low s.length = true then .ok v s else .bad
theorem me_gc {e : Expr} {m : Ev} (h : PE X e (tE T XE m)) : PE X e (tE T XE (gcE m)) :=
  PE.imp h fun σ H Q ⟨ρ, env, s, hs, he, ho⟩ => by
    refine ⟨ρ, env, s, hs, he, ?_⟩
    unfold gcE at ho
    cases e : m env s with
    | bad => rw [e] at ho; exact ho
    | ex c s1 => rw [e] at ho; exact ho
    | ok v s1 =>
      rw [e] at ho
      obtain ⟨⟨e1, e2⟩, ho⟩ := ho.ifInv
      intro ρ1 H1 x u sr vr
      have hc := hs.closed
      have et : ρ1.take s.length = ρ := by obtain ⟨t, rfl⟩ := u.pre; rw [← hs.len, List.take_left']; rfl
      refine ho ρ H1 x u.cut ?_ (VR.cut et e2 vr)
      have := sr.cut u.pre hs.len (by rw [e1]; exact hc)
      rw [e1] at this
      exact this
def gcM (m : Ev) : Ev := fun env s => (m env s).bind fun v s1 => if (s1.take s.length).all (AO.low s.length) = true /\ v.low s.length = true then .ok v (s1.take s.length) else .bad
theorem me_gcM {e : Expr} {m : Ev} (h : PE X e (tE T XE m)) : PE X e (tE T XE (gcM m)) :=
  PE.imp h fun σ H Q ⟨ρ, env, s, hs, he, ho⟩ => by
    refine ⟨ρ, env, s, hs, he, ?_⟩
    unfold gcM at ho
    cases e : m env s with
    | bad => rw [e] at ho; exact ho
    | ex c s1 => rw [e] at ho; exact ho
    | ok v s1 =>
      rw [e] at ho
      obtain ⟨⟨e1, e2⟩, ho⟩ := ho.ifInv
      intro ρ1 H1 x u sr vr
      have et : ρ1.take s.length = ρ := by obtain ⟨t, rfl⟩ := u.pre; rw [← hs.len, List.take_left']; rfl
      exact ho ρ H1 x u.cut (sr.cut u.pre hs.len e1) (VR.cut et e2 vr)
def lTake (m : Ev) : Evs := fun env s => (m env s).bind fun v s1 => match v with
  | .ref k => need (lstO s1 k) fun xs => if s.length <= k /\ (s1.take s.length).all (AO.low s.length) = true /\ lowL s.length xs = true then .ok xs (s1.take s.length) else .bad
  | _ => .bad
theorem ml_take {e : Expr} {m : Ev} (h : PE X e (tE T XE m)) : PE X e (tL T XE (lTake m)) :=
  PE.imp h fun σ H Q ⟨ρ, env, s, hs, he, ho⟩ => by
    refine ⟨ρ, env, s, hs, he, ?_⟩
    unfold lTake at ho
    cases e : m env s with
    | bad => rw [e] at ho; exact ho
    | ex c s1 => rw [e] at ho; exact ho
    | ok v s1 =>
      rw [e] at ho
      cases v with
      | ref k =>
        obtain ⟨xs, e0, ho⟩ := ho.needInv
        obtain ⟨⟨hk, e1, e2⟩, ho⟩ := ho.ifInv
        intro ρ1 H1 x u sr vr
        obtain ⟨a, vs, rfl, ea, h1, k1⟩ := sr.lstAt (lstO_inv e0) vr
        have et : ρ1.take s.length = ρ := by obtain ⟨t, rfl⟩ := u.pre; rw [← hs.len, List.take_left']; rfl
        have na : a ∉ ρ := fun z => by
          obtain ⟨j, hj, ej⟩ := List.getElem_of_mem z
          have e3 : ρ1[j]? = some a := pre_get u.pre (by rw [List.getElem?_eq_getElem hj, ej])
          have h3 := List.getElem?_eq_some_iff.mp ea
          have h4 := List.getElem?_eq_some_iff.mp e3
          have : k = j := (List.getElem_inj sr.nd).mp (h3.2.trans h4.2.symm)
          rw [hs.len] at hj
          omega
        refine ho ρ H1 (.ref a) u.cut (sr.cut u.pre hs.len e1) ⟨a, vs, rfl, ?_, na, h1, VRs.cut et e2 k1⟩
        cases eH : H a with
        | none => rfl
        | some o => exact absurd (List.mem_of_getElem? ea) (u.fr a o eH na).2
      | non => exact ho.elim
      | bl b => exact ho.elim
      | int b => exact ho.elim
      | str b => exact ho.elim
      | tup b => exact ho.elim
      | sq b => exact ho.elim
end
end Mm
namespace Mm
open PySem L2
section
variable {T : Tx} {XE : XEt} {X : Cx} {pos : Pos}
theorem hereB {ρ : List Addr} {H : Hp} {b : Bool} {s : S} {Q : Bool -> Hp -> Prop} (h : Out T XE rB ρ H (.ok b s) Q) (sr : SR T ρ s H) : Q b H := h ρ H b .refl sr rfl
def truth (v : AV) (s : S) : Option Bool := match v with
  | .non => some false
  | .bl b => some b
  | .int i => some (i != 0)
  | .str x => if x.length <= sizeLine then some ((x.length : Int) != 0) else none
  | .tup xs => some (!xs.isEmpty)
  | .sq xs => some (!xs.isEmpty)
  | .ref i => match s[i]? with
    | some (.lst xs) => some (!xs.isEmpty)
    | some (.dK xs) => some (!xs.isEmpty)
    | _ => none
theorem VRs.emp {ρ : List Addr} {H : Hp} {l : List AV} {xs : List V} (h : VRs T ρ H l xs) : l.isEmpty = xs.isEmpty := by
  cases l with
  | nil => cases h.nil_inv; rfl
  | cons a r => obtain ⟨x, ys, rfl, _⟩ := h.cons_inv; rfl
theorem truth_inv {ρ : List Addr} {H : Hp} {s : S} {v : AV} {b : Bool} {x : V} (h : truth v s = some b) (sr : SR T ρ s H) (va : VR T ρ H v x) : TruV T.K x H b := by
  cases v with
  | non => cases va.non_inv; cases h; rfl
  | bl c => cases va.bl_inv; cases h; rfl
  | int c => cases va.int_inv; cases h; rfl
  | str c =>
    cases va.str_inv
    have h : (if c.length <= sizeLine then some ((c.length : Int) != 0) else none) = some b := h
    split at h
    · cases h; exact ⟨by assumption, rfl⟩
    · cases h
  | tup c =>
    obtain ⟨a, vs, rfl, h1, k⟩ := va.tup_inv
    cases h
    exact .inr (.inl ⟨vs, h1, by rw [k.emp]⟩)
  | sq c =>
    obtain ⟨a, vs, rfl, h1, k⟩ := va.sq_inv
    cases h
    exact .inl ⟨vs, h1.sqL, by rw [k.emp]⟩
  | ref i =>
    have h : (match s[i]? with
      | some (.lst xs) => some (!xs.isEmpty)
      | some (.dK xs) => some (!xs.isEmpty)
      | _ => none) = some b := h
    split at h
    · rename_i xs e
      cases h
      obtain ⟨a, vs, rfl, _, h1, k⟩ := sr.lstAt e va
      exact .inl ⟨vs, SqL.of h1, by rw [k.emp]⟩
    · rename_i xs e
      cases h
      obtain ⟨a, vs, rfl, _, h1, k1, k⟩ := sr.dKAt e va
      refine .inr (.inr ⟨vs, h1, ?_⟩)
      have := congrArg List.length k1
      rw [List.length_map, List.length_map] at this
      cases xs <;> cases vs <;> first | rfl | (simp at this)
    · cases h
def cT (m : Ev) : Eb := fun env s => (m env s).bind fun v s1 => need (truth v s1) fun b => .ok b s1
def cB (m : Ev) : Eb := fun env s => (m env s).bind fun v s1 => match v with
  | .bl b => .ok b s1
  | _ => .bad
theorem pt_t {e : Expr} {m : Ev} (hK : X.K = T.K) (h : PE X e (tE T XE m)) (he : ∀ whole, isTrue e X.env whole = (do let v ← whole; standAt e.pos; holding [v] (truthy v)) := by intro _; rfl) : PT X e (tC' T XE (cT m)) :=
  PT.imp (pt_truth h he) fun σ H Q ⟨ρ, env, s, hs, he, ho⟩ => step hs he ho fun v s1 ρ1 H1 x _ u1 sr1 er1 vr1 ho1 => by
    obtain ⟨b, e, ho1⟩ := ho1.needInv
    exact ⟨b, by rw [hK]; exact truth_inv e sr1 vr1, hereB ho1 sr1⟩
theorem tB_of {m : Ev} {σ : St} {H : Hp} {Q : Bool -> Hp -> Prop} (h : tC' T XE (cB m) σ H Q) : tE T XE m σ H fun x H' => ∃ k, x = .bl k /\ Q k H' := by
  obtain ⟨ρ, env, s, hs, he, ho⟩ := h
  refine step hs he ho fun v s1 ρ1 H1 x _ u1 sr1 er1 vr1 ho1 => ?_
  have vr1 : VR T ρ1 H1 v x := vr1
  cases v <;> try exact ho1.elim
  exact ⟨_, vr1.bl_inv, hereB ho1 sr1⟩
theorem pt_cmp' {o : CmpOp} {op : AV -> AV -> S -> R AV} {a b : Expr} {m1 m2 : Ev} (hop : OpR X (compareOp o) (r2M T XE op)) (ha : PE X a (tE T XE m1)) (hb : PE X b (tE T XE m2)) (hm : behindInMarks o b = false := by rfl) : PT X (.Compare a [o] [b] pos) (tC' T XE (cB (mBin op m1 m2))) :=
  PT.imp (pt_cmpR hop ha hb hm) fun σ H Q h => t2 (tB_of h)
def mChain (op op' : AV -> AV -> S -> R AV) (a b c : Ev) : Ev := fun env s => (a env s).bind fun v s1 => (b env s1).bind fun w s2 => (op v w s2).bind fun r s3 => match r with
  | .bl true => (c env s3).bind fun z s4 => op' w z s4
  | .bl false => .ok (.bl false) s3
  | _ => .bad
theorem t3 {op op' : AV -> AV -> S -> R AV} {a b c : Ev} {σ : St} {H : Hp} {Q : VK} (h : tE T XE (mChain op op' a b c) σ H Q) : tChain (r2M T XE op) (r2M T XE op') (tE T XE a) (tE T XE b) (tE T XE c) σ H Q := by
  obtain ⟨ρ, env, s, hs, he, ho⟩ := h
  refine step hs he ho fun v s1 ρ1 H1 x _ u1 sr1 er1 vr1 ho1 => step sr1 er1 ho1 fun w s2 ρ2 H2 y _ u2 sr2 er2 vr2 ho2 => ⟨ρ2, v, w, s2, sr2, VR.up u2 vr1, vr2, ?_⟩
  cases e : op v w s2 with
  | bad => rw [e] at ho2; exact ho2
  | ex c s3 => rw [e] at ho2; exact ho2
  | ok r s3 =>
    rw [e] at ho2
    intro ρ3 H3 z u3 sr3 vr3
    have vr3 : VR T ρ3 H3 r z := vr3
    have ho2 := Out.up u3 ho2
    cases r <;> try exact ho2.elim
    rename_i k _ _
    refine ⟨k, vr3.bl_inv, ?_⟩
    cases k with
    | false => rw [if_neg (by decide)]; exact ho2.hereV sr3 vr_bl
    | true =>
      rw [if_pos rfl]
      exact step sr3 (er2.up u3) ho2 fun q s4 ρ4 H4 x4 _ u4 sr4 er4 vr4 ho4 => ⟨ρ4, w, q, s4, sr4, VR.up (u3.trans u4) vr2, vr4, ho4⟩
theorem pt_chain' {o o' : CmpOp} {op op' : AV -> AV -> S -> R AV} {a b c : Expr} {m1 m2 m3 : Ev} (hop : OpR X (compareOp o) (r2M T XE op)) (hop' : OpR X (compareOp o') (r2M T XE op')) (ha : PE X a (tE T XE m1)) (hb : PE X b (tE T XE m2)) (hc : PE X c (tE T XE m3))
    (hm : lastMarks [o, o'] [b, c] = false := by with_unfolding_all rfl) : PT X (.Compare a [o, o'] [b, c] pos) (tC' T XE (cB (mChain op op' m1 m2 m3))) := PT.imp (pt_chain hop hop' ha hb hc hm) fun σ H Q h => t3 (tB_of h)
def cAnd (a b : Eb) : Eb := fun env s => (a env s).bind fun c s1 => if c = true then b env s1 else .ok false s1
def cOr (a b : Eb) : Eb := fun env s => (a env s).bind fun c s1 => if c = true then .ok true s1 else b env s1
def cNot (a : Eb) : Eb := fun env s => (a env s).bind fun c s1 => .ok (!c) s1
def mIf (c : Eb) (a b : Ev) : Ev := fun env s => (c env s).bind fun k s1 => if k = true then a env s1 else b env s1
theorem pw_and1' {a : Expr} {m : Eb} (h : PT X a (tC' T XE m)) : PW X (.BoolOp .And [a] pos) (tC' T XE m) := pw_and1 h
theorem pw_or1' {a : Expr} {m : Eb} (h : PT X a (tC' T XE m)) : PW X (.BoolOp .Or [a] pos) (tC' T XE m) := pw_or1 h
theorem pw_and' {a b : Expr} {rest : List Expr} {m r : Eb} (h : PT X a (tC' T XE m)) (k : PW X (.BoolOp .And (b :: rest) pos) (tC' T XE r)) : PW X (.BoolOp .And (a :: b :: rest) pos) (tC' T XE (cAnd m r)) :=
  PW.imp (pw_and h k) fun σ H Q ⟨ρ, env, s, hs, he, ho⟩ => step hs he ho fun v s1 ρ1 H1 x _ u1 sr1 er1 vr1 ho1 => by
    cases (show v = x from vr1)
    cases v with
    | true => exact ⟨ρ1, env, s1, sr1, er1, ho1⟩
    | false => exact hereB ho1 sr1
theorem pw_or' {a b : Expr} {rest : List Expr} {m r : Eb} (h : PT X a (tC' T XE m)) (k : PW X (.BoolOp .Or (b :: rest) pos) (tC' T XE r)) : PW X (.BoolOp .Or (a :: b :: rest) pos) (tC' T XE (cOr m r)) :=
  PW.imp (pw_or h k) fun σ H Q ⟨ρ, env, s, hs, he, ho⟩ => step hs he ho fun v s1 ρ1 H1 x _ u1 sr1 er1 vr1 ho1 => by
    cases (show v = x from vr1)
    cases v with
    | true => exact hereB ho1 sr1
    | false => exact ⟨ρ1, env, s1, sr1, er1, ho1⟩
theorem pt_not' {a : Expr} {m : Eb} (h : PT X a (tC' T XE m)) : PT X (.UnaryOp .Not a pos) (tC' T XE (cNot m)) :=
  PT.imp (pt_not h) fun σ H Q ⟨ρ, env, s, hs, he, ho⟩ => step hs he ho fun v s1 ρ1 H1 x _ u1 sr1 er1 vr1 ho1 => by
    cases (show v = x from vr1)
    exact hereB ho1 sr1
theorem me_if {c a b : Expr} {mc' : Eb} {ma mb : Ev} (hc : PT X c (tC' T XE mc')) (ha : PE X a (tE T XE ma)) (hb : PE X b (tE T XE mb)) : PE X (.IfExp c a b pos) (tE T XE (mIf mc' ma mb)) :=
  PE.imp (pe_ifExp hc ha hb) fun σ H Q ⟨ρ, env, s, hs, he, ho⟩ => step hs he ho fun v s1 ρ1 H1 x _ u1 sr1 er1 vr1 ho1 => by
    cases (show v = x from vr1)
    cases v with
    | true => exact ⟨ρ1, env, s1, sr1, er1, ho1⟩
    | false => exact ⟨ρ1, env, s1, sr1, er1, ho1⟩
def mAnd (a b : Ev) : Ev := fun env s => (a env s).bind fun v s1 => match v with
  | .bl true => b env s1
  | .bl false => .ok (.bl false) s1
  | _ => .bad
def mOr (a b : Ev) : Ev := fun env s => (a env s).bind fun v s1 => match v with
  | .bl true => .ok (.bl true) s1
  | .bl false => b env s1
  | _ => .bad
def opNot : AV -> S -> R AV
  | .bl b, s => .ok (.bl (!b)) s
  | _, _ => .bad
theorem me_and {a b : Expr} {rest : List Expr} {m r : Ev} (h : PE X a (tE T XE m)) (k : PE X (.BoolOp .And (b :: rest) pos) (tE T XE r)) : PE X (.BoolOp .And (a :: b :: rest) pos) (tE T XE (mAnd m r)) :=
  PE.imp (pe_and h k) fun σ H Q ⟨ρ, env, s, hs, he, ho⟩ => step hs he ho fun v s1 ρ1 H1 x _ u1 sr1 er1 vr1 ho1 => by
    have vr1 : VR T ρ1 H1 v x := vr1
    cases v <;> try exact ho1.elim
    rename_i b _ _
    refine ⟨b, vr1.bl_inv, ?_⟩
    cases b with
    | true => exact ⟨ρ1, env, s1, sr1, er1, ho1⟩
    | false => exact ho1.hereV sr1 vr_bl
theorem me_not {a : Expr} {m : Ev} (h : PE X a (tE T XE m)) : PE X (.UnaryOp .Not a pos) (tE T XE (mUn opNot m)) :=
  PE.imp (pe_not h) fun σ H Q ⟨ρ, env, s, hs, he, ho⟩ => step hs he ho fun v s1 ρ1 H1 x _ u1 sr1 er1 vr1 ho1 => by
    have vr1 : VR T ρ1 H1 v x := vr1
    cases v <;> try exact ho1.elim
    exact ⟨_, vr1.bl_inv, ho1.hereV sr1 vr_bl⟩
theorem VRs.atI {ρ : List Addr} {H : Hp} {l : List AV} {xs : List V} {i : Int} {v : AV} (h : VRs T ρ H l xs) (e : atI l i = some v) : ∃ x, L2.atI xs i = some x /\ VR T ρ H v x := by
  unfold L2.atI at *
  rw [← h.length]
  cases e1 : ixN l.length i with
  | none => rw [e1] at e; cases e
  | some j => rw [e1] at e; exact h.get e
def opIx : AV -> AV -> S -> R AV
  | .tup xs, .int i, s => need (atI xs i) fun v => .ok v s
  | .sq xs, .int i, s => need (atI xs i) fun v => .ok v s
  | .ref k, .int i, s => need (lstO s k) fun xs => need (atI xs i) fun v => .ok v s
  | .str z, .int i, s => if z.length <= sizeLine then need (atI z.cps.toList i) fun c => .ok (.str ⟨#[c]⟩) s else .bad
  | _, _, _ => .bad
theorem oIx (hK : X.K = T.K) : IxR X (r2M T XE opIx) := by
  intro value slice pins s σ H x y v u Q I rx ry ⟨ρ, a, b, st, sr, va, vb, ho⟩ hs
  cases a <;> cases b <;> try exact ho.elim
  · obtain ⟨hl, ho⟩ := ho.ifInv
    obtain ⟨c, e, ho⟩ := ho.needInv
    exact ix_str value slice pins s σ H x y v u Q I rx ry ⟨_, _, c, va.str_inv, vb.int_inv, hl, e, ho.hereV sr vr_str⟩ hs
  · obtain ⟨c, e, ho⟩ := ho.needInv
    obtain ⟨p, vs, rfl, h1, k⟩ := va.tup_inv
    obtain ⟨z, e2, k2⟩ := k.atI e
    exact ix_tup value slice pins s σ H _ y v u Q I rx ry ⟨p, vs, _, z, rfl, vb.int_inv, hK ▸ h1, e2, ho.hereV sr k2⟩ hs
  · obtain ⟨xs, e0, ho⟩ := ho.needInv
    obtain ⟨c, e, ho⟩ := ho.needInv
    obtain ⟨p, vs, rfl, _, h1, k⟩ := sr.lstAt (lstO_inv e0) va
    obtain ⟨z, e2, k2⟩ := k.atI e
    exact ix_list value slice pins s σ H _ y v u Q I rx ry ⟨p, vs, _, z, rfl, vb.int_inv, SqL.of h1, e2, ho.hereV sr k2⟩ hs
  · obtain ⟨c, e, ho⟩ := ho.needInv
    obtain ⟨p, vs, rfl, h1, k⟩ := va.sq_inv
    obtain ⟨z, e2, k2⟩ := k.atI e
    exact ix_list value slice pins s σ H _ y v u Q I rx ry ⟨p, vs, _, z, rfl, vb.int_inv, hK ▸ h1.sqL, e2, ho.hereV sr k2⟩ hs
abbrev Eo := En -> S -> R (Option Int)
def rO : Rl (Option Int) (Option Int) := ⟨fun _ _ _ a b => a = b, fun _ h => h⟩
abbrev tO (T : Tx) (XE : XEt) (m : Eo) : TO := tG T XE rO m
def oN : Eo := fun _ s => .ok none s
def oS (m : Ev) : Eo := fun env s => (m env s).bind fun v s1 => match v with
  | .int i => .ok (some i) s1
  | _ => .bad
theorem PO.imp {e : Option Expr} {t t' : TO} (h : PO X e t) (k : ∀ σ H Q, t' σ H Q -> t σ H Q) : PO X e t' := fun pins s σ H Q I hq => h pins s σ H Q I (k σ H Q hq)
theorem po_none' : PO X none (tO T XE oN) := PO.imp po_none fun σ H Q ⟨ρ, env, s, hs, he, ho⟩ => ho ρ H none .refl hs rfl
theorem po_some' {e : Expr} {m : Ev} (h : PE X e (tE T XE m)) : PO X (some e) (tO T XE (oS m)) :=
  PO.imp (po_some h) fun σ H Q ⟨ρ, env, s, hs, he, ho⟩ => step hs he ho fun v s1 ρ1 H1 x _ u1 sr1 er1 vr1 ho1 => by
    have vr1 : VR T ρ1 H1 v x := vr1
    cases v <;> try exact ho1.elim
    exact ⟨_, vr1.int_inv, ho1 ρ1 H1 (some _) .refl sr1 rfl⟩
def cutA {α : Type} (xs : List α) (lo hi : Option Int) : List α := (xs.drop (HT.sIx xs.length 0 lo)).take (HT.sIx xs.length xs.length hi - HT.sIx xs.length 0 lo)
theorem VRs.cutA {ρ : List Addr} {H : Hp} {l : List AV} {xs : List V} (h : VRs T ρ H l xs) (lo hi : Option Int) : VRs T ρ H (cutA l lo hi) (cutV xs lo hi) := by
  unfold Mm.cutA cutV
  rw [h.length]
  exact (h.drop _).take _
def opSl (v : AV) (lo hi : Option Int) (s : S) : R AV := match v with
  | .tup xs => .ok (.tup (cutA xs lo hi)) s
  | .ref i => need (lstO s i) fun xs => .ok (.ref s.length) (s ++ [.lst (cutA xs lo hi)])
  | .sq xs => .ok (.ref s.length) (s ++ [.lst (cutA xs lo hi)])
  | _ => .bad
def rSM (T : Tx) (XE : XEt) : V -> Option Int -> Option Int -> Hp -> VK -> Prop := fun x lo hi H Q => ∃ ρ v s, SR T ρ s H /\ VR T ρ H v x /\ Out T XE (rV T) ρ H (opSl v lo hi s) Q
theorem cut_all {xs : List V} {lo hi : Option Int} (h : HT.sIx xs.length 0 lo = 0 /\ HT.sIx xs.length xs.length hi = xs.length) : cutV xs lo hi = xs := by
  unfold cutV
  rw [h.1, h.2, Nat.sub_zero, List.drop_zero, List.take_length]
theorem oSl (hK : X.K = T.K) : SlR X (rSM T XE) := by
  intro pins s σ H x v vl vu lo hi sl Q I rx hs pl pu ⟨ρ, a, st, sr, va, ho⟩
  cases a <;> try exact ho.elim
  · obtain ⟨p, vs, rfl, h1, k⟩ := va.tup_inv
    refine sl_tup2 pins s σ H _ v vl vu lo hi sl Q I rx hs pl pu ⟨p, vs, rfl, hK ▸ h1, fun hw => ?_, fun _ q hq => ho.tup sr hq (k.cutA lo hi)⟩
    have := k.cutA lo hi
    rw [cut_all hw] at this
    exact ho.hereV sr (vr_tup h1 this)
  · obtain ⟨xs, e0, ho⟩ := ho.needInv
    obtain ⟨p, vs, rfl, _, h1, k⟩ := sr.lstAt (lstO_inv e0) va
    exact sl_list pins s σ H _ v vl vu lo hi sl Q I rx hs pl pu ⟨p, vs, rfl, SqL.of h1, fun q hq => ho.alloc sr hq (OR.lst upd_same (VRs.gr ((sr.upNew hq).add hq).toGr (k.cutA lo hi)))⟩
  · obtain ⟨p, vs, rfl, h1, k⟩ := va.sq_inv
    exact sl_list pins s σ H _ v vl vu lo hi sl Q I rx hs pl pu ⟨p, vs, rfl, hK ▸ h1.sqL, fun q hq => ho.alloc sr hq (OR.lst upd_same (VRs.gr ((sr.upNew hq).add hq).toGr (k.cutA lo hi)))⟩
def mSl (m : Ev) (lo hi : Eo) : Ev := fun env s => (m env s).bind fun v s1 => (lo env s1).bind fun l s2 => (hi env s2).bind fun h s3 => opSl v l h s3
theorem me_sl {e : Expr} {lo hi : Option Expr} {p2 : Pos} {m : Ev} {ml mh : Eo} (hK : X.K = T.K) (he : PE X e (tE T XE m)) (hl : PO X lo (tO T XE ml)) (hh : PO X hi (tO T XE mh)) : PE X (.Subscript e (.Slice lo hi none p2) pos) (tE T XE (mSl m ml mh)) :=
  PE.imp (pe_slice (oSl (XE := XE) hK) he hl hh) fun σ H Q ⟨ρ, env, s, hs, he, ho⟩ =>
    step hs he ho fun v s1 ρ1 H1 x _ u1 sr1 er1 vr1 ho1 => step sr1 er1 ho1 fun l s2 ρ2 H2 l' _ u2 sr2 er2 e2 ho2 => step sr2 er2 ho2 fun h s3 ρ3 H3 h' _ u3 sr3 er3 e3 ho3 => by
      cases (show l = l' from e2)
      cases (show h = h' from e3)
      exact ⟨ρ3, v, s3, sr3, VR.up (u2.trans u3) vr1, ho3⟩
end
end Mm
namespace Mm
open PySem L2
abbrev Ms := En -> S -> RS
def R.bindS {α : Type} : R α -> (α -> S -> RS) -> RS
  | .ok a s, f => f a s
  | .ex c s, _ => .ex c s
  | .bad, _ => .bad
@[simp] theorem bindS_ok {α : Type} (a : α) (s : S) (f : α -> S -> RS) : (R.ok a s).bindS f = f a s := rfl
def OutS (T : Tx) (XE : XEt) (ρ : List Addr) (H : Hp) : RS -> Ends -> Prop
  | .nx e s, D => ∀ ρ' H' σ', Up ρ H ρ' H' -> SR T ρ' s H' -> ER T ρ' H' e σ' -> D.nx σ' H'
  | .rt v s, D => ∀ ρ' H' x, Up ρ H ρ' H' -> SR T ρ' s H' -> VR T ρ' H' v x -> D.rt x H'
  | .bk e s, D => ∀ ρ' H' σ', Up ρ H ρ' H' -> SR T ρ' s H' -> ER T ρ' H' e σ' -> D.bk σ' H'
  | .ct e s, D => ∀ ρ' H' σ', Up ρ H ρ' H' -> SR T ρ' s H' -> ER T ρ' H' e σ' -> D.ct σ' H'
  | .ex c s, _ => ∀ ρ' H', Up ρ H ρ' H' -> SR T ρ' s H' -> XE c ρ' s H'
  | .bad, _ => False
theorem OutS.up {T : Tx} {XE : XEt} {ρ ρ' : List Addr} {H H' : Hp} {r : RS} {D : Ends} (u : Up ρ H ρ' H') (h : OutS T XE ρ H r D) : OutS T XE ρ' H' r D := by
  cases r with
  | nx e s => exact fun ρ2 H2 x u2 sr vr => h ρ2 H2 x (u.trans u2) sr vr
  | rt e s => exact fun ρ2 H2 x u2 sr vr => h ρ2 H2 x (u.trans u2) sr vr
  | bk e s => exact fun ρ2 H2 x u2 sr vr => h ρ2 H2 x (u.trans u2) sr vr
  | ct e s => exact fun ρ2 H2 x u2 sr vr => h ρ2 H2 x (u.trans u2) sr vr
  | ex c s => exact fun ρ2 H2 u2 sr => h ρ2 H2 (u.trans u2) sr
  | bad => exact h
def tS (T : Tx) (XE : XEt) (m : Ms) : TS := fun D σ H => ∃ ρ env s, SR T ρ s H /\ ER T ρ H env σ /\ OutS T XE ρ H (m env s) D
section
variable {T : Tx} {XE : XEt} {X : Cx} {pos : Pos}
theorem stepS {α β : Type} {rl : Rl α β} {ρ : List Addr} {env : En} {s : S} {σ : St} {H : Hp} {m : En -> S -> R α} {k : α -> S -> RS} {D : Ends} {F : β -> Hp -> Prop}
    (hs : SR T ρ s H) (he : ER T ρ H env σ) (ho : OutS T XE ρ H ((m env s).bindS k) D)
    (hk : ∀ v s1 ρ1 H1 x, m env s = .ok v s1 -> Up ρ H ρ1 H1 -> SR T ρ1 s1 H1 -> ER T ρ1 H1 env σ -> rl.r H ρ1 H1 v x -> OutS T XE ρ1 H1 (k v s1) D -> F x H1) : tG T XE rl m σ H F := by
  refine ⟨ρ, env, s, hs, he, ?_⟩
  cases e : m env s with
  | ok v s1 =>
    rw [e] at ho
    exact fun ρ1 H1 x u sr vr => hk v s1 ρ1 H1 x e u sr (he.up u) vr (OutS.up u ho)
  | ex c s1 => rw [e] at ho; exact ho
  | bad => rw [e] at ho; exact ho
def sSkip : Ms := fun env s => .nx env s
def sSeq (a b : Ms) : Ms := fun env s => match a env s with
  | .nx e s1 => b e s1
  | r => r
theorem mss_nil : PSs X [] (tS T XE sSkip) := PSs.imp pss_nil fun D σ H ⟨ρ, env, s, hs, he, ho⟩ => ho ρ H σ .refl hs he
theorem mss_cons {st : Stmt} {rest : List Stmt} {a b : Ms} (h1 : PS X st (tS T XE a)) (h2 : PSs X rest (tS T XE b)) : PSs X (st :: rest) (tS T XE (sSeq a b)) :=
  PSs.imp (pss_cons h1 h2) fun D σ H ⟨ρ, env, s, hs, he, ho⟩ => by
    refine ⟨ρ, env, s, hs, he, ?_⟩
    unfold sSeq at ho
    cases e : a env s with
    | nx e1 s1 => rw [e] at ho; exact fun ρ2 H2 x u sr er => ⟨ρ2, e1, s1, sr, er, OutS.up u ho⟩
    | rt v s1 => rw [e] at ho; exact ho
    | bk v s1 => rw [e] at ho; exact ho
    | ct v s1 => rw [e] at ho; exact ho
    | ex v s1 => rw [e] at ho; exact ho
    | bad => rw [e] at ho; exact ho
theorem mss_one {st : Stmt} {a : Ms} (h1 : PS X st (tS T XE a)) : PSs X [st] (tS T XE a) := pss_one h1
def sExpr (m : Ev) : Ms := fun env s => (m env s).bindS fun _ s1 => .nx env s1
theorem ms_expr {e : Expr} {m : Ev} (h : PE X e (tE T XE m)) (hs : swapsWith e none pos.line X.env = pure false := by rfl) : PS X (.Expr e pos) (tS T XE (sExpr m)) :=
  PS.imp (ps_expr h hs) fun D σ H ⟨ρ, env, s, hs, he, ho⟩ => stepS hs he ho fun v s1 ρ1 H1 x _ u1 sr1 er1 vr1 ho1 => ho1 ρ1 H1 σ .refl sr1 er1
def sRet (m : Ev) : Ms := fun env s => (m env s).bindS fun v s1 => .rt v s1
theorem ms_ret {e : Expr} {m : Ev} (h : PE X e (tE T XE m)) : PS X (.Return (some e) pos) (tS T XE (sRet m)) :=
  PS.imp (ps_ret h) fun D σ H ⟨ρ, env, s, hs, he, ho⟩ => stepS hs he ho fun v s1 ρ1 H1 x _ u1 sr1 er1 vr1 ho1 => ho1 ρ1 H1 x .refl sr1 vr1
def sIf (c : Eb) (a b : Ms) : Ms := fun env s => (c env s).bindS fun k s1 => if k = true then a env s1 else b env s1
theorem ms_if {c : Expr} {a b : List Stmt} {mc' : Eb} {ma mb : Ms} (hc : PT X c (tC' T XE mc')) (ha : PSs X a (tS T XE ma)) (hb : PSs X b (tS T XE mb)) : PS X (.If c a b pos) (tS T XE (sIf mc' ma mb)) :=
  PS.imp (ps_if hc ha hb) fun D σ H ⟨ρ, env, s, hs, he, ho⟩ => stepS hs he ho fun v s1 ρ1 H1 x _ u1 sr1 er1 vr1 ho1 => by
    cases (show v = x from vr1)
    cases v with
    | true => exact ⟨ρ1, env, s1, sr1, er1, ho1⟩
    | false => exact ⟨ρ1, env, s1, sr1, er1, ho1⟩
def sSet (i : Nat) (m : Ev) : Ms := fun env s => (m env s).bindS fun v s1 => .nx (env.set i (some v)) s1
theorem asg_of {i : Nat} {m : Ev} {D : Ends} {σ : St} {H : Hp} (h : tS T XE (sSet i m) D σ H) : tAsg (tE T XE m) (gName i) D σ H := by
  obtain ⟨ρ, env, s, hs, he, ho⟩ := h
  exact stepS hs he ho fun v s1 ρ1 H1 x _ u1 sr1 er1 vr1 ho1 => ho1 ρ1 H1 _ .refl sr1 (er1.set vr1)
theorem ms_set {i : Nat} {x : Str} {e : Expr} {m : Ev} {pos' : Pos} (hN : X.N.Nodup) (he : PE X e (tE T XE m)) (hi : X.N[i]? = some x := by rfl) (hx : Loc X.env.scope x := by first | exact Or.inl rfl | exact Or.inr rfl) (hs : swapsWith e (some (.Name x pos')) pos.line X.env = pure false := by rfl) (hf : X.fn x = true ∨ X.env.scope.names.lookup x = some .local := by first | exact .inl rfl | exact .inr rfl | assumption) :
    PS X (.Assign [.Name x pos'] e pos) (tS T XE (sSet i m)) := PS.imp (ps_set hN hi hx he hs hf) fun D σ H h => asg_of h
abbrev Mt := AV -> En -> S -> RS
abbrev Mts := List AV -> En -> S -> RS
def endQ (Q : St -> Hp -> Prop) : Ends := { nx := Q, rt := fun _ _ => False }
def tT (T : Tx) (XE : XEt) (m : Mt) : TG := fun x σ H Q => ∃ ρ env s v, SR T ρ s H /\ ER T ρ H env σ /\ VR T ρ H v x /\ OutS T XE ρ H (m v env s) (endQ Q)
def tTs (T : Tx) (XE : XEt) (m : Mts) : TGs := fun xs σ H Q => ∃ ρ env s vs, SR T ρ s H /\ ER T ρ H env σ /\ VRs T ρ H vs xs /\ OutS T XE ρ H (m vs env s) (endQ Q)
def gN (i : Nat) : Mt := fun v env s => .nx (env.set i (some v)) s
def gNil' : Mts := fun vs env s => match vs with
  | [] => .nx env s
  | _ => .bad
def gCons' (a : Mt) (r : Mts) : Mts := fun vs env s => match vs with
  | v :: w => match a v env s with
    | .nx e s1 => r w e s1
    | q => q
  | _ => .bad
def gT (n : Nat) (r : Mts) : Mt := fun v env s => match v with
  | .tup vs => if vs.length = n then r vs env s else .bad
  | _ => .bad
theorem mg_name {i : Nat} {x : Str} (hN : X.N.Nodup) (hi : X.N[i]? = some x := by rfl) (hx : Loc X.env.scope x := by first | exact Or.inl rfl | exact Or.inr rfl) (hf : X.fn x = true ∨ X.env.scope.names.lookup x = some .local := by first | exact .inl rfl | exact .inr rfl | assumption) : PG X (.Name x pos) (tT T XE (gN i)) :=
  PG.imp (pg_name hN hi hx hf) fun x σ H Q ⟨ρ, env, s, v, hs, he, vr, ho⟩ => ho ρ H _ .refl hs (he.set vr)
theorem mgs_nil : PGs X [] (tTs T XE gNil') := PGs.imp pgs_nil fun xs σ H Q ⟨ρ, env, s, vs, hs, he, vr, ho⟩ => by
  cases vs with
  | nil => exact ⟨vr.nil_inv, ho ρ H _ .refl hs he⟩
  | cons a r => exact ho.elim
theorem mgs_cons {e : Expr} {es : List Expr} {a : Mt} {r : Mts} (h1 : PG X e (tT T XE a)) (h2 : PGs X es (tTs T XE r)) (hs : (assignEach (e :: es) X.env).map (·.2) = assign e X.env :: (assignEach es X.env).map (·.2) := by rfl) : PGs X (e :: es) (tTs T XE (gCons' a r)) :=
  PGs.imp (pgs_cons h1 h2 hs) fun xs σ H Q ⟨ρ, env, s, vs, hs, he, vr, ho⟩ => by
    cases vs with
    | nil => exact ho.elim
    | cons v w =>
      obtain ⟨x, ys, rfl, k1, k2⟩ := vr.cons_inv
      refine ⟨x, ys, rfl, ρ, env, s, v, hs, he, k1, ?_⟩
      unfold gCons' at ho
      cases e : a v env s with
      | nx e1 s1 => simp only [e] at ho; exact fun ρ2 H2 x u sr er => ⟨ρ2, e1, s1, w, sr, er, k2.up u, OutS.up u ho⟩
      | rt v s1 => simp only [e] at ho; exact ho
      | bk v s1 => simp only [e] at ho; exact fun ρ2 H2 x u sr er => ho ρ2 H2 x u sr er
      | ct v s1 => simp only [e] at ho; exact fun ρ2 H2 x u sr er => ho ρ2 H2 x u sr er
      | ex v s1 => simp only [e] at ho; exact ho
      | bad => simp only [e] at ho; exact ho
theorem mg_tup {es : List Expr} {k : Nat} {r : Mts} {n : Nat} (hK : X.K = T.K) (hc : X.calm = true) (h : PGs X es (tTs T XE r)) (hn : (assignEach es X.env).length = n := by rfl) (hst : (assignEach es X.env).findIdx? (·.1) = none := by rfl) : PG X (.Tuple es k pos) (tT T XE (gT n r)) :=
  PG.imp (pg_tup hc h hn hst) fun x σ H Q ⟨ρ, env, s, v, hs, he, vr, ho⟩ => by
    obtain ⟨vs, rfl⟩ : ∃ vs, v = .tup vs := by
      cases v with
      | tup vs => exact ⟨vs, rfl⟩
      | _ => exact ho.elim
    obtain ⟨a, ws, rfl, h1, k1⟩ := vr.tup_inv
    have ho : OutS T XE ρ H (if vs.length = n then r vs env s else .bad) (endQ Q) := ho
    by_cases hl : vs.length = n
    · rw [if_pos hl] at ho
      exact ⟨a, ws, rfl, hK ▸ h1, by rw [← k1.length]; exact hl, ρ, env, s, vs, hs, he, k1, ho⟩
    · rw [if_neg hl] at ho; exact ho.elim
def sAsg (m : Ev) (g : Mt) : Ms := fun env s => (m env s).bindS fun v s1 => g v env s1
def GoesOn (g : Mt) : Prop := ∀ v env s, (∃ e s1, g v env s = .nx e s1) ∨ (∃ c s1, g v env s = .ex c s1) ∨ g v env s = .bad
def GoesOns (g : Mts) : Prop := ∀ v env s, (∃ e s1, g v env s = .nx e s1) ∨ (∃ c s1, g v env s = .ex c s1) ∨ g v env s = .bad
theorem on_name {i : Nat} : GoesOn (gN i) := fun v env s => .inl ⟨_, _, rfl⟩
theorem on_nil : GoesOns gNil' := fun v env s => by
  cases v with
  | nil => exact .inl ⟨_, _, rfl⟩
  | cons a r => exact .inr (.inr rfl)
theorem on_cons {a : Mt} {r : Mts} (h : GoesOn a) (k : GoesOns r) : GoesOns (gCons' a r) := fun v env s => by
  cases v with
  | nil => exact .inr (.inr rfl)
  | cons x w =>
    rcases h x env s with ⟨e, s1, q⟩ | ⟨e, s1, q⟩ | q
    · have : gCons' a r (x :: w) env s = r w e s1 := by unfold gCons'; simp only [q]
      rw [this]; exact k w e s1
    · have : gCons' a r (x :: w) env s = .ex e s1 := by unfold gCons'; simp only [q]
      exact .inr (.inl ⟨_, _, this⟩)
    · have : gCons' a r (x :: w) env s = .bad := by unfold gCons'; simp only [q]
      exact .inr (.inr this)
theorem on_tup {n : Nat} {r : Mts} (k : GoesOns r) : GoesOn (gT n r) := fun v env s => by
  cases v <;> try exact .inr (.inr rfl)
  rename_i vs
  by_cases hl : vs.length = n
  · have : gT n r (.tup vs) env s = r vs env s := if_pos hl
    rw [this]; exact k vs env s
  · have : gT n r (.tup vs) env s = .bad := if_neg hl
    exact .inr (.inr this)
theorem GoesOn.out {g : Mt} (k : GoesOn g) {ρ : List Addr} {H : Hp} {v : AV} {env : En} {s : S} {D : Ends} (h : OutS T XE ρ H (g v env s) D) : OutS T XE ρ H (g v env s) (endQ D.nx) := by
  rcases k v env s with ⟨e, s1, q⟩ | ⟨e, s1, q⟩ | q <;> rw [q] at h ⊢ <;> exact h
theorem ms_asg {tg e : Expr} {m : Ev} {g : Mt} (he : PE X e (tE T XE m)) (hg : PG X tg (tT T XE g)) (hon : GoesOn g) (hs : swapsWithSole [tg] e pos.line X.env = pure false := by rfl) (hw : swappedStores [tg] e X.env = pure none := by rfl)
    (h1 : (assignEach [tg] X.env).map (·.2) = [assign tg X.env] := by rfl) : PS X (.Assign [tg] e pos) (tS T XE (sAsg m g)) :=
  PS.imp (ps_asg he hg hs hw h1) fun D σ H ⟨ρ, env, s, hs, he, ho⟩ => stepS hs he ho fun v s1 ρ1 H1 x _ u1 sr1 er1 vr1 ho1 => ⟨ρ1, env, s1, v, sr1, er1, vr1, hon.out ho1⟩
def sPar (i j : Nat) (r : Evs) : Ms := fun env s => (r env s).bindS fun vs s1 => match vs with
  | [v, w] => .nx ((env.set i (some v)).set j (some w)) s1
  | _ => .bad
theorem ms_par {i j : Nat} {x y : Str} {a b : Expr} {r : Evs} {px py pt : Pos} {kt k2 : Nat} {pt2 : Pos} (hc : X.calm = true) (hN : X.N.Nodup) (ha : PA X [a, b] (tP T XE r)) (hi : X.N[i]? = some x := by rfl) (hj : X.N[j]? = some y := by rfl) (hij : i ≠ j := by decide)
    (hx : X.env.scope.names.lookup x = some .local := by rfl) (hy : X.env.scope.names.lookup y = some .local := by rfl)
    (hw : swappedStores [.Tuple [.Name x px, .Name y py] kt pt] (.Tuple [a, b] k2 pt2) X.env = pure (some [x, y]) := by rfl)
    (hs : swapsWithSole [.Tuple [.Name x px, .Name y py] kt pt] (.Tuple [a, b] k2 pt2) pos.line X.env = pure false := by rfl) :
    PS X (.Assign [.Tuple [.Name x px, .Name y py] kt pt] (.Tuple [a, b] k2 pt2) pos) (tS T XE (sPar i j r)) :=
  PS.imp (ps_par hc hN hi hj hij hx hy ha hw hs) fun D σ H ⟨ρ, env, s, hs, he, ho⟩ => stepS hs he ho fun v s1 ρ1 H1 x _ u1 sr1 er1 vr1 ho1 => by
    have vr1 : VRs T ρ1 H1 v x := vr1
    match v, vr1, ho1 with
    | [v, w], vr1, ho1 =>
      obtain ⟨x1, ys, rfl, k1, k2⟩ := vr1.cons_inv
      obtain ⟨x2, ys, rfl, k4, k3⟩ := k2.cons_inv
      cases k3.nil_inv
      exact ⟨x1, x2, rfl, ho1 ρ1 H1 _ .refl sr1 ((er1.set k1).set k4)⟩
    | [], _, ho1 => exact ho1.elim
    | [_], _, ho1 => exact ho1.elim
    | _ :: _ :: _ :: _, _, ho1 => exact ho1.elim
def whl (c : Eb) (b : Ms) : Nat -> En -> S -> RS
  | 0, _, _ => .bad
  | n + 1, env, s => (c env s).bindS fun k s1 => if k = true then (match b env s1 with
      | .nx e s2 => whl c b n e s2
      | .ct e s2 => whl c b n e s2
      | .bk e s2 => .nx e s2
      | r => r) else .nx env s1
def sWhl (f : En -> S -> Nat) (c : Eb) (b : Ms) : Ms := fun env s => whl c b (f env s) env s
theorem ms_whl {c : Expr} {body : List Stmt} {mc' : Eb} {mb : Ms} (f : En -> S -> Nat) (hp : PassesOwn (model X.prog X.w) X.A X.env X.xe) (hc : PT X c (tC' T XE mc')) (hb : PSs X body (tS T XE mb)) : PS X (.While c body [] pos) (tS T XE (sWhl f mc' mb)) :=
  PS.imp (ps_while hp hc hb) fun D σ H ⟨ρ, env, s, hs, he, ho⟩ => by
    refine ⟨fun n σ H => ∃ ρ env s, SR T ρ s H /\ ER T ρ H env σ /\ OutS T XE ρ H (whl mc' mb n env s) D, ⟨f env s, ρ, env, s, hs, he, ho⟩, ?_⟩
    rintro n σ H ⟨ρ, env, s, hs, he, ho⟩
    cases n with
    | zero => exact ho.elim
    | succ n =>
      unfold whl at ho
      refine stepS hs he ho fun v s1 ρ1 H1 x _ u1 sr1 er1 vr1 ho1 => ?_
      cases (show v = x from vr1)
      cases v with
      | false => exact ho1 ρ1 H1 σ .refl sr1 er1
      | true =>
        refine ⟨fun σ' H' => ∃ ρ env s, SR T ρ s H' /\ ER T ρ H' env σ' /\ OutS T XE ρ H' (whl mc' mb n env s) D, fun σ' H' h => ⟨n, Nat.lt_succ_self n, h⟩, ρ1, env, s1, sr1, er1, ?_⟩
        simp only [if_pos] at ho1
        cases e : mb env s1 with
        | nx e2 s2 => simp only [e] at ho1; exact fun ρ2 H2 x u sr er => ⟨ρ2, e2, s2, sr, er, OutS.up u ho1⟩
        | ct e2 s2 => simp only [e] at ho1; exact fun ρ2 H2 x u sr er => ⟨ρ2, e2, s2, sr, er, OutS.up u ho1⟩
        | bk e2 s2 => simp only [e] at ho1; exact fun ρ2 H2 x u sr er => ho1 ρ2 H2 x u sr er
        | rt v s2 => simp only [e] at ho1; exact ho1
        | ex v s2 => simp only [e] at ho1; exact ho1
        | bad => simp only [e] at ho1; exact ho1
end
end Mm
namespace L2
open PySem PySem.Spec PyProof.Rows
theorem pi_seq {X : Cx} {tg l : Expr} {tl : TE} (hl : PE X l tl) : PI X tg l (fun σ H R => tl σ H fun x H1 => ∃ a, x = .ref a /\ (((∃ xs, SqL X.K H1 a xs) /\ R (Itl X.K a) H1) ∨ ((∃ xs, SqT X.K H1 a xs) /\ R (Itt X.K a) H1))) := by
  intro pins s σ H R I h
  refine thn (hl pins s σ H _ I h) fun v s1 ⟨x, H1, I1, r1, q1⟩ => ?_
  obtain ⟨a, e, q⟩ := q1
  subst e
  cases r1
  rcases q with ⟨⟨xs, hq⟩, q⟩ | ⟨⟨xs, hq⟩, q⟩
  · obtain ⟨its, rv, p, hz⟩ := I1.list hq
    refine wpAny_pyIter_list p.isList ?_
    refine ⟨s1.heap.objs.size, [s1.heap.objs.size], _, _, H1, rfl, I1.kept (t' := s1.toks) fun b o e => Heap.get?_push_of_some _ e, turn_list a _, ⟨_, Heap.get?_push_size _ rfl, rfl, rfl⟩, fun b hb => ?_, q⟩
    have e : b = s1.heap.objs.size := by simpa using hb
    subst e
    exact I1.fpOk (Nat.le_refl _) (I1.hok.fresh (Nat.le_refl _))
  · obtain ⟨its, rv, p, hz⟩ := I1.tuple hq
    refine wpAny_pyIter_tuple (show s1.heap.IsTuple a its.toArray from p) ?_
    refine ⟨s1.heap.objs.size, [s1.heap.objs.size], _, _, H1, rfl, I1.kept (t' := s1.toks) fun b o e => Heap.get?_push_of_some _ e, turn_tuple a _, ⟨_, Heap.get?_push_size _ rfl, rfl, rfl⟩, fun b hb => ?_, q⟩
    have e : b = s1.heap.objs.size := by simpa using hb
    subst e
    exact I1.fpOk (Nat.le_refl _) (I1.hok.fresh (Nat.le_refl _))
end L2
namespace Mm
open PySem L2
theorem Up.mod {ρ ρ' : List Addr} {H H' : Hp} {D : Addr} {o : HO} (u : Up ρ H ρ' H') (h : H D = none) (n : D ∉ ρ') : Up ρ H ρ' (upd H' D o) :=
  ⟨⟨u.pre, fun b xs e => by rw [upd_ne (ne_of_none e h)]; exact u.tups b xs e, fun b p v e => by rw [upd_ne (ne_of_none e h)]; exact u.frzs b p v e⟩, fun b p e k => ⟨by rw [upd_ne (ne_of_none e h)]; exact (u.fr b p e k).1, (u.fr b p e k).2⟩, fun b e => by
    by_cases hb : b = D
    · rw [hb]; exact h
    · rw [upd_ne hb] at e; exact u.live b e⟩
theorem grAt {ρ : List Addr} {H : Hp} {D : Addr} {xs : List V} {o : HO} (h : H D = some (.lst xs)) : Gr ρ H ρ (upd H D o) :=
  ⟨List.prefix_rfl, fun b ys e => by rw [upd_ne (ne_of e h (by intro z; cases z))]; exact e, fun b p v e => by rw [upd_ne (ne_of e h (by intro z; cases z))]; exact e⟩
theorem ER.gr {T : Tx} {ρ ρ' : List Addr} {H H' : Hp} {env : En} {σ : St} (h : ER T ρ H env σ) (u : Gr ρ H ρ' H') : ER T ρ' H' env σ :=
  ⟨h.len, fun i v e => let ⟨x, e1, q⟩ := h.get i v e; ⟨x, e1, q.gr u⟩⟩
abbrev Gd := List (Nat × List AV)
def gOk (gs : Gd) (s : S) : Prop := ∀ p ∈ gs, lstO s p.1 = some p.2
theorem gOk_one (i : Nat) (xs : List AV) (s : S) : gOk [(i, xs)] s ↔ lstO s i = some xs := by simp [gOk]
structure Walks (T : Tx) (ρ : List Addr) (H : Hp) (xs : List AV) (gs : Gd) (J : It) : Prop where
  turn : ∀ ρ' s' H', Up ρ H ρ' H' -> SR T ρ' s' H' -> gOk gs s' -> (∀ (j : Nat) (v : AV), xs[j]? = some v -> J.go j H' /\ ∀ x H'', J.yld j H' x H'' -> Up ρ' H' ρ' H'' /\ SR T ρ' s' H'' /\ VR T ρ' H'' v x) /\ J.stop xs.length H'
abbrev Src := En -> S -> R (List AV × Gd)
def rW (T : Tx) : Rl (List AV × Gd) It := ⟨fun _ ρ H p J => Walks T ρ H p.1 p.2 J, fun _ h => h⟩
abbrev tW (T : Tx) (XE : XEt) (m : Src) : TI := tG T XE (rW T) m
section
variable {T : Tx} {XE : XEt} {X : Cx} {pos : Pos}
theorem walk_list {K : PySem.W.Frag} {a : Addr} {H' : Hp} {vs : List V} (h : H' a = some (.lst vs) ∨ SqF K H' a vs) {ρ' : List Addr} {s' : S} {xs : List AV} (sr : SR T ρ' s' H') (k : VRs T ρ' H' xs vs) :
    (∀ (j : Nat) (v : AV), xs[j]? = some v -> (Itl K a).go j H' /\ ∀ x H'', (Itl K a).yld j H' x H'' -> Up ρ' H' ρ' H'' /\ SR T ρ' s' H'' /\ VR T ρ' H'' v x) /\ (Itl K a).stop xs.length H' := by
  have hq : SqL K H' a vs := by rcases h with h | h; exact SqL.of h; exact h.sqL
  refine ⟨fun j v e => ?_, ⟨vs, hq, by rw [k.length]; exact Nat.le_refl _⟩⟩
  obtain ⟨x, ex, kx⟩ := k.get e
  refine ⟨⟨vs, x, hq, ex⟩, fun y H'' ⟨e1, e2⟩ => ?_⟩
  subst e1
  have := e2 vs hq
  rw [ex] at this
  cases this
  exact ⟨.refl, sr, kx⟩
theorem walk_tup {K : PySem.W.Frag} {a : Addr} {H' : Hp} {vs : List V} (hq : SqT K H' a vs) {ρ' : List Addr} {s' : S} {xs : List AV} (sr : SR T ρ' s' H') (k : VRs T ρ' H' xs vs) :
    (∀ (j : Nat) (v : AV), xs[j]? = some v -> (Itt K a).go j H' /\ ∀ x H'', (Itt K a).yld j H' x H'' -> Up ρ' H' ρ' H'' /\ SR T ρ' s' H'' /\ VR T ρ' H'' v x) /\ (Itt K a).stop xs.length H' := by
  refine ⟨fun j v e => ?_, ⟨vs, hq, by rw [k.length]; exact Nat.le_refl _⟩⟩
  obtain ⟨x, ex, kx⟩ := k.get e
  refine ⟨⟨vs, x, hq, ex⟩, fun y H'' ⟨e1, e2⟩ => ?_⟩
  subst e1
  have := e2 vs hq
  rw [ex] at this
  cases this
  exact ⟨.refl, sr, kx⟩
def srcL (r : Evs) : Src := fun env s => (r env s).bind fun xs s1 => .ok (xs, []) s1
theorem mi_l {tg e : Expr} {r : Evs} (hK : X.K = T.K) (h : PE X e (tL T XE r)) : PI X tg e (tW T XE (srcL r)) :=
  PI.imp (pi_list h) fun σ H R ⟨ρ, env, s, hs, he, ho⟩ => by
    refine ⟨ρ, env, s, hs, he, ?_⟩
    unfold srcL at ho
    cases e : r env s with
    | bad => rw [e] at ho; exact ho
    | ex c s1 => rw [e] at ho; exact ho
    | ok xs s1 =>
      rw [e] at ho
      intro ρ1 H1 x u sr ⟨a, vs, e1, h0, h1, h2, k⟩
      subst e1
      refine ⟨a, rfl, ⟨vs, SqL.of h2⟩, ho ρ1 H1 _ u sr ⟨fun ρ' s' H' u' sr' _ => ?_⟩⟩
      rw [hK]
      exact walk_list (.inl (u'.fr a _ h2 h1).1) sr' (k.up u')
def srcV' (m : Ev) : Src := fun env s => (m env s).bind fun v s1 => match v with
  | .tup xs => .ok (xs, []) s1
  | .sq xs => .ok (xs, []) s1
  | .ref i => need (lstO s1 i) fun xs => .ok (xs, [(i, xs)]) s1
  | _ => .bad
theorem mi_v {tg e : Expr} {m : Ev} (hK : X.K = T.K) (h : PE X e (tE T XE m)) : PI X tg e (tW T XE (srcV' m)) :=
  PI.imp (pi_seq h) fun σ H R ⟨ρ, env, s, hs, he, ho⟩ => step hs he ho fun v s1 ρ1 H1 x _ u1 sr1 er1 vr1 ho1 => by
    have vr1 : VR T ρ1 H1 v x := vr1
    cases v with
    | tup xs =>
      obtain ⟨a, vs, rfl, h1, k⟩ := vr1.tup_inv
      refine ⟨a, rfl, .inr ⟨⟨vs, hK ▸ h1⟩, ho1 ρ1 H1 _ .refl sr1 ⟨fun ρ' s' H' u' sr' _ => ?_⟩⟩⟩
      rw [hK]
      exact walk_tup (u'.sqT h1) sr' (k.up u')
    | sq xs =>
      obtain ⟨a, vs, rfl, h1, k⟩ := vr1.sq_inv
      refine ⟨a, rfl, .inl ⟨⟨vs, hK ▸ h1.sqL⟩, ho1 ρ1 H1 _ .refl sr1 ⟨fun ρ' s' H' u' sr' _ => ?_⟩⟩⟩
      rw [hK]
      exact walk_list (.inr (u'.sqF h1)) sr' (k.up u')
    | ref i =>
      obtain ⟨xs, e0, ho1⟩ := ho1.needInv
      obtain ⟨a, vs, rfl, ea, h1, k⟩ := sr1.lstAt (lstO_inv e0) vr1
      refine ⟨a, rfl, .inl ⟨⟨vs, SqL.of h1⟩, ho1 ρ1 H1 _ .refl sr1 ⟨fun ρ' s' H' u' sr' g => ?_⟩⟩⟩
      have e2 := (gOk_one i xs s').mp g
      obtain ⟨b, ws, eb, _, h2, k2⟩ := sr'.lstAt (lstO_inv e2) (VR.up u' vr1)
      cases eb
      exact walk_list (.inl h2) sr' k2
    | non => exact ho1.elim
    | bl b => exact ho1.elim
    | int b => exact ho1.elim
    | str b => exact ho1.elim
def rngA (lo : Int) (n : Nat) : List AV := (List.range n).map fun (i : Nat) => AV.int (lo + i)
theorem walk_rng {lo : Int} {n : Nat} {H' : Hp} {ρ' : List Addr} {s' : S} (sr : SR T ρ' s' H') :
    (∀ (j : Nat) (v : AV), (rngA lo n)[j]? = some v -> (Itr lo n).go j H' /\ ∀ x H'', (Itr lo n).yld j H' x H'' -> Up ρ' H' ρ' H'' /\ SR T ρ' s' H'' /\ VR T ρ' H'' v x) /\ (Itr lo n).stop (rngA lo n).length H' := by
  have hl : (rngA lo n).length = n := by simp [rngA]
  refine ⟨fun j v e => ?_, by rw [hl]; exact Nat.le_refl _⟩
  have hj : j < n := by have := (List.getElem?_eq_some_iff.mp e).1; rw [hl] at this; exact this
  refine ⟨hj, fun y H'' ⟨e1, e2⟩ => ?_⟩
  subst e1 e2
  have : (rngA lo n)[j]? = some (.int (lo + j)) := by simp [rngA, hj]
  rw [this] at e
  cases e
  exact ⟨.refl, sr, vr_int⟩
def srcR (r : Evs) : Src := fun env s => (r env s).bind fun vs s1 => match vs with
  | [.int j] => if -(2 ^ 62) <= j /\ j < 2 ^ 62 then .ok (rngA 0 j.toNat, []) s1 else .bad
  | [.int i, .int j] => if -(2 ^ 62) <= i /\ i < 2 ^ 62 /\ -(2 ^ 62) <= j /\ j < 2 ^ 62 then .ok (rngA i (j - i).toNat, []) s1 else .bad
  | _ => .bad
theorem mi_r1 {tg a : Expr} {p : Pos} {m : Ev} (hm : X.mg "range" = none) (ha : PE X a (tE T XE m)) (hg : Gl X "range" := by rfl) (hs : starEach [a] X.env = [(false, eval a X.env)] := by rfl) : PI X tg (.Call (.Name "range" p) [a] [] pos) (tW T XE (srcR (pCons m pNil))) :=
  PI.imp (pi_range1 hg hm (pa_cons' ha pa_nil' hs) hs) fun σ H R ⟨ρ, env, s, hs, he, ho⟩ => step hs he ho fun v s1 ρ1 H1 x e u1 sr1 er1 vr1 ho1 => by
    have vr1 : VRs T ρ1 H1 v x := vr1
    obtain ⟨w, rfl⟩ : ∃ w, v = [w] := by
      unfold pCons pNil at e
      cases e1 : m env s with
      | ok w s2 => rw [e1] at e; cases e; exact ⟨w, rfl⟩
      | ex c s2 => rw [e1] at e; cases e
      | bad => rw [e1] at e; cases e
    obtain ⟨y, ys, rfl, k1, k2⟩ := vr1.cons_inv
    cases k2.nil_inv
    cases w with
    | int j =>
      obtain ⟨⟨h1, h2⟩, ho1⟩ := ho1.ifInv
      cases k1.int_inv
      exact ⟨j, rfl, h1, h2, ho1 ρ1 H1 _ .refl sr1 ⟨fun ρ' s' H' u' sr' _ => walk_rng sr'⟩⟩
    | _ => exact ho1.elim
noncomputable def forL (tgt : Mt) (body : Ms) (gs : Gd) : List AV -> En -> S -> RS
  | [], env, s => open Classical in if gOk gs s then .nx env s else .bad
  | v :: r, env, s => open Classical in if gOk gs s then (match tgt v env s with
      | .nx e1 s1 => (match body e1 s1 with
        | .nx e2 s2 => forL tgt body gs r e2 s2
        | .ct e2 s2 => forL tgt body gs r e2 s2
        | .bk e2 s2 => .nx e2 s2
        | q => q)
      | .ex c s1 => .ex c s1
      | _ => .bad) else .bad
noncomputable def sFor (src : Src) (tgt : Mt) (body : Ms) : Ms := fun env s => (src env s).bindS fun p s1 => forL tgt body p.2 p.1 env s1
theorem OutS.ifInv {ρ : List Addr} {H : Hp} {c : Prop} {_ : Decidable c} {r : RS} {D : Ends} (h : OutS T XE ρ H (if c then r else .bad) D) : c /\ OutS T XE ρ H r D := by
  by_cases hc : c
  · rw [if_pos hc] at h; exact ⟨hc, h⟩
  · rw [if_neg hc] at h; exact h.elim
theorem ms_for {tg iter : Expr} {body : List Stmt} {src : Src} {tgt : Mt} {mb : Ms} (hp : PassesOwn (model X.prog X.w) X.A X.env X.xe) (hc : X.calm = true) (hi : PI X tg iter (tW T XE src)) (hg : PG X tg (tT T XE tgt)) (hb : PSs X body (tS T XE mb))
    (hs : ∀ x, foldedSetIterable iter X.env x = pure x := by intro _; rfl) : PS X (.For tg iter body [] pos) (tS T XE (sFor src tgt mb)) :=
  PS.imp (ps_for hp hc hi hg hb hs) fun D σ H ⟨ρ, env, s, hs, he, ho⟩ => stepS hs he ho fun p s1 ρ1 H1 J _ u1 sr1 er1 wk ho1 => by
    obtain ⟨xs, gs⟩ := p
    have wk : Walks T ρ1 H1 xs gs J := wk
    refine ⟨fun i m σ' H' => m = xs.length - i /\ i <= xs.length /\ ∃ ρ' env' s', Up ρ1 H1 ρ' H' /\ SR T ρ' s' H' /\ ER T ρ' H' env' σ' /\ OutS T XE ρ' H' (forL tgt mb gs (xs.drop i) env' s') D, ⟨_, rfl, Nat.zero_le _, ρ1, env, s1, .refl, sr1, er1, ho1⟩, ?_⟩
    rintro i m σ' H' ⟨rfl, hi, ρ', env', s', u', sr', er', ho'⟩
    by_cases hlt : i < xs.length
    · rw [List.drop_eq_getElem_cons hlt] at ho'
      unfold forL at ho'
      obtain ⟨hg', ho'⟩ := ho'.ifInv
      obtain ⟨w1, w2⟩ := (wk.turn ρ' s' H' u' sr' hg').1 i xs[i] (List.getElem?_eq_getElem hlt)
      refine .inr ⟨w1, fun σ2 H2 => ∃ ρ2 env2 s2, Up ρ1 H1 ρ2 H2 /\ SR T ρ2 s2 H2 /\ ER T ρ2 H2 env2 σ2 /\ OutS T XE ρ2 H2 (forL tgt mb gs (xs.drop (i + 1)) env2 s2) D, fun σ2 H2 h2 => ⟨xs.length - (i + 1), by omega, rfl, hlt, h2⟩, fun x H'' hy => ?_⟩
      obtain ⟨y1, y2, y3⟩ := w2 x H'' hy
      refine ⟨ρ', env', s', xs[i], y2, er'.up y1, y3, ?_⟩
      have ho' := OutS.up y1 ho'
      cases et : tgt xs[i] env' s' with
      | nx e1 s1 =>
        simp only [et] at ho'
        refine fun ρ2 H2 σ2 u2 sr2 er2 => ⟨ρ2, e1, s1, sr2, er2, ?_⟩
        have ho' := OutS.up u2 ho'
        have up2 : Up ρ1 H1 ρ2 H2 := (u'.trans y1).trans u2
        cases eb : mb e1 s1 with
        | nx e2 s2 => simp only [eb] at ho'; exact fun ρ3 H3 σ3 u3 sr3 er3 => ⟨ρ3, e2, s2, up2.trans u3, sr3, er3, OutS.up u3 ho'⟩
        | ct e2 s2 => simp only [eb] at ho'; exact fun ρ3 H3 σ3 u3 sr3 er3 => ⟨ρ3, e2, s2, up2.trans u3, sr3, er3, OutS.up u3 ho'⟩
        | bk e2 s2 => simp only [eb] at ho'; exact fun ρ3 H3 σ3 u3 sr3 er3 => ho' ρ3 H3 σ3 u3 sr3 er3
        | rt v s2 => simp only [eb] at ho'; exact ho'
        | ex v s2 => simp only [eb] at ho'; exact ho'
        | bad => simp only [eb] at ho'; exact ho'
      | ex c s1 => simp only [et] at ho'; exact ho'
      | rt v s2 => simp only [et] at ho'; exact ho'.elim
      | bk v s2 => simp only [et] at ho'; exact ho'.elim
      | ct v s2 => simp only [et] at ho'; exact ho'.elim
      | bad => simp only [et] at ho'; exact ho'.elim
    · have e : i = xs.length := by omega
      subst e
      rw [List.drop_length] at ho'
      unfold forL at ho'
      obtain ⟨hg', ho'⟩ := ho'.ifInv
      exact .inl ⟨(wk.turn ρ' s' H' u' sr' hg').2, ho' ρ' H' σ' .refl sr' er'⟩
abbrev Lc := List (Str × Option Nat)
def srcE (l : Lc) (env : En) : En := l.map fun p => p.2.bind fun j => (env[j]?).join
theorem ER.src {ρ : List Addr} {H : Hp} {env : En} {σ : St} (h : ER T ρ H env σ) (l : Lc) : ER T ρ H (srcE l env) (srcV l σ) := by
  refine ⟨by simp [srcE, srcV], fun i v e => ?_⟩
  unfold srcE at e
  unfold srcV
  rw [List.getElem?_map] at e ⊢
  cases el : l[i]? with
  | none => rw [el] at e; cases e
  | some p =>
    rw [el] at e
    obtain ⟨n, o⟩ := p
    cases o with
    | none => cases e
    | some j =>
      have e : some ((env[j]?).join) = some (some v) := e
      have e' : env[j]? = some (some v) := by
        cases ej : env[j]? with
        | none => rw [ej] at e; cases e
        | some q => rw [ej] at e; cases e; rfl
      obtain ⟨x, ex, k⟩ := h.get j v e'
      exact ⟨x, by show some ((σ[j]?).join) = _; rw [ex]; rfl, k⟩
def XE0 : XEt := fun _ _ _ _ => False
def R.calm {α : Type} : R α -> R α
  | .ex _ _ => .bad
  | r => r
@[simp] theorem calm_ok {α : Type} (a : α) (s : S) : (R.ok a s).calm = .ok a s := rfl
@[simp] theorem calm_bad {α : Type} : (R.bad : R α).calm = .bad := rfl
def cYes : Eb := fun _ s => .ok true s
noncomputable def compL (tgt : Mt) (test : Eb) (elt : Ev) (gs : Gd) : List AV -> En -> S -> List AV -> R (List AV)
  | [], env, s, acc => open Classical in if gOk gs s then .ok acc s else .bad
  | v :: r, env, s, acc => open Classical in if gOk gs s then (match tgt v env s with
      | .nx e1 s1 => (test e1 s1).calm.bind fun b s2 => if b = true then (elt e1 s2).calm.bind fun x s3 => compL tgt test elt gs r e1 s3 (acc ++ [x]) else compL tgt test elt gs r e1 s2 acc
      | _ => .bad) else .bad
noncomputable def lComp (l : Lc) (src : Src) (tgt : Mt) (test : Eb) (elt : Ev) : Evs := fun env s => (src env s).bind fun p s1 => if p.1.length <= sizeLine then compL tgt test elt p.2 p.1 (srcE l env) s1 [] else .bad
theorem pif_nil' : PIf X [] (tC' T XE cYes) := fun pins s σ H Q I ⟨ρ, env, st, hs, he, ho⟩ => pif_nil pins s σ H Q I (hereB ho hs)
theorem pif_one' {c : Expr} {m : Eb} (h : PT X c (tC' T XE m)) : PIf X [c] (tC' T XE m) := pif_one h
theorem comp_of {l : Lc} {src : Src} {tgt : Mt} {test : Eb} {elt : Ev} {σ : St} {H : Hp} {Q : VK} (h : tL T XE (lComp l src tgt test elt) σ H Q) : tComp l (tW T XE src) (tT T XE0 tgt) (tC' T XE0 test) (tE T XE0 elt) σ H Q := by
  obtain ⟨ρ, env, s, hs, he, ho⟩ := h
  refine ⟨ρ, env, s, hs, he, ?_⟩
  unfold lComp at ho
  cases e : src env s with
  | bad => rw [e] at ho; exact ho
  | ex c s1 => rw [e] at ho; exact ho
  | ok p s1 =>
    rw [e] at ho
    obtain ⟨xs, gs⟩ := p
    obtain ⟨hlen, ho⟩ := ho.ifInv
    have hlen : xs.length <= sizeLine := hlen
    intro ρ1 H1 J u1 sr1 wk D hD
    have wk : Walks T ρ1 H1 xs gs J := wk
    have nD : D ∉ ρ1 := sr1.out hD
    refine ⟨fun i m ys σ' H' => m = xs.length - i /\ i <= xs.length /\ ys.length <= i /\ ∃ ρ' env' s' acc, Up ρ1 H1 ρ' H' /\ SR T ρ' s' H' /\ ER T ρ' H' env' σ' /\ H' D = some (.lst ys) /\ D ∉ ρ' /\ VRs T ρ' H' acc ys /\ Out T XE (rL T) ρ H (compL tgt test elt gs (xs.drop i) env' s' acc) Q,
      ⟨_, rfl, Nat.zero_le _, Nat.le_refl _, ρ1, srcE l env, s1, [], sr1.upNew hD, sr1.new hD, ((he.up u1).up (sr1.upNew hD)).src l, upd_same, nD, .nil, ho⟩, ?_⟩
    rintro i m ys σ' H' ⟨rfl, hi, hy, ρ', env', s', acc, u', sr', er', hd, nd', ka, ho'⟩
    by_cases hlt : i < xs.length
    · rw [List.drop_eq_getElem_cons hlt] at ho'
      unfold compL at ho'
      obtain ⟨hg', ho'⟩ := ho'.ifInv
      obtain ⟨w1, w2⟩ := (wk.turn ρ' s' H' u' sr' hg').1 i xs[i] (List.getElem?_eq_getElem hlt)
      refine .inr ⟨w1, fun x H'' hy' => ?_⟩
      obtain ⟨y1, y2, y3⟩ := w2 x H'' hy'
      refine ⟨ρ', env', s', xs[i], y2, er'.up y1, y3, ?_⟩
      have hd1 := y1.fr D _ hd nd'
      have ka1 := ka.up y1
      cases et : tgt xs[i] env' s' with
      | nx e1 s2 =>
        simp only [et] at ho'
        refine fun ρ2 H2 σ2 u2 sr2 er2 => ⟨ρ2, e1, s2, sr2, er2, ?_⟩
        have hd2 := u2.fr D _ hd1.1 hd1.2
        have ka2 := ka1.up u2
        cases eb : test e1 s2 with
        | bad => simp only [eb, calm_bad, bind_bad] at ho'; exact ho'.elim
        | ex c s3 => simp only [eb, R.calm, bind_bad] at ho'; exact ho'.elim
        | ok b s3 =>
          simp only [eb, calm_ok, bind_ok] at ho'
          intro ρ3 H3 b' u3 sr3 eb'
          cases (show b = b' from eb')
          have hd3 := u3.fr D _ hd2.1 hd2.2
          have ka3 := ka2.up u3
          have up3 : Up ρ1 H1 ρ3 H3 := ((u'.trans y1).trans u2).trans u3
          cases b with
          | false =>
            rw [if_neg (by decide)] at ho' ⊢
            exact ⟨xs.length - (i + 1), by omega, rfl, hlt, by omega, ρ3, e1, s3, acc, up3, sr3, er2.up u3, hd3.1, hd3.2, ka3, ho'⟩
          | true =>
            rw [if_pos rfl] at ho' ⊢
            refine ⟨ρ3, e1, s3, sr3, er2.up u3, ?_⟩
            cases ev : elt e1 s3 with
            | bad => simp only [ev, calm_bad, bind_bad] at ho'; exact ho'.elim
            | ex c s4 => simp only [ev, R.calm, bind_bad] at ho'; exact ho'.elim
            | ok v s4 =>
              simp only [ev, calm_ok, bind_ok] at ho'
              intro ρ4 H4 x4 u4 sr4 vr4
              have hd4 := u4.fr D _ hd3.1 hd3.2
              have ka4 := ka3.up u4
              have g5 : Gr ρ4 H4 ρ4 (upd H4 D (.lst (ys ++ [x4]))) := grAt hd4.1
              refine ⟨hd4.1, by omega, xs.length - (i + 1), by omega, rfl, hlt, by rw [List.length_append]; exact Nat.succ_le_succ hy, ρ4, e1, s4, acc ++ [v], (up3.trans u4).mod hD hd4.2, sr4.up g5 fun a ha => upd_ne fun z => hd4.2 (z ▸ ha), ((er2.up u3).up u4).gr g5, upd_same, hd4.2, (ka4.append (.one vr4)).gr g5, ho'⟩
      | ex c s1 => simp only [et] at ho'; exact ho'.elim
      | rt v s2 => simp only [et] at ho'; exact ho'.elim
      | bk v s2 => simp only [et] at ho'; exact ho'.elim
      | ct v s2 => simp only [et] at ho'; exact ho'.elim
      | bad => simp only [et] at ho'; exact ho'.elim
    · have e : i = xs.length := by omega
      subst e
      rw [List.drop_length] at ho'
      unfold compL at ho'
      obtain ⟨hg', ho'⟩ := ho'.ifInv
      exact .inl ⟨(wk.turn ρ' s' H' u' sr' hg').2, ho' ρ' H' (.ref D) (u1.trans u') sr' ⟨D, ys, rfl, u1.live D hD, nd', hd, ka⟩⟩
theorem ml_comp {elt tg iter : Expr} {ifs : List Expr} {scope : Scope} {src : Src} {tgt : Mt} {test : Eb} {me : Ev} (l : Lc) (hsc : CompScope X scope l) (hcalm : X.calm = true) (hi : PI X tg iter (tW T XE src))
    (hg : ∀ cl C fp s3 H3, PG (cxComp X l scope cl C fp s3 H3) tg (tT T XE0 tgt)) (ht : ∀ cl C fp s3 H3, PIf (cxComp X l scope cl C fp s3 H3) ifs (tC' T XE0 test)) (he : ∀ cl C fp s3 H3, PE (cxComp X l scope cl C fp s3 H3) elt (tE T XE0 me))
    (hs : ∀ x, foldedSetIterable iter X.env x = pure x := by intro _; rfl) : PE X (.ListComp elt [⟨tg, iter, ifs, 0⟩] scope pos) (tL T XE (lComp l src tgt test me)) :=
  PE.imp (pe_comp l hsc hcalm hi hg ht he hs) fun _ _ _ h => comp_of h
theorem new_of {r : Evs} {σ : St} {H : Hp} {Q : VK} (h : tE T XE (mNew r) σ H Q) : tL T XE r σ H Q := by
  obtain ⟨ρ, env, s, hs, he, ho⟩ := h
  refine ⟨ρ, env, s, hs, he, ?_⟩
  unfold mNew at ho
  cases e : r env s with
  | bad => rw [e] at ho; exact ho
  | ex c s1 => rw [e] at ho; exact ho
  | ok vs s1 =>
    rw [e] at ho
    intro ρ1 H1 x u sr ⟨a, ws, e1, h0, h1, h2, k⟩
    subst e1
    have g : Gr ρ1 H1 (ρ1 ++ [a]) H1 := ⟨List.prefix_append _ _, fun _ _ z => z, fun _ _ _ z => z⟩
    refine ho (ρ1 ++ [a]) H1 (.ref a) (u.add h0) (sr.add h1 (OR.lst h2 (k.gr g))) (vr_ref (T := T) (H := H1) ?_)
    rw [List.getElem?_append_right (by rw [sr.len]; exact Nat.le_refl _), sr.len, Nat.sub_self]; rfl
theorem ms_setComp {i : Nat} {y : Str} {py spos : Pos} {elt tg iter : Expr} {ifs : List Expr} {scope : Scope} {src : Src} {tgt : Mt} {test : Eb} {me : Ev} (l : Lc) (hsc : CompScope X scope l) (hcalm : X.calm = true) (hN : X.N.Nodup) (hi : PI X tg iter (tW T XE src))
    (hg : ∀ cl C fp s3 H3, PG (cxComp X l scope cl C fp s3 H3) tg (tT T XE0 tgt)) (ht : ∀ cl C fp s3 H3, PIf (cxComp X l scope cl C fp s3 H3) ifs (tC' T XE0 test)) (he : ∀ cl C fp s3 H3, PE (cxComp X l scope cl C fp s3 H3) elt (tE T XE0 me))
    (hy : X.N[i]? = some y := by rfl) (hx : X.env.scope.names.lookup y = some .local := by rfl)
    (hsw : swapsWith (.ListComp elt [⟨tg, iter, ifs, 0⟩] scope pos) (some (.Name y py)) spos.line X.env = pure true := by rfl)
    (hs : ∀ x, foldedSetIterable iter X.env x = pure x := by intro _; rfl) :
    PS X (.Assign [.Name y py] (.ListComp elt [⟨tg, iter, ifs, 0⟩] scope pos) spos) (tS T XE (sSet i (mNew (lComp l src tgt test me)))) :=
  PS.imp (ps_setComp l hsc hcalm hN hy hx hi hg ht he hsw hs) fun D σ H h => comp_of (new_of (asg_of h))
def fnR (n : Nat) (body : Ms) : List AV -> S -> R AV := fun args s => match body (args.map some ++ List.replicate (n - args.length) none) s with
  | .rt v s1 => .ok v s1
  | .nx _ s1 => .ok .non s1
  | .ex c s1 => .ex c s1
  | _ => .bad
def spOf (T : Tx) (n : Nat) (F : List AV -> S -> R AV) : Sp := fun vs H Q _ => vs.length = n /\ ∃ ρ s args, SR T ρ s H /\ VRs T ρ H args vs /\ Out T XE0 (rV T) ρ H (F args s) Q
theorem er_start {ρ : List Addr} {H : Hp} {args : List AV} {vs : List V} (N : List Str) (k : VRs T ρ H args vs) : ER T ρ H (args.map some ++ List.replicate (N.length - args.length) none) (L2.start N vs) := by
  refine ⟨by simp [L2.start, k.length], fun i v e => ?_⟩
  unfold L2.start
  have hi : i < args.length := by
    by_cases hi : i < args.length
    · exact hi
    · rw [List.getElem?_append_right (by simpa using hi), List.getElem?_replicate] at e
      split at e <;> cases e
  rw [List.getElem?_append_left (by simpa using hi), List.getElem?_map] at e
  cases ea : args[i]? with
  | none => rw [ea] at e; cases e
  | some w =>
    rw [ea] at e; cases e
    obtain ⟨x, ex, q⟩ := k.get ea
    exact ⟨x, by rw [List.getElem?_append_left (by simpa [← k.length] using hi), List.getElem?_map, ex]; rfl, q⟩
theorem fn_ok {P : Program} {w : World} {mg : Str -> Option Value} {base : Heap} {x qual : Str} {st : Stmt} {f : Addr} {fd : FuncData} {N ps : List Str} {k : Nat} {body : Ms} (F : Fun T.K x qual st f fd) (S : FnScope N ps (defScope st))
    (hb : ∀ (cdv : Value) (A : Around) (outer : List Env) (s : Shared) (H : Hp) (E : XK), Room k (A.deeper (PyProof.Rows.envOfC qual (defScope st) s.heap.objs.size f cdv)) -> PSs (cxOf CX0 P w T.K mg base N qual (defScope st) f cdv A outer s H E).nox (defBody st) (tS T XE0 body)) :
    FnOk P w T.K mg base CX0 (k + 1) f fd ps (spOf T ps.length (fnR N.length body)) :=
  F.ok S (fun vs H Q E h => h.1) fun cdv A outer s H vs Q E hr ⟨hl, ρ, st', args, sr, va, ho⟩ => by
    refine ⟨_, hb cdv A outer s H E hr, ρ, _, st', sr, er_start N va, ?_⟩
    unfold fnR at ho
    cases e : body (args.map some ++ List.replicate (N.length - args.length) none) st' with
    | nx e1 s1 => simp only [e] at ho; exact fun ρ2 H2 σ2 u sr er => ho ρ2 H2 .non u sr (vr_non (T := T) (ρ := ρ2) (H := H2))
    | rt v s1 => simp only [e] at ho; exact ho
    | ex c s1 => simp only [e] at ho; exact ho
    | bk v s1 => simp only [e] at ho; exact ho.elim
    | ct v s1 => simp only [e] at ho; exact ho.elim
    | bad => simp only [e] at ho; exact ho.elim
def mCall (n : Nat) (F : List AV -> S -> R AV) (r : Evs) : Ev := fun env s => (r env s).bind fun vs s1 => if vs.length = n then F vs s1 else .bad
theorem call_of {n : Nat} {F : List AV -> S -> R AV} {r : Evs} {σ : St} {H : Hp} {Q : VK} (h : tE T XE0 (mCall n F r) σ H Q) : tCall (spOf T n F) [] E0 (tP T XE0 r) σ H Q := by
  obtain ⟨ρ, env, s, hs, he, ho⟩ := h
  refine step hs he ho fun vs s1 ρ1 H1 xs _ u1 sr1 er1 vr1 ho1 => ?_
  obtain ⟨hl, ho1⟩ := ho1.ifInv
  have vr1 : VRs T ρ1 H1 vs xs := vr1
  rw [List.append_nil]
  exact ⟨by rw [← vr1.length]; exact hl, ρ1, s1, vs, sr1, vr1, ho1⟩
theorem me_call {k n : Nat} {f : Addr} {fd : FuncData} {ps : List Str} {Fn : List AV -> S -> R AV} {x : Str} {p : Pos} {e : Expr} {es : List Expr} {r : Evs} (hK : X.K = T.K) (G : FnOk X.prog X.w T.K X.mg X.base CX0 k f fd ps (spOf T n Fn)) (hr : Room k X.A) (hm : X.mg x = some (.ref f)) (hk : PySem.W.keepIn T.K (.ref f) = true) (hb : Binds T.K fd ps [])
    (ha : PA X (e :: es) (tP T XE0 r)) (hg : Gl X x := by rfl) (hdb : (x == ("__debug__" : Str)) = false := by decide) (he : starEach (e :: es) X.env = (false, eval e X.env) :: starEach es X.env := by rfl) (hpl : (backTo pos (starEach es X.env)).any (·.1) = false := by rfl) :
    PE X (.Call (.Name x p) (e :: es) [] pos) (tE T XE0 (mCall n Fn r)) :=
  PE.imp (pe_call (E := E0) (by rw [hK]; exact G) hr hg hm (by rw [hK]; exact hk) (by rw [hK]; exact hb) .nil pass0 ha hdb he hpl) fun _ _ _ h => call_of h
end
end Mm
namespace Ro
open PySem L2
def gsg (top below : Int) : Int := if below < 0 then -((Int.gcd top below : Nat) : Int) else ((Int.gcd top below : Nat) : Int)
def fr (top below : Int) : Int × Int := (top.fdiv (gsg top below), below.fdiv (gsg top below))
theorem gcd_pos {t b : Int} (h : b ≠ 0) : 0 < Int.gcd t b := Int.gcd_pos_of_ne_zero_right t h
theorem gsg_ne {t b : Int} (h : b ≠ 0) : gsg t b ≠ 0 := by
  have := gcd_pos (t := t) h
  unfold gsg
  split <;> omega
theorem gsg_natAbs (t b : Int) : (gsg t b).natAbs = Int.gcd t b := by
  unfold gsg
  split <;> omega
theorem gsg_dvd_l (t b : Int) : gsg t b ∣ t := by
  unfold gsg
  split
  · exact (Int.neg_dvd).mpr (Int.gcd_dvd_left ..)
  · exact Int.gcd_dvd_left ..
theorem gsg_dvd_r (t b : Int) : gsg t b ∣ b := by
  unfold gsg
  split
  · exact (Int.neg_dvd).mpr (Int.gcd_dvd_right ..)
  · exact Int.gcd_dvd_right ..
theorem fdiv_of_dvd {a g : Int} (h : g ∣ a) : a.fdiv g * g = a := Int.fdiv_mul_cancel h
theorem dvd_co {x y v : Int} (h : y ∣ x * v) (h2 : Int.gcd x y = 1) : y ∣ v := by
  have h1 : y.natAbs ∣ x.natAbs * v.natAbs := by rw [← Int.natAbs_mul]; exact Int.natAbs_dvd_natAbs.mpr h
  have hc : Nat.Coprime y.natAbs x.natAbs := by
    show Nat.gcd y.natAbs x.natAbs = 1
    rw [Nat.gcd_comm]
    exact h2
  exact Int.natAbs_dvd_natAbs.mp (hc.dvd_of_dvd_mul_left h1)
theorem fr_l (t b : Int) : (fr t b).1 * gsg t b = t := fdiv_of_dvd (gsg_dvd_l t b)
theorem fr_r (t b : Int) : (fr t b).2 * gsg t b = b := fdiv_of_dvd (gsg_dvd_r t b)
theorem fr_cross (t b : Int) (h : b ≠ 0) : (fr t b).1 * b = t * (fr t b).2 := by
  have h1 := fr_l t b
  have h2 := fr_r t b
  generalize (fr t b).1 = x at *
  generalize (fr t b).2 = y at *
  generalize gsg t b = g at *
  subst h1
  rw [← h2]
  rw [Int.mul_comm y g, ← Int.mul_assoc, Int.mul_right_comm]
theorem fr_pos (t b : Int) (h : b ≠ 0) : 1 <= (fr t b).2 := by
  have h2 := fr_r t b
  have hg := gcd_pos (t := t) h
  have hb : (gsg t b < 0 /\ b < 0) ∨ (0 < gsg t b /\ 0 < b) := by
    unfold gsg
    split
    · left; omega
    · right; omega
  generalize (fr t b).2 = y at *
  generalize gsg t b = g at *
  rcases hb with ⟨h3, h4⟩ | ⟨h3, h4⟩
  · refine Int.not_lt.mp fun hy => ?_
    have : 0 <= y * g := Int.mul_nonneg_of_nonpos_of_nonpos (by omega) (by omega)
    omega
  · refine Int.not_lt.mp fun hy => ?_
    have : y * g <= 0 := Int.mul_nonpos_of_nonpos_of_nonneg (by omega) (by omega)
    omega
theorem fr_gcd (t b : Int) (h : b ≠ 0) : Int.gcd (fr t b).1 (fr t b).2 = 1 := by
  have h1 := fr_l t b
  have h2 := fr_r t b
  have hg := gcd_pos (t := t) h
  have hn := gsg_natAbs t b
  have e : Int.gcd ((fr t b).1 * gsg t b) ((fr t b).2 * gsg t b) = Int.gcd (fr t b).1 (fr t b).2 * (gsg t b).natAbs := Int.gcd_mul_right ..
  rw [h1, h2, hn] at e
  have : 1 * Int.gcd t b = Int.gcd (fr t b).1 (fr t b).2 * Int.gcd t b := by rw [Nat.one_mul]; exact e
  exact (Nat.eq_of_mul_eq_mul_right hg this).symm
theorem fr_uniq {x y t b : Int} (hb : b ≠ 0) (h1 : 1 <= y) (h2 : Int.gcd x y = 1) (h3 : x * b = t * y) : fr t b = (x, y) := by
  have k1 := fr_pos t b hb
  have k2 := fr_gcd t b hb
  have k3 := fr_cross t b hb
  have e : x * (fr t b).2 = (fr t b).1 * y := by
    refine Int.eq_of_mul_eq_mul_right hb ?_
    have e1 : x * (fr t b).2 * b = x * b * (fr t b).2 := Int.mul_right_comm ..
    have e2 : (fr t b).1 * y * b = (fr t b).1 * b * y := Int.mul_right_comm ..
    rw [e1, e2, h3, k3, Int.mul_right_comm]
  generalize hx : (fr t b).1 = u at *
  generalize hy : (fr t b).2 = v at *
  have d1 : y ∣ v := by
    have : y ∣ x * v := ⟨u, by rw [e, Int.mul_comm]⟩
    exact dvd_co this h2
  have d2 : v ∣ y := by
    have : v ∣ u * y := ⟨x, by rw [← e, Int.mul_comm]⟩
    exact dvd_co this k2
  have ev : v = y := Int.dvd_antisymm (by omega) (by omega) d2 d1
  have eu : u = x := by
    rw [ev] at e
    exact (Int.eq_of_mul_eq_mul_right (by omega) e).symm
  rw [show fr t b = (u, v) from by rw [← hx, ← hy], eu, ev]
def low (top below : Int) : Int × Int :=
  (((if below < 0 then -1 else 1) * top).fdiv ((Int.gcd top below : Nat) : Int), ((if below < 0 then -1 else 1) * below).fdiv ((Int.gcd top below : Nat) : Int))
theorem low_fr (t b : Int) (hb : b ≠ 0) : low t b = fr t b := by
  unfold low fr gsg
  by_cases h : b < 0
  · rw [if_pos h, if_pos h]
    have hg := gcd_pos (t := t) hb
    have key : ∀ a : Int, ((Int.gcd t b : Nat) : Int) ∣ a -> (-1 * a).fdiv ((Int.gcd t b : Nat) : Int) = a.fdiv (-((Int.gcd t b : Nat) : Int)) := by
      intro a ⟨c, hc⟩
      rw [hc]
      have e1 : (-1 * (((Int.gcd t b : Nat) : Int) * c)) = (-c) * ((Int.gcd t b : Nat) : Int) := by
        rw [Int.neg_mul, Int.one_mul, Int.mul_comm, Int.neg_mul]
      have e2 : (((Int.gcd t b : Nat) : Int) * c) = (-c) * (-((Int.gcd t b : Nat) : Int)) := by
        rw [Int.neg_mul_neg, Int.mul_comm]
      rw [e1, Int.mul_fdiv_cancel _ (by omega), e2, Int.mul_fdiv_cancel _ (by omega)]
    rw [key t (Int.gcd_dvd_left ..), key b (Int.gcd_dvd_right ..)]
  · rw [if_neg h, if_neg h, Int.one_mul, Int.one_mul]
end Ro
namespace Ro
open PySem L2
theorem boot_abs : bootBuiltins "abs" = some (.builtin "abs") := by decide +kernel
theorem boot_divmod : bootBuiltins "divmod" = some (.builtin "divmod") := by decide +kernel
theorem boot_list : bootBuiltins "list" = some (.type "list") := by decide +kernel
theorem boot_tuple : bootBuiltins "tuple" = some (.type "tuple") := by decide +kernel
theorem boot_int : bootBuiltins "int" = some (.type "int") := by decide +kernel
theorem boot_bool : bootBuiltins "bool" = some (.type "bool") := by decide +kernel
theorem boot_str : bootBuiltins "str" = some (.type "str") := by decide +kernel
theorem boot_isinstance : bootBuiltins "isinstance" = some (.builtin "isinstance") := by decide +kernel
theorem boot_all : bootBuiltins "all" = some (.builtin "all") := by decide +kernel
theorem kne : ¬ (("cells" : Str) = "turn") := by decide +kernel
theorem pw18 : (10 : Int) ^ (18 : Int).toNat = 1000000000000000000 := by decide +kernel
end Ro
namespace L2
open PySem PySem.Spec PyProof.Rows
def TagV (K : PySem.W.Frag) (H : Hp) (x : V) (t : String) : Prop := match x with
  | .non => t = "NoneType"
  | .bl _ => t = "bool"
  | .int _ => t = "int"
  | .str _ => t = "str"
  | .ref a => (t = "tuple" /\ ∃ xs, SqT K H a xs) ∨ (t = "list" /\ ∃ xs, SqL K H a xs) ∨ (t = "dict" /\ ((∃ kvs, H a = some (.dK kvs)) ∨ ∃ kvs, H a = some (.dT kvs)))
  | _ => False
def rIsT (K : PySem.W.Frag) : List V -> Hp -> VK -> Prop := fun xs H Q => ∃ (t : String) (x : V) (n : String) (b : Bool), xs = [x, .ty n] /\ TagV K H x t /\ PySem.W.kitOne K (.type t) (.type n) = some b /\ Q (.bl b) H
theorem call_isT {X : Cx} : CallR X (.builtin "isinstance") (rIsT X.K) := by
  intro pins s σ H xs us Q I r h
  obtain ⟨t, x, n, b, rfl, hd, e, q⟩ := h
  obtain ⟨u, w', rfl, ru, rw'⟩ := vals2 r
  obtain rfl : w' = Value.type n := rw'
  have fin : ∀ tk, EP X pins σ Q (.bool b) { s with toks := tk } := fun tk => ⟨.bl b, H, I.tok tk, rfl, q⟩
  cases x with
  | non => cases (show t = _ from hd); exact isinst_ok I ru .non e fin
  | bl y => cases (show t = _ from hd); exact isinst_ok I ru (.bl y) e fin
  | int y => cases (show t = _ from hd); exact isinst_ok I ru (.int y) e fin
  | str y => cases (show t = _ from hd); exact isinst_ok I ru (.str y) e fin
  | ref a =>
    cases ru
    rcases hd with ⟨rfl, ys, q1⟩ | ⟨rfl, ys, q1⟩ | ⟨rfl, hk⟩
    · obtain ⟨its, _, p, _⟩ := I.tuple q1
      obtain ⟨o, h1, h2, _⟩ := p
      exact PySem.W.kia_one PySem.W.kitx_tuple I.kIn ⟨o, h1, h2⟩ e (fun z => nomatch z) fin
    · obtain ⟨its, _, p, _⟩ := I.list q1
      obtain ⟨o, h1, h2, _⟩ := p.isList
      exact PySem.W.kia_one PySem.W.kitx_list I.kIn ⟨o, h1, h2⟩ e (fun z => nomatch z) fin
    · have z : ∃ o, s.heap.get? a = some o /\ o.ExactDict := by
        rcases hk with ⟨kvs, hk⟩ | ⟨kvs, hk⟩
        · obtain ⟨_, _, _, _, o, _, _, e, ex, _⟩ := I.hok a _ hk
          exact ⟨o, e, ex⟩
        · obtain ⟨_, _, _, _, o, _, _, e, ex, _⟩ := I.hok a _ hk
          exact ⟨o, e, ex⟩
      obtain ⟨o, h1, h2⟩ := z
      exact PySem.W.kia_one PySem.W.kitx_dict I.kIn ⟨o, h1, h2.1⟩ e (fun z => nomatch z) fin
  | byt y => exact False.elim hd
  | flt y => exact False.elim hd
  | ty y => exact False.elim hd
end L2
namespace Mm
open PySem L2
section
variable {T : Tx} {XE : XEt} {X : Cx} {pos : Pos}
def rCM (T : Tx) (XE : XEt) (op : List AV -> S -> R AV) : List V -> Hp -> VK -> Prop := fun vs H Q => ∃ ρ args s, SR T ρ s H /\ VRs T ρ H args vs /\ Out T XE (rV T) ρ H (op args s) Q
def rCQ {α : Type} (T : Tx) (XE : XEt) (rl : Rl α V) (op : List AV -> S -> R α) : List V -> Hp -> VK -> Prop := fun vs H Q => ∃ a ws ρ xs s, vs = [.ref a] /\ SR T ρ s H /\ (SqL T.K H a ws ∨ SqT T.K H a ws) /\ VRs T ρ H xs ws /\ Out T XE rl ρ H (op xs s) Q
def mOp (op : List AV -> S -> R AV) (r : Evs) : Ev := fun env s => (r env s).bind op
def gOp {α : Type} (op : List AV -> S -> R α) (r : Evs) : En -> S -> R α := fun env s => (r env s).bind op
theorem cb_of {op : List AV -> S -> R AV} {r : Evs} {σ : St} {H : Hp} {Q : VK} (h : tE T XE (mOp op r) σ H Q) : tCB (rCM T XE op) (tP T XE r) σ H Q := by
  obtain ⟨ρ, env, s, hs, he, ho⟩ := h
  exact step hs he ho fun v s1 ρ1 H1 x _ u1 sr1 er1 vr1 ho1 => ⟨ρ1, v, s1, sr1, vr1, ho1⟩
theorem cq_of {α : Type} {rl : Rl α V} {op : List AV -> S -> R α} {r : Evs} {σ : St} {H : Hp} {Q : VK} (h : tG T XE rl (gOp op r) σ H Q) : tCB (rCQ T XE rl op) (tCons (tQ T XE r) tNil) σ H Q := by
  obtain ⟨ρ, env, s, hs, he, ho⟩ := h
  refine step hs he ho fun v s1 ρ1 H1 x _ u1 sr1 er1 vr1 ho1 => ?_
  obtain ⟨a, ws, rfl, q, k⟩ := vr1
  exact ⟨a, ws, ρ1, v, s1, rfl, sr1, q, k, ho1⟩
theorem me_B {id : String} {op : List AV -> S -> R AV} {x : Str} {p : Pos} {e : Expr} {es : List Expr} {r : Evs} (hc : CallR X (.builtin id) (rCM T XE op)) (hm : X.mg x = none) (hv : bootBuiltins x = some (.builtin id)) (ha : PA X (e :: es) (tP T XE r)) (hg : Gl X x := by rfl) (hn : x ≠ "__name__" := by decide) (hdb : (x == ("__debug__" : Str)) = false := by decide)
    (he : starEach (e :: es) X.env = (false, eval e X.env) :: starEach es X.env := by rfl) (hpl : (backTo pos (starEach es X.env)).any (·.1) = false := by rfl) : PE X (.Call (.Name x p) (e :: es) [] pos) (tE T XE (mOp op r)) :=
  PE.imp (pe_callB hc hg hm hv ha hn hdb he hpl) fun _ _ _ h => cb_of h
theorem me_T {id : String} {op : List AV -> S -> R AV} {x : Str} {p : Pos} {e : Expr} {es : List Expr} {r : Evs} (hc : CallR X (.type id) (rCM T XE op)) (hm : X.mg x = none) (hv : bootBuiltins x = some (.type id)) (ha : PA X (e :: es) (tP T XE r)) (hg : Gl X x := by rfl) (hn : x ≠ "__name__" := by decide) (hdb : (x == ("__debug__" : Str)) = false := by decide)
    (he : starEach (e :: es) X.env = (false, eval e X.env) :: starEach es X.env := by rfl) (hpl : (backTo pos (starEach es X.env)).any (·.1) = false := by rfl) : PE X (.Call (.Name x p) (e :: es) [] pos) (tE T XE (mOp op r)) :=
  PE.imp (pe_callTy hc hg hm hv ha hn hdb he hpl) fun _ _ _ h => cb_of h
theorem mg_T {α : Type} {rl : Rl α V} {id : String} {op : List AV -> S -> R α} {x : Str} {p : Pos} {e : Expr} {r : Evs} (hc : CallR X (.type id) (rCQ T XE rl op)) (hm : X.mg x = none) (hv : bootBuiltins x = some (.type id)) (ha : PE X e (tQ T XE r)) (hg : Gl X x := by rfl) (hn : x ≠ "__name__" := by decide) (hdb : (x == ("__debug__" : Str)) = false := by decide)
    (he : starEach [e] X.env = (false, eval e X.env) :: starEach [] X.env := by rfl) (hpl : (backTo pos (starEach [] X.env)).any (·.1) = false := by rfl) : PE X (.Call (.Name x p) [e] [] pos) (tG T XE rl (gOp op r)) :=
  PE.imp (pe_callTy hc hg hm hv (pa_cons ha pa_nil he) hn hdb he hpl) fun _ _ _ h => cq_of h
def opAbs : List AV -> S -> R AV
  | [.int i], s => .ok (.int (if i < 0 then -i else i)) s
  | _, _ => .bad
theorem VRs.one_inv {ρ : List Addr} {H : Hp} {v : AV} {xs : List V} (h : VRs T ρ H [v] xs) : ∃ x, xs = [x] /\ VR T ρ H v x := by
  obtain ⟨x, ys, rfl, k1, k2⟩ := h.cons_inv
  cases k2.nil_inv
  exact ⟨x, rfl, k1⟩
theorem VRs.two_inv {ρ : List Addr} {H : Hp} {v w : AV} {xs : List V} (h : VRs T ρ H [v, w] xs) : ∃ x y, xs = [x, y] /\ VR T ρ H v x /\ VR T ρ H w y := by
  obtain ⟨x, ys, rfl, k1, k2⟩ := h.cons_inv
  obtain ⟨y, rfl, k3⟩ := k2.one_inv
  exact ⟨x, y, rfl, k1, k3⟩
theorem cAbs : CallR X (.builtin "abs") (rCM T XE opAbs) := by
  intro pins s σ H xs us Q I r ⟨ρ, args, st, sr, va, ho⟩
  unfold opAbs at ho
  split at ho
  · obtain ⟨x, rfl, k⟩ := va.one_inv
    cases k.int_inv
    exact call_abs pins s σ H _ us Q I r ⟨_, rfl, ho.hereV sr vr_int⟩
  · exact ho.elim
def opMin : List AV -> S -> R AV
  | [.int i, .int j], s => .ok (.int (if j < i then j else i)) s
  | _, _ => .bad
theorem cMin (hc : X.calm = true) : CallR X (.builtin "min") (rCM T XE opMin) := by
  intro pins s σ H xs us Q I r ⟨ρ, args, st, sr, va, ho⟩
  unfold opMin at ho
  split at ho
  · obtain ⟨x, y, rfl, k, k2⟩ := va.two_inv
    cases k.int_inv
    cases k2.int_inv
    exact call_min2 hc pins s σ H _ us Q I r ⟨_, _, rfl, ho.hereV sr vr_int⟩
  · exact ho.elim
def opMax : List AV -> S -> R AV
  | [.int i, .int j], s => .ok (.int (if j > i then j else i)) s
  | _, _ => .bad
theorem cMax (hc : X.calm = true) : CallR X (.builtin "max") (rCM T XE opMax) := by
  intro pins s σ H xs us Q I r ⟨ρ, args, st, sr, va, ho⟩
  unfold opMax at ho
  split at ho
  · obtain ⟨x, y, rfl, k, k2⟩ := va.two_inv
    cases k.int_inv
    cases k2.int_inv
    exact call_max2 hc pins s σ H _ us Q I r ⟨_, _, rfl, ho.hereV sr vr_int⟩
  · exact ho.elim
noncomputable def opDivmod : List AV -> S -> R AV
  | [.int i, .int j], s => if 0 < j /\ Mid j then .ok (.tup [.int (i / j), .int (i % j)]) s else .bad
  | _, _ => .bad
theorem cDivmod : CallR X (.builtin "divmod") (rCM T XE opDivmod) := by
  intro pins s σ H xs us Q I r ⟨ρ, args, st, sr, va, ho⟩
  unfold opDivmod at ho
  split at ho
  · obtain ⟨x, y, rfl, k, k2⟩ := va.two_inv
    cases k.int_inv
    cases k2.int_inv
    obtain ⟨hl, ho⟩ := ho.ifInv
    exact call_divmodP pins s σ H _ us Q I r ⟨_, _, rfl, ⟨hl.1, hl.2.f⟩, fun p hp => ho.tup sr hp (.cons vr_int (.one vr_int))⟩
  · exact ho.elim
def opInt : List AV -> S -> R AV
  | [.int i], s => .ok (.int i) s
  | [.bl b], s => .ok (.int (if b then 1 else 0)) s
  | _, _ => .bad
theorem cInt : CallR X (.type "int") (rCM T XE opInt) := by
  intro pins s σ H xs us Q I r ⟨ρ, args, st, sr, va, ho⟩
  unfold opInt at ho
  split at ho
  · obtain ⟨x, rfl, k⟩ := va.one_inv
    cases k.int_inv
    exact call_int1 pins s σ H _ us Q I r (.inl ⟨_, rfl, ho.hereV sr vr_int⟩)
  · obtain ⟨x, rfl, k⟩ := va.one_inv
    cases k.bl_inv
    exact call_int1 pins s σ H _ us Q I r (.inr ⟨_, rfl, ho.hereV sr vr_int⟩)
  · exact ho.elim
def opLen : List AV -> S -> R AV
  | [.str z], s => if z.length <= sizeLine then .ok (.int z.length) s else .bad
  | [v], s => need (items v s) fun xs => .ok (.int xs.length) s
  | _, _ => .bad
theorem cLen (hK : X.K = T.K) : CallR X (.builtin "len") (rCM T XE opLen) := by
  intro pins s σ H xs us Q I r ⟨ρ, args, st, sr, va, ho⟩
  have rest : ∀ v, args = [v] -> Out T XE (rV T) ρ H (need (items v st) fun xs => .ok (.int xs.length) st) Q -> wpAny (model X.prog X.w) X.A (call (.builtin "len") us) (EP X pins σ Q) X.xe s := by
    rintro v rfl ho
    obtain ⟨ys, e, ho⟩ := ho.needInv
    obtain ⟨x, rfl, k⟩ := va.one_inv
    obtain ⟨a, vs, rfl, h1, k1⟩ := items_inv e sr k
    exact call_len_seq pins s σ H _ us Q I r ⟨a, vs, rfl, by rw [hK]; exact h1, by rw [← k1.length]; exact ho.hereV sr vr_int⟩
  unfold opLen at ho
  split at ho
  · obtain ⟨x, rfl, k⟩ := va.one_inv
    cases k.str_inv
    obtain ⟨hl, ho⟩ := ho.ifInv
    exact call_len_str pins s σ H _ us Q I r ⟨_, rfl, hl, ho.hereV sr vr_int⟩
  · exact rest _ rfl ho
  · exact ho.elim
def intsO : List AV -> Option (List Int)
  | [] => some []
  | .int i :: r => (intsO r).map (i :: ·)
  | _ :: _ => none
def blsO : List AV -> Option (List Bool)
  | [] => some []
  | .bl i :: r => (blsO r).map (i :: ·)
  | _ :: _ => none
theorem intsO_inv : ∀ {l : List AV} {ns : List Int}, intsO l = some ns -> l = ns.map .int
  | [], _, h => by cases h; rfl
  | v :: r, ns, h => by
    cases v <;> try cases h
    rename_i i
    cases e : intsO r with
    | none => rw [show intsO (.int i :: r) = (intsO r).map (i :: ·) from rfl, e] at h; cases h
    | some q =>
      rw [show intsO (.int i :: r) = (intsO r).map (i :: ·) from rfl, e] at h; cases h
      rw [intsO_inv e]; rfl
theorem blsO_inv : ∀ {l : List AV} {ns : List Bool}, blsO l = some ns -> l = ns.map .bl
  | [], _, h => by cases h; rfl
  | v :: r, ns, h => by
    cases v <;> try cases h
    rename_i i
    cases e : blsO r with
    | none => rw [show blsO (.bl i :: r) = (blsO r).map (i :: ·) from rfl, e] at h; cases h
    | some q =>
      rw [show blsO (.bl i :: r) = (blsO r).map (i :: ·) from rfl, e] at h; cases h
      rw [blsO_inv e]; rfl
@[simp] theorem intsO_map (ns : List Int) : intsO (ns.map .int) = some ns := by
  induction ns with
  | nil => rfl
  | cons a r ih => show (intsO (r.map .int)).map (a :: ·) = _; rw [ih]; rfl
def qAll (xs : List AV) (s : S) : R AV := need (blsO xs) fun ns => .ok (.bl (ns.all id)) s
def rCL {α : Type} (T : Tx) (XE : XEt) (rl : Rl α V) (op : List AV -> S -> R α) : List V -> Hp -> VK -> Prop := fun vs H Q => ∃ a ws ρ xs s, vs = [.ref a] /\ SR T ρ s H /\ H a = some (.lst ws) /\ VRs T ρ H xs ws /\ Out T XE rl ρ H (op xs s) Q
theorem cl_of {α : Type} {rl : Rl α V} {op : List AV -> S -> R α} {r : Evs} {σ : St} {H : Hp} {Q : VK} (h : tG T XE rl (gOp op r) σ H Q) : tCB (rCL T XE rl op) (tCons (tL T XE r) tNil) σ H Q := by
  obtain ⟨ρ, env, s, hs, he, ho⟩ := h
  refine step hs he ho fun v s1 ρ1 H1 x _ u1 sr1 er1 vr1 ho1 => ?_
  obtain ⟨a, ws, rfl, _, _, q, k⟩ := vr1
  exact ⟨a, ws, ρ1, v, s1, rfl, sr1, q, k, ho1⟩
theorem mg_BL {α : Type} {rl : Rl α V} {id : String} {op : List AV -> S -> R α} {x : Str} {p : Pos} {e : Expr} {r : Evs} (hc : CallR X (.builtin id) (rCL T XE rl op)) (hm : X.mg x = none) (hv : bootBuiltins x = some (.builtin id)) (ha : PE X e (tL T XE r)) (hg : Gl X x := by rfl) (hn : x ≠ "__name__" := by decide) (hdb : (x == ("__debug__" : Str)) = false := by decide)
    (he : starEach [e] X.env = (false, eval e X.env) :: starEach [] X.env := by rfl) (hpl : (backTo pos (starEach [] X.env)).any (·.1) = false := by rfl) : PE X (.Call (.Name x p) [e] [] pos) (tG T XE rl (gOp op r)) :=
  PE.imp (pe_callB hc hg hm hv (pa_cons ha pa_nil he) hn hdb he hpl) fun _ _ _ h => cl_of h
theorem cAll (hc : X.calm = true) : CallR X (.builtin "all") (rCL T XE (rV T) qAll) := by
  intro pins s σ H xs us Q I r ⟨a, ws, ρ, ys, st, e, sr, h1, k, ho⟩
  subst e
  obtain ⟨ns, e, ho⟩ := ho.needInv
  rw [blsO_inv e] at k
  rw [k.bls_inv] at h1
  exact call_allL hc pins s σ H _ us Q I r ⟨a, ns, rfl, SqL.of h1, ho.hereV sr vr_bl⟩
def qList (xs : List AV) (s : S) : R (List AV) := .ok xs s
theorem cList (hK : X.K = T.K) : CallR X (.type "list") (rCQ T XE (rL T) qList) := by
  intro pins s σ H xs us Q I r ⟨a, ws, ρ, ys, st, e, sr, h1, k, ho⟩
  subst e
  exact call_list_of pins s σ H _ us Q I r ⟨a, ws, rfl, by rw [hK]; exact h1, fun l hl => ho.lst sr hl k⟩
def qTuple (xs : List AV) (s : S) : R AV := .ok (.tup xs) s
theorem cTuple (hK : X.K = T.K) : CallR X (.type "tuple") (rCQ T XE (rV T) qTuple) := by
  intro pins s σ H xs us Q I r ⟨a, ws, ρ, ys, st, e, sr, h1, k, ho⟩
  subst e
  refine call_tuple_of pins s σ H _ us Q I r ⟨a, ws, rfl, ?_⟩
  rcases h1 with h1 | h1
  · exact .inl ⟨by rw [hK]; exact h1, fun l hl => ho.tup sr hl k⟩
  · exact .inr ⟨by rw [hK]; exact h1, ho.hereV sr (vr_tup h1 k)⟩
def tagOf (v : AV) (s : S) : Option String := match v with
  | .non => some "NoneType"
  | .bl _ => some "bool"
  | .int _ => some "int"
  | .str _ => some "str"
  | .tup _ => some "tuple"
  | .sq _ => some "list"
  | .ref i => match s[i]? with
    | some (.lst _) => some "list"
    | some (.dK _) => some "dict"
    | some (.dT _) => some "dict"
    | _ => none
def tyTags : List String := ["NoneType", "bool", "int", "str", "tuple", "list", "dict"]
def isTag (t n : String) : Bool := t == n || (t == "bool" && n == "int")
theorem kit_of {K : PySem.W.Frag} {t n : String} (ht : t ∈ tyTags) (hn : n ∈ tyTags) : PySem.W.kitOne K (.type t) (.type n) = some (isTag t n) := by
  simp only [tyTags, List.mem_cons, List.not_mem_nil, or_false] at ht hn
  rcases ht with rfl | rfl | rfl | rfl | rfl | rfl | rfl <;> rcases hn with rfl | rfl | rfl | rfl | rfl | rfl | rfl <;> rfl
theorem tag_inv {ρ : List Addr} {H : Hp} {s : S} {v : AV} {t : String} {x : V} (h : tagOf v s = some t) (sr : SR T ρ s H) (va : VR T ρ H v x) : TagV T.K H x t /\ t ∈ tyTags := by
  cases v with
  | non => cases va.non_inv; cases h; exact ⟨rfl, by simp [tyTags]⟩
  | bl c => cases va.bl_inv; cases h; exact ⟨rfl, by simp [tyTags]⟩
  | int c => cases va.int_inv; cases h; exact ⟨rfl, by simp [tyTags]⟩
  | str c => cases va.str_inv; cases h; exact ⟨rfl, by simp [tyTags]⟩
  | tup c => obtain ⟨a, vs, rfl, h1, k⟩ := va.tup_inv; cases h; exact ⟨.inl ⟨rfl, vs, h1⟩, by simp [tyTags]⟩
  | sq c => obtain ⟨a, vs, rfl, h1, k⟩ := va.sq_inv; cases h; exact ⟨.inr (.inl ⟨rfl, vs, h1.sqL⟩), by simp [tyTags]⟩
  | ref i =>
    have h : (match s[i]? with
    | some (.lst _) => some "list"
    | some (.dK _) => some "dict"
    | some (.dT _) => some "dict"
    | _ => none) = some t := h
    obtain ⟨a, e1, rfl⟩ := va.ref_inv
    split at h
    · rename_i xs e
      cases h
      obtain ⟨b, e2, vs, h1, _⟩ := sr.obj i _ e
      rw [e1] at e2; cases e2
      exact ⟨.inr (.inl ⟨rfl, vs, SqL.of h1⟩), by simp [tyTags]⟩
    · rename_i xs e
      cases h
      obtain ⟨b, e2, vs, h1, _⟩ := sr.obj i _ e
      rw [e1] at e2; cases e2
      exact ⟨.inr (.inr ⟨rfl, .inl ⟨vs, h1⟩⟩), by simp [tyTags]⟩
    · rename_i xs e
      cases h
      obtain ⟨b, e2, vs, h1, _⟩ := sr.obj i _ e
      rw [e1] at e2; cases e2
      exact ⟨.inr (.inr ⟨rfl, .inr ⟨vs, h1⟩⟩), by simp [tyTags]⟩
    · cases h
def opIsi (n : String) (v : AV) (s : S) : R AV := need (tagOf v s) fun t => .ok (.bl (isTag t n)) s
theorem me_isi {n : String} {nm : Str} {p p2 : Pos} {e : Expr} {m : Ev} (hK : X.K = T.K) (hn : n ∈ tyTags) (hm : X.mg "isinstance" = none) (hm2 : X.mg nm = none) (hv2 : bootBuiltins nm = some (.type n)) (ha : PE X e (tE T XE m)) (hg : Gl X "isinstance" := by rfl) (hg2 : Gl X nm := by rfl) (hnn : nm ≠ "__name__" := by decide) (hdb : (nm == ("__debug__" : Str)) = false := by decide)
    (he : starEach [e, .Name nm p2] X.env = (false, eval e X.env) :: starEach [.Name nm p2] X.env := by rfl) (he2 : starEach [.Name nm p2] X.env = (false, eval (.Name nm p2) X.env) :: starEach [] X.env := by rfl) (hpl : (backTo pos (starEach [.Name nm p2] X.env)).any (·.1) = false := by rfl) :
    PE X (.Call (.Name "isinstance" p) [e, .Name nm p2] [] pos) (tE T XE (mUn (opIsi n) m)) :=
  PE.imp (pe_callB call_isT hg hm Ro.boot_isinstance (pa_cons ha (pa_cons (pe_bltn (v := .ty n) hg2 hm2 hv2 rfl hnn hdb) pa_nil he2) he) (by decide) (by decide) he hpl) fun σ H Q ⟨ρ, env, s, hs, he, ho⟩ =>
    step hs he ho fun v s1 ρ1 H1 x _ u1 sr1 er1 vr1 ho1 => by
      obtain ⟨t, e, ho1⟩ := ho1.needInv
      obtain ⟨h1, h2⟩ := tag_inv e sr1 vr1
      exact ⟨t, x, n, _, rfl, by rw [hK]; exact h1, kit_of h2 hn, ho1.hereV sr1 vr_bl⟩
end
end Mm
namespace Mm
open PySem L2
section
variable {T : Tx} {XE : XEt} {X : Cx} {pos : Pos}
def rMM (T : Tx) (XE : XEt) (op : AV -> List AV -> S -> R AV) : V -> List V -> Hp -> VK -> Prop := fun x xs H Q => ∃ ρ v vs s, SR T ρ s H /\ VR T ρ H v x /\ VRs T ρ H vs xs /\ Out T XE (rV T) ρ H (op v vs s) Q
def isTy (n : String) (v : AV) (s : S) : Option Unit := match v, n with
  | .str _, "str" => some ()
  | .sq _, "list" => some ()
  | .ref i, "list" => (lstO s i).map fun _ => ()
  | .ref i, "dict" => match s[i]? with
    | some (.dK _) => some ()
    | some (.dT _) => some ()
    | _ => none
  | _, _ => none
theorem isTy_inv {n : String} {ρ : List Addr} {H : Hp} {s : S} {v : AV} {x : V} (h : isTy n v s = some ()) (sr : SR T ρ s H) (va : VR T ρ H v x) : tyV T.K n x H := by
  unfold isTy at h
  split at h
  · cases va.str_inv; rfl
  · obtain ⟨a, vs, rfl, h1, k⟩ := va.sq_inv
    exact .inl ⟨rfl, vs, h1.sqL⟩
  · rename_i i
    cases e : lstO s i with
    | none => rw [e] at h; cases h
    | some xs =>
      obtain ⟨a, vs, rfl, _, h1, k⟩ := sr.lstAt (lstO_inv e) va
      exact .inl ⟨rfl, vs, SqL.of h1⟩
  · rename_i i
    obtain ⟨a, e1, rfl⟩ := va.ref_inv
    split at h
    · rename_i xs e
      obtain ⟨b, e2, vs, h1, _⟩ := sr.obj i _ e
      rw [e1] at e2; cases e2
      exact .inr (.inr (.inl ⟨rfl, .inl ⟨vs, h1⟩⟩))
    · rename_i xs e
      obtain ⟨b, e2, vs, h1, _⟩ := sr.obj i _ e
      rw [e1] at e2; cases e2
      exact .inr (.inr (.inl ⟨rfl, .inr ⟨vs, h1⟩⟩))
    · cases h
  · cases h
def mMet (n : String) (op : AV -> List AV -> S -> R AV) (o : Ev) (r : Evs) : Ev := fun env s => (o env s).bind fun v s1 => need (isTy n v s1) fun _ => (r env s1).bind fun vs s2 => op v vs s2
theorem met_of {n : String} {op : AV -> List AV -> S -> R AV} {o : Ev} {r : Evs} {σ : St} {H : Hp} {Q : VK} (h : tE T XE (mMet n op o r) σ H Q) : tBM T.K n (rMM T XE op) (tE T XE o) (tP T XE r) σ H Q := by
  obtain ⟨ρ, env, s, hs, he, ho⟩ := h
  refine step hs he ho fun v s1 ρ1 H1 x _ u1 sr1 er1 vr1 ho1 => ?_
  obtain ⟨_, e, ho1⟩ := ho1.needInv
  exact ⟨isTy_inv e sr1 vr1, step sr1 er1 ho1 fun vs s2 ρ2 H2 xs _ u2 sr2 er2 vr2 ho2 => ⟨ρ2, v, vs, s2, sr2, VR.up u2 vr1, vr2, ho2⟩⟩
theorem me_met {n id : String} {name : Str} {apos cpos : Pos} {o e : Expr} {es : List Expr} {op : AV -> List AV -> S -> R AV} {m : Ev} {r : Evs} (hK : X.K = T.K) (pa : PlainAttrs n) (slot : Slot n name id) (hty : typeOf (.builtin id) = pure (.type "method_descriptor")) (hm : MtR X id (rMM T XE op)) (ho : PE X o (tE T XE m)) (ha : PA X (e :: es) (tP T XE r))
    (hbase : attributeBase o name X.env (eval o X.env) = eval o X.env := by rfl)
    (hfew : ((backTo cpos (starEach (e :: es) X.env)).all (fun x => !x.1) && (backToKw cpos (keywordEach [] X.env)).all (fun x => x.1.isSome)
      && decide ((e :: es).length + ([] : List Keyword).length + (if ([] : List Keyword).isEmpty then 0 else 1) < 30)) = true := by rfl)
    (hline : (apos.endLine == cpos.line) = true := by rfl) (hs : starEach (e :: es) X.env = (false, eval e X.env) :: starEach es X.env := by rfl) (hplain : (backTo cpos (starEach es X.env)).any (·.1) = false := by rfl) :
    PE X (.Call (.Attribute o name apos) (e :: es) [] cpos) (tE T XE (mMet n op m r)) :=
  PE.imp (pe_bmK hK pa slot hty hm ho ha hbase hfew hline hs hplain) fun _ _ _ h => met_of h
def mMet0 (n : String) (op : AV -> List AV -> S -> R AV) (o : Ev) : Ev := fun env s => (o env s).bind fun v s1 => need (isTy n v s1) fun _ => op v [] s1
theorem Out.setL {α β : Type} {rl : Rl α β} {ρ : List Addr} {H : Hp} {s : S} {i : Nat} {a : Addr} {vs ws : List V} {ys : List AV} {v : α} {x : β} {Q : β -> Hp -> Prop} (ho : Out T XE rl ρ H (.ok v (s.set i (.lst ys))) Q) (sr : SR T ρ s H) (ea : ρ[i]? = some a) (h1 : H a = some (.lst vs)) (k : VRs T ρ H ys ws) (hx : rl.r H ρ (upd H a (.lst ws)) v x) : Q x (upd H a (.lst ws)) := by
  have up : Up ρ H ρ (upd H a (.lst ws)) := sr.upSet ea h1 (fun _ z => nomatch z) (fun _ _ z => nomatch z)
  exact ho ρ _ x up (sr.set ea up (OR.lst upd_same (k.up up))) hx
theorem Out.setLV {ρ : List Addr} {H : Hp} {s : S} {i : Nat} {a : Addr} {vs ws : List V} {ys : List AV} {v : AV} {x : V} {Q : VK} (ho : Out T XE (rV T) ρ H (.ok v (s.set i (.lst ys))) Q) (sr : SR T ρ s H) (ea : ρ[i]? = some a) (h1 : H a = some (.lst vs)) (k : VRs T ρ H ys ws) (hx : VR T ρ (upd H a (.lst ws)) v x) : Q x (upd H a (.lst ws)) := ho.setL sr ea h1 k hx
def opAppend : AV -> List AV -> S -> R AV
  | .ref i, [w], s => need (lstO s i) fun xs => if xs.length < sizeLine then .ok .non (s.set i (.lst (xs ++ [w]))) else .bad
  | _, _, _ => .bad
theorem dAppend : MtR X "list.append" (rMM T XE opAppend) := by
  intro pins s σ H x xs v us Q I rx rv ⟨ρ, a, vs, st, sr, va, vb, ho⟩
  unfold opAppend at ho
  split at ho
  · obtain ⟨ys, e, ho⟩ := ho.needInv
    obtain ⟨hl, ho⟩ := ho.ifInv
    obtain ⟨p, ws, rfl, ea, h1, k⟩ := sr.lstAt (lstO_inv e) va
    obtain ⟨y, rfl, k2⟩ := vb.one_inv
    exact mt_append pins s σ H _ _ v us Q I rx rv ⟨p, ws, y, rfl, rfl, h1, by rw [← k.length]; exact hl, ho.setLV sr ea h1 (k.append (.one k2)) vr_non⟩
  · exact ho.elim
def opPop : AV -> List AV -> S -> R AV
  | .ref i, [.int j], s => need (lstO s i) fun xs => if 0 <= j /\ j < xs.length then need xs[j.toNat]? fun y => .ok y (s.set i (.lst (xs.eraseIdx j.toNat))) else .bad
  | _, _, _ => .bad
theorem VRs.erase {ρ : List Addr} {H : Hp} : ∀ {l : List AV} {xs : List V} (i : Nat), VRs T ρ H l xs -> VRs T ρ H (l.eraseIdx i) (xs.eraseIdx i)
  | [], _, _, h => by cases h.nil_inv; exact .nil
  | _ :: _, _, 0, h => by obtain ⟨x, ys, rfl, _, k⟩ := h.cons_inv; exact k
  | _ :: _, _, i + 1, h => by obtain ⟨x, ys, rfl, k1, k⟩ := h.cons_inv; exact .cons k1 (VRs.erase i k)
theorem dPop : MtR X "list.pop" (rMM T XE opPop) := by
  intro pins s σ H x xs v us Q I rx rv ⟨ρ, a, vs, st, sr, va, vb, ho⟩
  unfold opPop at ho
  split at ho
  · rename_i i0 j
    obtain ⟨ys, e, ho⟩ := ho.needInv
    obtain ⟨hj, ho⟩ := ho.ifInv
    obtain ⟨y, ey, ho⟩ := ho.needInv
    obtain ⟨p, ws, rfl, ea, h1, k⟩ := sr.lstAt (lstO_inv e) va
    obtain ⟨z, rfl, k2⟩ := vb.one_inv
    cases k2.int_inv
    obtain ⟨y', ey', ky⟩ := k.get ey
    have hl := k.length
    obtain ⟨its, _, _, hz⟩ := I.list (SqL.of h1)
    have h63 := line63
    have up : Up ρ H ρ (upd H p (.lst (ws.eraseIdx j.toNat))) := sr.upSet ea h1 (fun _ z => nomatch z) (fun _ _ z => nomatch z)
    refine mt_popAt pins s σ H _ _ v us Q I rx rv ⟨p, ws, j, j.toNat, y', rfl, rfl, h1, by omega, by omega, ix_ok hj.1 (by rw [← hl]; exact hj.2), ey', ho.setLV sr ea h1 (k.erase _) (VR.up up ky)⟩
  · exact ho.elim
section
variable {κ : Type} [DecidableEq κ]
def valA : List (κ × AV) -> κ -> Option AV
  | [], _ => none
  | p :: r, k => if p.1 = k then some p.2 else valA r k
def putA (kvs : List (κ × AV)) (k : κ) (v : AV) : List (κ × AV) :=
  if (kvs.any fun kv => decide (kv.1 = k)) = true then kvs.map (fun kv => if kv.1 = k then (kv.1, v) else kv) else kvs ++ [(k, v)]
theorem val_rel {ρ : List Addr} {H : Hp} (k : κ) : ∀ {kvs : List (κ × AV)} {ks : List (κ × V)}, kvs.map (·.1) = ks.map (·.1) -> VRs T ρ H (kvs.map (·.2)) (ks.map (·.2)) -> (∀ v, valA kvs k = some v -> ∃ x, valV ks k = some x /\ VR T ρ H v x) /\ (valA kvs k = none -> valV ks k = none)
  | [], ks, e, h => by
    cases ks with
    | nil => exact ⟨(fun v z => nomatch z), fun _ => rfl⟩
    | cons a r => cases e
  | p :: r, ks, e, h => by
    cases ks with
    | nil => cases e
    | cons q t =>
      rw [List.map_cons, List.map_cons, List.cons.injEq] at e
      rw [List.map_cons, List.map_cons] at h
      obtain ⟨x, ys, e2, k1, k2⟩ := h.cons_inv
      rw [List.cons.injEq] at e2
      obtain ⟨ih1, ih2⟩ := val_rel k e.2 (e2.2 ▸ k2)
      unfold valA
      by_cases hp : p.1 = k
      · rw [if_pos hp, valV_pos (e.1 ▸ hp)]
        refine ⟨fun v z => ?_, fun z => nomatch z⟩
        cases z
        exact ⟨q.2, rfl, e2.1 ▸ k1⟩
      · rw [if_neg hp, valV_neg (fun z => hp (e.1.trans z))]
        exact ⟨ih1, ih2⟩
theorem put_rel {ρ : List Addr} {H : Hp} (k : κ) {v : AV} {x : V} (kv : VR T ρ H v x) {kvs : List (κ × AV)} {ks : List (κ × V)} (e : kvs.map (·.1) = ks.map (·.1)) (h : VRs T ρ H (kvs.map (·.2)) (ks.map (·.2))) :
    (putA kvs k v).map (·.1) = (putK ks k x).map (·.1) /\ VRs T ρ H ((putA kvs k v).map (·.2)) ((putK ks k x).map (·.2)) := by
  have an : ∀ {kvs : List (κ × AV)} {ks : List (κ × V)}, kvs.map (·.1) = ks.map (·.1) -> (kvs.any fun kv => decide (kv.1 = k)) = (ks.any fun kv => decide (kv.1 = k)) := by
    intro kvs
    induction kvs with
    | nil => intro ks e; cases ks with | nil => rfl | cons a r => cases e
    | cons p r ih =>
      intro ks e
      cases ks with
      | nil => cases e
      | cons q t =>
        rw [List.map_cons, List.map_cons, List.cons.injEq] at e
        rw [List.any_cons, List.any_cons, ih e.2, e.1]
  unfold putA putK
  rw [an e]
  by_cases ha : (ks.any fun kv => decide (kv.1 = k)) = true
  · rw [if_pos ha, if_pos ha]
    clear ha an
    induction kvs generalizing ks with
    | nil => cases ks with | nil => exact ⟨rfl, .nil⟩ | cons a r => cases e
    | cons p r ih =>
      cases ks with
      | nil => cases e
      | cons q t =>
        rw [List.map_cons, List.map_cons, List.cons.injEq] at e
        rw [List.map_cons, List.map_cons] at h
        obtain ⟨y, ys, e2, k1, k2⟩ := h.cons_inv
        rw [List.cons.injEq] at e2
        obtain ⟨i1, i2⟩ := ih e.2 (e2.2 ▸ k2)
        simp only [List.map_cons, e.1]
        by_cases hq : q.1 = k
        · rw [if_pos hq, if_pos hq, i1]; exact ⟨rfl, .cons kv i2⟩
        · rw [if_neg hq, if_neg hq, i1, e.1]; exact ⟨rfl, .cons (e2.1 ▸ k1) i2⟩
  · rw [if_neg ha, if_neg ha, List.map_append, List.map_append, List.map_append, List.map_append, e]
    exact ⟨rfl, h.append (.one kv)⟩
end
def keyO : AV -> Option Key
  | .int i => some (.inl i)
  | .str x => some (.inr x)
  | _ => none
theorem keyO_inv {ρ : List Addr} {H : Hp} {v : AV} {k : Key} {x : V} (h : keyO v = some k) (va : VR T ρ H v x) : x = kV k := by
  cases v <;> try cases h
  · cases va.int_inv; rfl
  · cases va.str_inv; rfl
def dKO (s : S) (i : Nat) : Option (List (Key × AV)) := match s[i]? with
  | some (.dK xs) => some xs
  | _ => none
theorem dKO_inv {s : S} {i : Nat} {xs : List (Key × AV)} (h : dKO s i = some xs) : s[i]? = some (.dK xs) := by
  unfold dKO at h
  split at h
  · cases h; assumption
  · cases h
def opDget : AV -> AV -> S -> R AV
  | .ref i, y, s => need (dKO s i) fun kvs => need (keyO y) fun k => need (valA kvs k) fun v => .ok v s
  | _, _, _ => .bad
theorem me_dget {o i : Expr} {m n : Ev} (hu : X.A.units + 1 < cLine) (ho : PE X o (tE T XE m)) (hi : PE X i (tE T XE n)) (hs : NoSl i := by exact fun _ _ => rfl) : PE X (.Subscript o i pos) (tE T XE (mBin opDget m n)) :=
  PE.imp (pe_dget hu ho hi hs) fun σ H Q ⟨ρ, env, s, hs, he, ho⟩ => step hs he ho fun v s1 ρ1 H1 x _ u1 sr1 er1 vr1 ho1 => step sr1 er1 ho1 fun w s2 ρ2 H2 y _ u2 sr2 er2 vr2 ho2 => by
    have vr1 : VR T ρ2 H2 v x := VR.up u2 vr1
    cases v with
    | ref i =>
      obtain ⟨kvs, e1, ho2⟩ := ho2.needInv
      obtain ⟨k, e2, ho2⟩ := ho2.needInv
      obtain ⟨z, e3, ho2⟩ := ho2.needInv
      obtain ⟨a, ks, rfl, ea, h1, q1, q2⟩ := sr2.dKAt (dKO_inv e1) vr1
      obtain ⟨x', ex, kx⟩ := (val_rel k q1 q2).1 z e3
      exact ⟨a, x', rfl, by rw [keyO_inv e2 vr2, ← ex]; exact DGet.k h1, ho2.hereV sr2 kx⟩
    | _ => exact ho2.elim
theorem din_of {op : AV -> AV -> S -> R AV} {b : Bool -> Bool} (hop : ∀ y w s, op y w s = (match w with | .ref i => need (dKO s i) fun kvs => need (keyO y) fun k => .ok (.bl (b (valA kvs k).isSome)) s | _ => .bad)) {m n : Ev} {σ : St} {H : Hp} {Q : VK} (h : tE T XE (mBin op m n) σ H Q) :
    tE T XE m σ H fun y H1 => tE T XE n σ H1 fun x H2 => ∃ a o, x = .ref a /\ DGet H2 a y o /\ Q (.bl (b o.isSome)) H2 := by
  obtain ⟨ρ, env, s, hs, he, ho⟩ := h
  refine step hs he ho fun v s1 ρ1 H1 x _ u1 sr1 er1 vr1 ho1 => step sr1 er1 ho1 fun w s2 ρ2 H2 y _ u2 sr2 er2 vr2 ho2 => ?_
  rw [hop] at ho2
  have vr2 : VR T ρ2 H2 w y := vr2
  cases w with
  | ref i =>
    obtain ⟨kvs, e1, ho2⟩ := ho2.needInv
    obtain ⟨k, e2, ho2⟩ := ho2.needInv
    obtain ⟨a, ks, rfl, ea, h1, q1, q2⟩ := sr2.dKAt (dKO_inv e1) vr2
    have vk := keyO_inv e2 (VR.up u2 vr1)
    refine ⟨a, valV ks k, rfl, by rw [vk]; exact DGet.k h1, ?_⟩
    have : (valV ks k).isSome = (valA kvs k).isSome := by
      cases ev : valA kvs k with
      | none => rw [(val_rel k q1 q2).2 ev]; rfl
      | some z => obtain ⟨x', ex, _⟩ := (val_rel k q1 q2).1 z ev; rw [ex]; rfl
    rw [this]
    exact ho2.hereV sr2 vr_bl
  | _ => exact ho2.elim
def putD (v d y : AV) (env : En) (s : S) : RS := match d with
  | .ref i => match dKO s i, keyO y with
    | some kvs, some k => if kvs.length < sizeLine then .nx env (s.set i (.dK (putA kvs k v))) else .bad
    | _, _ => .bad
  | _ => .bad
def sDput (d y v : Ev) : Ms := fun env s => (v env s).bindS fun a s1 => (d env s1).bindS fun b s2 => (y env s2).bindS fun c s3 => putD a b c env s3
theorem ms_dput {o i value : Expr} {pos' : Pos} {m n r : Ev} (hu : X.A.units + 1 < cLine) (ho : PE X o (tE T XE m)) (hi : PE X i (tE T XE n)) (hv : PE X value (tE T XE r)) (hs : swapsWith value (some (.Subscript o i pos')) pos.line X.env = pure false := by rfl) : PS X (.Assign [.Subscript o i pos'] value pos) (tS T XE (sDput m n r)) :=
  PS.imp (ps_dput hu ho hi hv hs) fun D σ H ⟨ρ, env, s, hs, he, ho⟩ => stepS hs he ho fun v s1 ρ1 H1 x _ u1 sr1 er1 vr1 ho1 => stepS sr1 er1 ho1 fun d s2 ρ2 H2 y _ u2 sr2 er2 vr2 ho2 => stepS sr2 er2 ho2 fun c s3 ρ3 H3 z _ u3 sr3 er3 vr3 ho3 => by
    have vr2 : VR T ρ3 H3 d y := VR.up u3 vr2
    have vr1 : VR T ρ3 H3 v x := VR.up (u2.trans u3) vr1
    unfold putD at ho3
    split at ho3
    · split at ho3
      · rename_i i kvs k e1 e2
        obtain ⟨hl, ho3⟩ := ho3.ifInv
        obtain ⟨a, ks, rfl, ea, h1, q1, q2⟩ := sr3.dKAt (dKO_inv e1) vr2
        have hkl : kvs.length = ks.length := by have := congrArg List.length q1; simpa using this
        refine ⟨a, _, rfl, by rw [keyO_inv e2 vr3]; exact DPut.k h1 (by rw [← hkl]; exact hl), ?_⟩
        obtain ⟨p1, p2⟩ := put_rel k vr1 q1 q2
        have up : Up ρ3 H3 ρ3 (upd H3 a (.dK (putK ks k x))) := sr3.upSet ea h1 (fun _ z => nomatch z) (fun _ _ z => nomatch z)
        exact ho3 ρ3 _ σ up (sr3.set ea up ⟨_, upd_same, p1, p2.up up⟩) (er3.up up)
      · exact ho3.elim
    · exact ho3.elim
def opGet2 (d y z : AV) (s : S) : R AV := match d with
  | .ref i => need (dKO s i) fun kvs => need (keyO y) fun k => .ok ((valA kvs k).getD z) s
  | _ => .bad
def mGet2 (d y z : Ev) : Ev := fun env s => (d env s).bind fun a s1 => need (isTy "dict" a s1) fun _ => (y env s1).bind fun b s2 => (z env s2).bind fun c s3 => opGet2 a b c s3
def mD0 : Ev := fun _ s => .ok (.ref s.length) (s ++ [.dK []])
def prs : List (Ev × Ev) -> En -> S -> R (List (AV × AV))
  | [], _, s => .ok [] s
  | (a, b) :: r, env, s => (a env s).bind fun v s1 => (b env s1).bind fun w s2 => (prs r env s2).bind fun l s3 => .ok ((v, w) :: l) s3
def keysO : List (AV × AV) -> Option (List (Key × AV))
  | [] => some []
  | (a, b) :: r => (keyO a).bind fun k => (keysO r).map ((k, b) :: ·)
def mergeA (kvs more : List (Key × AV)) : List (Key × AV) := more.foldl (fun acc kv => putA acc kv.1 kv.2) kvs
def mDisp (l : List (Ev × Ev)) : Ev := fun env s => (prs l env s).bind fun ps s1 => need (keysO ps) fun kvs => if kvs.length <= 15 then .ok (.ref s1.length) (s1 ++ [.dK (mergeA [] kvs)]) else .bad
def VRp (T : Tx) (ρ : List Addr) (H : Hp) (ps : List (AV × AV)) (xs : List (V × V)) : Prop := VRs T ρ H (ps.map (·.1)) (xs.map (·.1)) /\ VRs T ρ H (ps.map (·.2)) (xs.map (·.2))
theorem bind_assoc {α β γ : Type} (r : R α) (f : α -> S -> R β) (g : β -> S -> R γ) : (r.bind f).bind g = r.bind fun a s => (f a s).bind g := by cases r <;> rfl
theorem pairs_of {α β : Type} {rl : Rl α β} {Q : β -> Hp -> Prop} {env : En} {σ : St} : ∀ (l : List (Ev × Ev)) {ρ : List Addr} {s : S} {H : Hp} {k : List (AV × AV) -> S -> R α} {F : List (V × V) -> Hp -> Prop}, SR T ρ s H -> ER T ρ H env σ -> Out T XE rl ρ H ((prs l env s).bind k) Q ->
    (∀ ps s1 ρ1 H1 xs, prs l env s = .ok ps s1 -> Up ρ H ρ1 H1 -> SR T ρ1 s1 H1 -> ER T ρ1 H1 env σ -> VRp T ρ1 H1 ps xs -> F xs H1) -> tPairs (l.map fun p => (tE T XE p.1, tE T XE p.2)) σ H F
  | [], ρ, s, H, k, F, hs, he, ho, hk => hk [] s ρ H [] rfl .refl hs he ⟨.nil, .nil⟩
  | (a, b) :: r, ρ, s, H, k, F, hs, he, ho, hk => by
    have e : (prs ((a, b) :: r) env s).bind k = (a env s).bind fun v s1 => (b env s1).bind fun w s2 => (prs r env s2).bind fun l s3 => k ((v, w) :: l) s3 := by
      show ((a env s).bind fun v s1 => (b env s1).bind fun w s2 => (prs r env s2).bind fun l s3 => .ok ((v, w) :: l) s3).bind k = _
      rw [bind_assoc]
      congr 1; funext v s1
      rw [bind_assoc]
      congr 1; funext w s2
      rw [bind_assoc]
      rfl
    rw [e] at ho
    refine step hs he ho fun v s1 ρ1 H1 x q1 u1 sr1 er1 vr1 ho1 => step sr1 er1 ho1 fun w s2 ρ2 H2 y q2 u2 sr2 er2 vr2 ho2 => ?_
    refine pairs_of r sr2 er2 ho2 fun ps s3 ρ3 H3 xs q3 u3 sr3 er3 vp => hk ((v, w) :: ps) s3 ρ3 H3 _ (by have q1 : a env s = .ok v s1 := q1; have q2 : b env s1 = .ok w s2 := q2; show ((a env s).bind fun v s1 => (b env s1).bind fun w s2 => (prs r env s2).bind fun l s3 => .ok ((v, w) :: l) s3) = _; rw [q1, bind_ok, q2, bind_ok, q3, bind_ok]) ((u1.trans u2).trans u3) sr3 er3 ⟨?_, ?_⟩
    · exact .cons (VR.up (u2.trans u3) vr1) vp.1
    · exact .cons (VR.up u3 vr2) vp.2
theorem keysO_inv {ρ : List Addr} {H : Hp} : ∀ {ps : List (AV × AV)} {kvs : List (Key × AV)} {xs : List (V × V)}, keysO ps = some kvs -> VRp T ρ H ps xs -> ∃ ks : List (Key × V), xs = ks.map (fun kv => (kV kv.1, kv.2)) /\ kvs.map (·.1) = ks.map (·.1) /\ VRs T ρ H (kvs.map (·.2)) (ks.map (·.2))
  | [], kvs, xs, h, vp => by
    cases h
    have := vp.1.nil_inv
    cases xs with
    | nil => exact ⟨[], rfl, rfl, .nil⟩
    | cons a r => cases this
  | (a, b) :: r, kvs, xs, h, vp => by
    have h : (keyO a).bind (fun k => (keysO r).map ((k, b) :: ·)) = some kvs := h
    cases e1 : keyO a with
    | none => rw [e1] at h; cases h
    | some k =>
      cases e2 : keysO r with
      | none => rw [e1, e2] at h; cases h
      | some q =>
        rw [e1, e2] at h
        cases h
        cases xs with
        | nil => obtain ⟨_, _, z, _⟩ := vp.1.cons_inv; cases z
        | cons p xs =>
          obtain ⟨x1, y1, z1, k1, k2⟩ := vp.1.cons_inv
          obtain ⟨x2, y2, z2, k3, k4⟩ := vp.2.cons_inv
          rw [List.map_cons, List.cons.injEq] at z1 z2
          obtain ⟨ks, rfl, q1, q2⟩ := keysO_inv e2 ⟨z1.2 ▸ k2, z2.2 ▸ k4⟩
          refine ⟨(k, p.2) :: ks, ?_, by rw [List.map_cons, List.map_cons, q1], .cons (z2.1 ▸ k3) q2⟩
          rw [List.map_cons, ← keyO_inv e1 (z1.1 ▸ k1)]
theorem merge_rel {ρ : List Addr} {H : Hp} : ∀ {more : List (Key × AV)} {mo : List (Key × V)} {kvs : List (Key × AV)} {ks : List (Key × V)}, more.map (·.1) = mo.map (·.1) -> VRs T ρ H (more.map (·.2)) (mo.map (·.2)) -> kvs.map (·.1) = ks.map (·.1) -> VRs T ρ H (kvs.map (·.2)) (ks.map (·.2)) ->
    (mergeA kvs more).map (·.1) = (mergeK ks mo).map (·.1) /\ VRs T ρ H ((mergeA kvs more).map (·.2)) ((mergeK ks mo).map (·.2))
  | [], mo, kvs, ks, e, h, e2, h2 => by
    cases mo with
    | nil => exact ⟨e2, h2⟩
    | cons a r => cases e
  | p :: r, mo, kvs, ks, e, h, e2, h2 => by
    cases mo with
    | nil => cases e
    | cons q t =>
      rw [List.map_cons, List.map_cons, List.cons.injEq] at e
      rw [List.map_cons, List.map_cons] at h
      obtain ⟨y, ys, z, k1, k2⟩ := h.cons_inv
      rw [List.cons.injEq] at z
      obtain ⟨p1, p2⟩ := put_rel p.1 (z.1 ▸ k1) e2 h2
      have := merge_rel (kvs := putA kvs p.1 p.2) (ks := putK ks q.1 q.2) e.2 (z.2 ▸ k2) (by rw [← e.1]; exact p1) (by rw [← e.1]; exact p2)
      exact this
theorem me_disp {keys : List (Option Expr)} {values : List Expr} {l : List (Ev × Ev)} (h : PPs X pos keys values (l.map fun p => (tE T XE p.1, tE T XE p.2))) (hall : keys.all (·.isSome) = true := by rfl) (hl : keys.length = values.length := by rfl) (h0 : keys ≠ [] := by decide) (h15 : keys.length <= 15 := by decide) : PE X (.Dict keys values pos) (tE T XE (mDisp l)) :=
  PE.imp (pe_disp h hall hl h0 h15) fun σ H Q ⟨ρ, env, s, hs, he, ho⟩ p hp => by
    have u0 := hs.upNew (o := .dK []) hp
    have n0 := hs.out hp
    refine pairs_of l (hs.new hp) (he.up u0) (Out.up u0 ho) fun ps s1 ρ1 H1 xs q0 u1 sr1 er1 vp => ?_
    unfold mDisp at ho
    rw [q0, bind_ok] at ho
    obtain ⟨kvs, e1, ho⟩ := ho.needInv
    obtain ⟨hl, ho⟩ := ho.ifInv
    obtain ⟨ks, rfl, q1, q2⟩ := keysO_inv e1 vp
    have hd := u1.fr p _ upd_same n0
    have hkl : kvs.length = ks.length := by have := congrArg List.length q1; simpa using this
    refine ⟨hd.1, ks, rfl, by rw [← hkl]; exact hl, ?_⟩
    obtain ⟨m1, m2⟩ := merge_rel q1 q2 (kvs := []) (ks := []) rfl .nil
    have g : Gr ρ1 H1 (ρ1 ++ [p]) (upd H1 p (.dK (mergeK [] ks))) := ⟨List.prefix_append _ _, fun b ys e => by rw [upd_ne (ne_of e hd.1 (by intro z; cases z))]; exact e, fun b o v e => by rw [upd_ne (ne_of e hd.1 (by intro z; cases z))]; exact e⟩
    have g1 : Gr ρ1 H1 ρ1 (upd H1 p (.dK (mergeK [] ks))) := ⟨List.prefix_rfl, g.tups, g.frzs⟩
    have s2 : SR T ρ1 s1 (upd H1 p (.dK (mergeK [] ks))) := sr1.up g1 fun a ha => upd_ne fun z => hd.2 (z ▸ ha)
    have s3 : SR T (ρ1 ++ [p]) (s1 ++ [.dK (mergeA [] kvs)]) (upd H1 p (.dK (mergeK [] ks))) := s2.add hd.2 ⟨_, upd_same, m1, m2.gr g⟩
    have u2 : Up ρ H (ρ1 ++ [p]) (upd H1 p (.dK (mergeK [] ks))) := ((u0.trans u1).mod hp hd.2).add hp
    exact ho _ _ _ u2 s3 (vr_ref (T := T) (H := upd H1 p (.dK (mergeK [] ks))) (by rw [List.getElem?_append_right (by rw [sr1.len]; exact Nat.le_refl _), sr1.len, Nat.sub_self]; rfl))
theorem mps_nil : PPs X pos [] [] (([] : List (Ev × Ev)).map fun p => (tE T XE p.1, tE T XE p.2)) := pps_nil
theorem mps_cons {k v : Expr} {ks : List (Option Expr)} {vs : List Expr} {a b : Ev} {l : List (Ev × Ev)} (hk : PE X k (tE T XE a)) (hv : PE X v (tE T XE b)) (hr : PPs X pos ks vs (l.map fun p => (tE T XE p.1, tE T XE p.2))) : PPs X pos (some k :: ks) (v :: vs) (((a, b) :: l).map fun p => (tE T XE p.1, tE T XE p.2)) := pps_cons hk hv hr
def gSubL (o i : Ev) : Mt := fun v env s => (o env s).bindS fun a s1 => (i env s1).bindS fun b s2 => match a, b with
  | .ref k, .int j => match lstO s2 k with
    | some xs => match ixN xs.length j with
      | some n => .nx env (s2.set k (.lst (xs.set n v)))
      | none => .bad
    | none => .bad
  | _, _ => .bad
theorem mg_subL {o i : Expr} {m n : Ev} (ho : PE X o (tE T XE m)) (hi : PE X i (tE T XE n))
    (ha : ∀ v, assign (.Subscript o i pos) X.env v = (do
      let ov ← holding [v] (eval o X.env)
      let iv ← holding [v, ov] (eval i X.env)
      standAt pos
      holding [v, ov, iv] (setItem ov iv v)
      release [v, ov, iv] []) := by intro _; rfl) : PG X (.Subscript o i pos) (tT T XE (gSubL m n)) :=
  PG.imp (pg_sub ho hi set_list ha) fun x σ H Q ⟨ρ, env, s, v, hs, he, vr, ho⟩ => by
    refine stepS hs he ho fun a s1 ρ1 H1 y _ u1 sr1 er1 vr1 ho1 => stepS sr1 er1 ho1 fun b s2 ρ2 H2 z _ u2 sr2 er2 vr2 ho2 => ?_
    have vr1 : VR T ρ2 H2 a y := VR.up u2 vr1
    have vr2 : VR T ρ2 H2 b z := vr2
    have vr : VR T ρ2 H2 v x := VR.up (u1.trans u2) vr
    split at ho2
    · rename_i k j
      split at ho2
      · rename_i xs e1
        split at ho2
        · rename_i n e2
          obtain ⟨p, ws, rfl, ea, h1, k1⟩ := sr2.lstAt (lstO_inv e1) vr1
          cases vr2.int_inv
          have up : Up ρ2 H2 ρ2 (upd H2 p (.lst (ws.set n x))) := sr2.upSet ea h1 (fun _ z => nomatch z) (fun _ _ z => nomatch z)
          exact ⟨p, ws, _, n, rfl, rfl, h1, by rw [← k1.length]; exact e2, ho2 ρ2 _ σ up (sr2.set ea up (OR.lst upd_same ((k1.set n vr).up up))) (er2.up up)⟩
        · exact ho2.elim
      · exact ho2.elim
    · exact ho2.elim
theorem on_subL {o i : Ev} : GoesOn (gSubL o i) := fun v env s => by
  unfold gSubL
  cases o env s with
  | bad => exact .inr (.inr rfl)
  | ex c s1 => exact .inr (.inl ⟨_, _, rfl⟩)
  | ok a s1 =>
    simp only [bindS_ok]
    cases i env s1 with
    | bad => exact .inr (.inr rfl)
    | ex c s1 => exact .inr (.inl ⟨_, _, rfl⟩)
    | ok b s2 =>
      simp only [bindS_ok]
      split
      · split
        · split
          · exact .inl ⟨_, _, rfl⟩
          · exact .inr (.inr rfl)
        · exact .inr (.inr rfl)
      · exact .inr (.inr rfl)
def flatA : AV -> Bool
  | .non => true
  | .bl _ => true
  | .int _ => true
  | .str _ => true
  | _ => false
def toV : AV -> V
  | .bl b => .bl b
  | .int b => .int b
  | .str b => .str b
  | _ => .non
theorem toV_eq {ρ : List Addr} {H : Hp} {v : AV} {x : V} (h : flatA v = true) (k : VR T ρ H v x) : x = toV v := by
  cases v with
  | non => exact k.non_inv
  | bl b => exact k.bl_inv
  | int b => exact k.int_inv
  | str b => exact k.str_inv
  | _ => cases h
theorem toVs_eq {ρ : List Addr} {H : Hp} : ∀ {l : List AV} {xs : List V}, l.all flatA = true -> VRs T ρ H l xs -> xs = l.map toV
  | [], _, _, k => k.nil_inv
  | v :: r, _, h, k => by
    obtain ⟨x, ys, rfl, k1, k2⟩ := k.cons_inv
    rw [List.all_cons, Bool.and_eq_true] at h
    rw [toV_eq h.1 k1, toVs_eq h.2 k2]; rfl
theorem flat_toV : ∀ v : AV, flatV (toV v) = true := fun v => by cases v <;> rfl
def opCount : AV -> List AV -> S -> R AV
  | .ref i, [w], s => need (lstO s i) fun xs => if flatA w = true /\ xs.all flatA = true then .ok (.int ((xs.countP fun z => eqV (toV z) (toV w) : Nat) : Int)) s else .bad
  | _, _, _ => .bad
theorem dCount : MtR X "list.count" (rMM T XE opCount) := by
  intro pins s σ H x xs v us Q I rx rv ⟨ρ, a, vs, st, sr, va, vb, ho⟩
  unfold opCount at ho
  split at ho
  · obtain ⟨ys, e, ho⟩ := ho.needInv
    obtain ⟨⟨f1, f2⟩, ho⟩ := ho.ifInv
    obtain ⟨p, ws, rfl, ea, h1, k⟩ := sr.lstAt (lstO_inv e) va
    obtain ⟨y, rfl, k2⟩ := vb.one_inv
    have e1 := toV_eq f1 k2
    have e2 := toVs_eq f2 k
    subst e1 e2
    refine mt_count pins s σ H _ _ v us Q I rx rv ⟨p, _, _, rfl, rfl, h1, flat_toV _, by simp [flat_toV], ?_⟩
    rw [List.countP_map]
    exact ho.hereV sr vr_int
  · exact ho.elim
end
end Mm
namespace Mm
open PySem L2
section
variable {T : Tx} {XE : XEt} {X : Cx} {pos : Pos}
structure Fk (P : Program) (w : World) (T : Tx) (mg : Str -> Option Value) (base : Heap) (nm : Str) (n k : Nat) (Fn : List AV -> S -> R AV) : Prop where
  ex : ∃ f fd ps, FnOk P w T.K mg base CX0 k f fd ps (spOf T n Fn) /\ Binds T.K fd ps [] /\ mg nm = some (.ref f) /\ PySem.W.keepIn T.K (.ref f) = true
theorem me_F {k n : Nat} {Fn : List AV -> S -> R AV} {x : Str} {p : Pos} {e : Expr} {es : List Expr} {r : Evs} (h : Fk X.prog X.w T X.mg X.base x n k Fn) (hr : Room k X.A) (ha : PA X (e :: es) (tP T XE0 r)) (hK : X.K = T.K := by rfl) (hg : Gl X x := by rfl) (hdb : (x == ("__debug__" : Str)) = false := by decide) (he : starEach (e :: es) X.env = (false, eval e X.env) :: starEach es X.env := by rfl) (hpl : (backTo pos (starEach es X.env)).any (·.1) = false := by rfl) :
    PE X (.Call (.Name x p) (e :: es) [] pos) (tE T XE0 (mCall n Fn r)) := by
  obtain ⟨f, fd, ps, G, hb, hm, hk⟩ := h.ex
  exact me_call hK G hr hm hk hb ha hg hdb he hpl
theorem hu30 {k : Nat} {A : Around} (r : Room k A) : A.units + 30 < cLine := by have := r.un; omega
noncomputable def gcB (m : Eb) : Eb := fun env s => (m env s).bind fun v s1 => open Classical in if s1.take s.length = s then .ok v s else .bad
theorem pt_gc {e : Expr} {m : Eb} (h : PT X e (tC' T XE m)) : PT X e (tC' T XE (gcB m)) :=
  PT.imp h fun σ H Q ⟨ρ, env, s, hs, he, ho⟩ => by
    refine ⟨ρ, env, s, hs, he, ?_⟩
    unfold gcB at ho
    cases e : m env s with
    | bad => rw [e] at ho; exact ho
    | ex c s1 => rw [e] at ho; exact ho
    | ok v s1 =>
      rw [e] at ho
      obtain ⟨e1, ho⟩ := ho.ifInv
      intro ρ1 H1 x u sr vr
      have := sr.cut u.pre hs.len (by rw [e1]; exact hs.closed)
      rw [e1] at this
      exact ho ρ H1 x u.cut this vr
def rMG {α : Type} (T : Tx) (XE : XEt) (rl : Rl α V) (op : AV -> List AV -> S -> R α) : V -> List V -> Hp -> VK -> Prop := fun x xs H Q => ∃ ρ v vs s, SR T ρ s H /\ VR T ρ H v x /\ VRs T ρ H vs xs /\ Out T XE rl ρ H (op v vs s) Q
def gMet {α : Type} (n : String) (op : AV -> List AV -> S -> R α) (o : Ev) (r : Evs) : En -> S -> R α := fun env s => (o env s).bind fun v s1 => need (isTy n v s1) fun _ => (r env s1).bind fun vs s2 => op v vs s2
theorem mg_met {α : Type} {rl : Rl α V} {n id : String} {name : Str} {apos cpos : Pos} {o e : Expr} {es : List Expr} {op : AV -> List AV -> S -> R α} {m : Ev} {r : Evs} (hK : X.K = T.K) (pa : PlainAttrs n) (slot : Slot n name id) (hty : typeOf (.builtin id) = pure (.type "method_descriptor")) (hm : MtR X id (rMG T XE rl op)) (ho : PE X o (tE T XE m)) (ha : PA X (e :: es) (tP T XE r))
    (hbase : attributeBase o name X.env (eval o X.env) = eval o X.env := by rfl)
    (hfew : ((backTo cpos (starEach (e :: es) X.env)).all (fun x => !x.1) && (backToKw cpos (keywordEach [] X.env)).all (fun x => x.1.isSome)
      && decide ((e :: es).length + ([] : List Keyword).length + (if ([] : List Keyword).isEmpty then 0 else 1) < 30)) = true := by rfl)
    (hline : (apos.endLine == cpos.line) = true := by rfl) (hs : starEach (e :: es) X.env = (false, eval e X.env) :: starEach es X.env := by rfl) (hplain : (backTo cpos (starEach es X.env)).any (·.1) = false := by rfl) :
    PE X (.Call (.Attribute o name apos) (e :: es) [] cpos) (tG T XE rl (gMet n op m r)) :=
  PE.imp (pe_bmK hK pa slot hty hm ho ha hbase hfew hline hs hplain) fun σ H Q ⟨ρ, env, s, hs, he, ho⟩ => by
    refine step hs he ho fun v s1 ρ1 H1 x _ u1 sr1 er1 vr1 ho1 => ?_
    obtain ⟨_, e, ho1⟩ := ho1.needInv
    exact ⟨isTy_inv e sr1 vr1, step sr1 er1 ho1 fun vs s2 ρ2 H2 xs _ u2 sr2 er2 vr2 ho2 => ⟨ρ2, v, vs, s2, sr2, VR.up u2 vr1, vr2, ho2⟩⟩
open PySem.Builtin.Str in
def opSplit : AV -> List AV -> S -> R (List AV)
  | .str t, [.str sep], s => if (decide (t.length < sep.length) || decide (strKind t < strKind sep)) = false /\ (sep.length == 0) = false /\ (occurrences t sep 0 t.length (t.length + 1)).isEmpty = false /\ t.length <= 1000 /\ (partsBetween t (occurrences t sep 0 t.length (t.length + 1)) sep.length).length <= 1000
      then .ok ((partsBetween t (occurrences t sep 0 t.length (t.length + 1)) sep.length).map AV.str) s else .bad
  | _, _, _ => .bad
theorem dSplit : MtR X "str.split" (rMG T XE (rL T) opSplit) := by
  intro pins s σ H x xs v us Q I rx rv ⟨ρ, a, vs, st, sr, va, vb, ho⟩
  unfold opSplit at ho
  split at ho
  · obtain ⟨⟨c1, c2, c3, c4, c5⟩, ho⟩ := ho.ifInv
    cases va.str_inv
    obtain ⟨y, rfl, k2⟩ := vb.one_inv
    cases k2.str_inv
    exact mt_split pins s σ H _ _ v us Q I rx rv ⟨_, _, rfl, rfl, c1, c2, c3, c4, c5, fun l hl => ho.lst sr hl (VRs.map (fun a => vr_str) _)⟩
  · exact ho.elim
theorem fnok_bad {P : Program} {w : World} {mg : Str -> Option Value} {base : Heap} {k n : Nat} {f : Addr} {fd : FuncData} {ps : List Str} (hl : ps.length = n) : FnOk P w T.K mg base CX0 k f fd ps (spOf T n fun _ _ => .bad) :=
  ⟨fun vs H Q E h => h.1.trans hl.symm, fun A outer s H args us vs Q E _ _ _ _ h => by obtain ⟨_, ρ, st, a, _, _, z⟩ := h; exact z.elim⟩
def zipA (xs ys : List AV) : List AV := (xs.zip ys).map fun p => AV.tup [p.1, p.2]
def seqK (c : Bool) (v : AV) (s : S) : Option (List AV × Gd) := match v with
  | .tup xs => if c = true then some (xs, []) else none
  | .sq xs => if c = true then none else some (xs, [])
  | .ref i => if c = true then none else (lstO s i).map fun xs => (xs, [(i, xs)])
  | _ => none
theorem seqK_inv {c : Bool} {ρ : List Addr} {H : Hp} {s : S} {v : AV} {xs : List AV} {gs : Gd} {x : V} (h : seqK c v s = some (xs, gs)) (sr : SR T ρ s H) (va : VR T ρ H v x) : ∃ a, x = .ref a /\ (∃ vs, SqK c T.K H a vs) /\ ∀ ρ' s' H', Up ρ H ρ' H' -> SR T ρ' s' H' -> gOk gs s' -> ∃ vs, SqK c T.K H' a vs /\ VRs T ρ' H' xs vs := by
  cases v with
  | tup ys =>
    have h : (if c = true then some (ys, []) else none) = some (xs, gs) := h
    split at h
    · rename_i hc
      cases h
      obtain ⟨a, vs, rfl, h1, k⟩ := va.tup_inv
      refine ⟨a, rfl, ⟨vs, by unfold SqK; rw [if_pos hc]; exact h1⟩, fun ρ' s' H' u sr' _ => ⟨vs, by unfold SqK; rw [if_pos hc]; exact u.sqT h1, k.up u⟩⟩
    · cases h
  | sq ys =>
    have h : (if c = true then none else some (ys, [])) = some (xs, gs) := h
    split at h
    · cases h
    · rename_i hc
      cases h
      obtain ⟨a, vs, rfl, h1, k⟩ := va.sq_inv
      refine ⟨a, rfl, ⟨vs, by unfold SqK; rw [if_neg hc]; exact h1.sqL⟩, fun ρ' s' H' u sr' _ => ⟨vs, by unfold SqK; rw [if_neg hc]; exact (u.sqF h1).sqL, k.up u⟩⟩
  | ref i =>
    have h : (if c = true then none else (lstO s i).map fun xs => (xs, [(i, xs)])) = some (xs, gs) := h
    split at h
    · cases h
    · rename_i hc
      cases e : lstO s i with
      | none => rw [e] at h; cases h
      | some ys =>
        rw [e] at h
        cases h
        obtain ⟨a, vs, rfl, ea, h1, k⟩ := sr.lstAt (lstO_inv e) va
        refine ⟨a, rfl, ⟨vs, by unfold SqK; rw [if_neg hc]; exact SqL.of h1⟩, fun ρ' s' H' u sr' g => ?_⟩
        obtain ⟨b, ws, eb, _, h2, k2⟩ := sr'.lstAt (lstO_inv ((gOk_one i _ s').mp g)) (VR.up u va)
        cases eb
        exact ⟨ws, by unfold SqK; rw [if_neg hc]; exact SqL.of h2, k2⟩
  | _ => cases h
def zipO (v w : AV) (s : S) : Option (List AV × Gd) :=
  match seqK true v s, seqK true w s with
  | some (xs, g), some (ys, h) => some (zipA xs ys, g ++ h)
  | _, _ => match seqK false v s, seqK false w s with
    | some (xs, g), some (ys, h) => some (zipA xs ys, g ++ h)
    | _, _ => none
theorem zipO_inv {v w : AV} {s : S} {r : List AV × Gd} (h : zipO v w s = some r) : ∃ c xs g ys h, seqK c v s = some (xs, g) /\ seqK c w s = some (ys, h) /\ r = (zipA xs ys, g ++ h) := by
  unfold zipO at h
  split at h
  · rename_i xs g ys h' e1 e2
    cases h
    exact ⟨true, xs, g, ys, h', e1, e2, rfl⟩
  · split at h
    · rename_i xs g ys h' e1 e2
      cases h
      exact ⟨false, xs, g, ys, h', e1, e2, rfl⟩
    · cases h
def srcZ (a b : Ev) : Src := fun env s => (a env s).bind fun v s1 => (b env s1).bind fun w s2 => need (zipO v w s2) fun r => .ok r s2
theorem gOk_app {g h : Gd} {s : S} (k : gOk (g ++ h) s) : gOk g s /\ gOk h s := ⟨fun p hp => k p (List.mem_append_left _ hp), fun p hp => k p (List.mem_append_right _ hp)⟩
theorem mi_zip {es : List Expr} {kk : Nat} {tpos : Pos} {e1 e2 : Expr} {p : Pos} {a b : Ev} (hK : X.K = T.K) (hm : X.mg "zip" = none) (h1 : PE X e1 (tE T XE a)) (h2 : PE X e2 (tE T XE b)) (hg : Gl X "zip" := by rfl)
    (hs : starEach [e1, e2] X.env = (false, eval e1 X.env) :: starEach [e2] X.env := by rfl) (hs2 : starEach [e2] X.env = [(false, eval e2 X.env)] := by rfl) (hpl : (backTo pos (starEach [e2] X.env)).any (·.1) = false := by rfl) :
    PI X (.Tuple es kk tpos) (.Call (.Name "zip" p) [e1, e2] [] pos) (tW T XE (srcZ a b)) :=
  PI.imp (pi_zip hg hm h1 h2 hs hs2 hpl) fun σ H R ⟨ρ, env, s, hs, he, ho⟩ => step hs he ho fun v s1 ρ1 H1 x _ u1 sr1 er1 vr1 ho1 => step sr1 er1 ho1 fun w s2 ρ2 H2 y _ u2 sr2 er2 vr2 ho2 => by
    obtain ⟨r, e, ho2⟩ := ho2.needInv
    obtain ⟨c, xs, g, ys, h, q1, q2, rfl⟩ := zipO_inv e
    obtain ⟨a1, rfl, x1, w1⟩ := seqK_inv q1 sr2 (VR.up u2 vr1)
    obtain ⟨a2, rfl, x2, w2⟩ := seqK_inv q2 sr2 vr2
    refine ⟨c, a1, a2, rfl, by rw [hK]; exact x1, by rw [hK]; exact x2, ho2 ρ2 H2 _ .refl sr2 ⟨fun ρ' s' H' u' sr' gk => ?_⟩⟩
    obtain ⟨g1, g2⟩ := gOk_app gk
    obtain ⟨vs, k1, k2⟩ := w1 ρ' s' H' u' sr' g1
    obtain ⟨ws, k3, k4⟩ := w2 ρ' s' H' u' sr' g2
    rw [hK]
    have hl1 := k2.length
    have hl2 := k4.length
    refine ⟨fun j z ez => ?_, ⟨vs, ws, k1, k3, ?_⟩⟩
    · have hj : j < xs.length /\ j < ys.length := by
        have := (List.getElem?_eq_some_iff.mp ez).1
        simp only [zipA, List.length_map, List.length_zip] at this
        omega
      have ez' : z = .tup [xs[j], ys[j]] := by
        have q : (zipA xs ys)[j]? = some (.tup [xs[j], ys[j]]) := by
          simp [zipA, List.getElem?_zip_eq_some, hj.1, hj.2]
        rw [q] at ez
        exact (Option.some.inj ez).symm
      subst ez'
      obtain ⟨x3, e3, v3⟩ := k2.get (List.getElem?_eq_getElem hj.1)
      obtain ⟨x4, e4, v4⟩ := k4.get (List.getElem?_eq_getElem hj.2)
      refine ⟨⟨vs, ws, x3, x4, k1, k3, e3, e4⟩, fun q H'' ⟨Tt, y1, y2, eq, hT, eH, hy⟩ => ?_⟩
      obtain ⟨f1, f2⟩ := hy vs ws k1 k3
      rw [e3] at f1; rw [e4] at f2
      cases f1; cases f2
      subst eq eH
      exact ⟨sr'.upNew hT, sr'.new hT, vr_tup (SqT.of upd_same) (VRs.up (sr'.upNew hT) (.cons v3 (.one v4)))⟩
    · rw [← hl1, ← hl2]
      simp only [zipA, List.length_map, List.length_zip]
      omega
end
end Mm
namespace Mm
open PySem PySem.W PyProof.Rows
section
variable {O : KeyOrd} {key : Nat -> O.α}
end
end Mm
namespace Mm
open PySem PySem.W PyProof.Rows
section
variable {prog : Program} {w : World} {A : Around} {E : Value -> Shared -> Prop} {s : Shared} {a : Addr} {vs : List Value}
end
end Mm
namespace L2
open PySem PySem.Spec PyProof.Rows
theorem ObjOk.there2 {P : Program} {w : World} {H : Hp} {h : Heap} {a : Addr} {o : HO} (x : ObjOk P w H h a o) : ∃ u, h.get? a = some u := by
  cases o with
  | lst xs => obtain ⟨_, _, _, _, e⟩ := x; exact ⟨_, e⟩
  | tup xs => obtain ⟨_, _, _, ⟨_, e, _⟩⟩ := x; exact ⟨_, e⟩
  | dK kvs => obtain ⟨_, _, _, _, o, _, _, e, _⟩ := x; exact ⟨_, e⟩
  | dT kvs => obtain ⟨_, _, _, _, o, _, _, e, _⟩ := x; exact ⟨_, e⟩
  | set S n => obtain ⟨o, _, _, _, e, _⟩ := x; exact ⟨_, e⟩
  | ins C dx fs => obtain ⟨_, _, _, e, _⟩ := x; exact ⟨_, e⟩
  | own y => obtain ⟨_, e⟩ := x; exact ⟨_, e⟩
  | xd fs => obtain ⟨_, ⟨_, _, _, e, _⟩, _⟩ := x; exact ⟨_, e⟩
  | rng lo hi => obtain ⟨_, _, _, e⟩ := x; exact ⟨_, e⟩
  | frz ob u => obtain ⟨e, _⟩ := x; exact ⟨_, e⟩
  | tbl ps => exact ⟨_, show h.get? a = some _ from x⟩
  | met f y => exact ⟨_, show h.get? a = some _ from x⟩
  | ext φ => obtain ⟨_, ⟨_, e⟩, _⟩ := x; exact ⟨_, e⟩
theorem Inv.grown {X : Cx} {pins : List (Addr × Obj)} {σ : St} {H H' : Hp} {s : Shared} {h' : Heap} {t' : Nat} (I : Inv X pins σ H s) (k : ∀ b u, s.heap.get? b = some u -> h'.get? b = some u) (e : ∀ b u, s.heap.get? b = some u -> H' b = H b)
    (new : ∀ b o, s.heap.get? b = none -> H' b = some o -> ObjOk X.prog X.w H' h' b o) : Inv X pins σ H' { s with heap := h', toks := t' } := by
  have old : ∀ b o, H b = some o -> H' b = some o := fun b o z => by
    obtain ⟨u, hu⟩ := (I.hok b o z).there2
    rw [e b u hu]; exact z
  refine I.un ⟨fun b u q _ _ _ => k b u q, fun b u q _ _ _ => ⟨u.slots, k b u q⟩, fun b u q n _ => by rw [e b u q]; exact n, fun b u q _ => ⟨u, k b u q⟩, fun b xs q => old b _ q, fun b u xs q => old b _ q, fun b ps q => ⟨#[], by rw [old b _ q]; simp⟩⟩ fun b o z => ?_
  cases hb : s.heap.get? b with
  | some u =>
    rw [e b u hb] at z
    exact (I.hok b o z).stay (fun c u _ q => k c u q) (fun c q => old c _ q) fun c xs q => old c _ q
  | none => exact new b o hb z
abbrev oS : KeyOrd := strKind.toKeyOrd
end L2
namespace Mm
open PySem PySem.W PyProof.Rows
section
variable {prog : Program} {w : World} {A : Around} {E : Value -> Shared -> Prop} {s : Shared} {a : Addr} {vs : List Value}
end
end Mm
namespace L2
open PySem PySem.Spec PyProof.Rows
end L2
namespace Mm
open PySem L2
section
variable {T : Tx} {XE : XEt} {X : Cx} {pos : Pos}
end
end Mm
namespace Ro
open PySem L2 Mm
theorem boot_min : bootBuiltins "min" = some (.builtin "min") := by decide +kernel
def fuel1 (env : En) : Nat := match (env[(1 : Nat)]? : Option (Option AV)) with
  | some (some (.int i)) => i.natAbs + 1
  | _ => 0
def fuelL (env : En) : Nat := match (env[(4 : Nat)]? : Option (Option AV)) with
  | some (some (.int i)) => i.natAbs + 1
  | _ => 0
noncomputable def b__law_begin : Ms :=
 (sSeq (sSet 1 (mNew (gOp qList (lIts (mSl (mv 0) oN (oS (mc (.int 63))))))))
 (sSeq (sIf (gcB (cB (mBin opEq (mv 1) (mNew (lLst pNil))))) (sSet 1 (mNew (lLst (pCons (mc (.int 7)) pNil)))) sSkip)
 (sRet (mDisp [((mc (.str "cells")), (mv 1)), ((mc (.str "turn")), (mc (.int 0)))]))))
noncomputable def f__law_begin : List AV -> S -> R AV := fnR 2 b__law_begin
noncomputable def b__law_take : Ms :=
 (sSeq (sSet 2 (mBin opAdd (mBin opDget (mv 0) (mc (.str "turn"))) (mc (.int 1))))
 (sSeq (sDput (mv 0) (mc (.str "turn")) (mv 2))
 (sSeq (sSet 3 (mBin opMod (mv 2) (mOp opLen (pCons (mBin opDget (mv 0) (mc (.str "cells"))) pNil))))
 (sSeq (sSet 4 (mBin opIx (mBin opDget (mv 0) (mc (.str "cells"))) (mv 3)))
 (sSeq (sIf (cB (mBin opGe (mv 4) (mBin opPow (mc (.int 10)) (mc (.int 18))))) (sSeq (sAsg (mOp opDivmod (pCons (mv 4) (pCons (mv 1) pNil))) (gT 2 (gCons' (gSubL (mBin opDget (mv 0) (mc (.str "cells"))) (mv 3)) (gCons' (gN 6) gNil'))))
 (sRet (mv 6))) sSkip)
 (sSeq (sSet 5 (mBin opMod (mBin opMul (mBin opAdd (mBin opAdd (mBin opMod (mv 4) (mc (.int 2147483629))) (mBin opMul (mBin opMul (mv 2) (mv 2)) (mc (.int 7919)))) (mc (.int 11))) (mc (.int 48271))) (mc (.int 2147483647))))
 (sSeq (sSet 5 (mBin opMod (mBin opMul (mv 5) (mv 5)) (mc (.int 2147483587))))
 (sRet (mBin opMod (mBin opFdiv (mBin opMod (mBin opMul (mBin opAdd (mv 5) (mBin opMul (mv 2) (mc (.int 104729)))) (mc (.int 39373))) (mc (.int 2147483629))) (mc (.int 64))) (mv 1))))))))))
noncomputable def f__law_take : List AV -> S -> R AV := fnR 7 b__law_take
noncomputable def b__law_same (rf : List AV -> S -> R AV) : Ms :=
 (sSeq (sIf (cB (mBin opIsN (mv 1) (mc .non))) (sRet (mBin opIsN (mv 0) (mc .non))) sSkip)
 (sSeq (sIf (cOr (cT (mUn (opIsi "list") (mv 1))) (cT (mUn (opIsi "tuple") (mv 1)))) (sSeq (sIf (cB (mBin opNe (mUn (opIsi "list") (mv 0)) (mUn (opIsi "list") (mv 1)))) (sRet (mc (.bl false))) sSkip)
 (sSeq (sIf (cOr (cB (mBin opNe (mUn (opIsi "tuple") (mv 0)) (mUn (opIsi "tuple") (mv 1)))) (cB (mBin opNe (mOp opLen (pCons (mv 0) pNil)) (mOp opLen (pCons (mv 1) pNil))))) (sRet (mc (.bl false))) sSkip)
 (sRet (gOp qAll (lComp [("_law_one", none), ("_law_other", none)] (srcZ (mv 0) (mv 1)) (gT 2 (gCons' (gN 0) (gCons' (gN 1) gNil'))) cYes (mCall 2 rf (pCons (mv 0) (pCons (mv 1) pNil)))))))) sSkip)
 (sSeq (sIf (cT (mUn (opIsi "str") (mv 1))) (sRet (mAnd (mUn (opIsi "str") (mv 0)) (mBin opEq (mv 0) (mv 1)))) sSkip)
 (sRet (mAnd (mUn (opIsi "int") (mv 0)) (mAnd (mUn opNot (mUn (opIsi "bool") (mv 0))) (mBin opEq (mv 0) (mv 1))))))))
noncomputable def f__law_same : Nat -> List AV -> S -> R AV
  | 0 => fun _ _ => .bad
  | n + 1 => fnR 2 (b__law_same (f__law_same n))
noncomputable def b__law_lowest : Ms :=
 (sSeq (sPar 3 4 (pCons (mOp opAbs (pCons (mv 0) pNil)) (pCons (mOp opAbs (pCons (mv 1) pNil)) pNil)))
 (sSeq (sWhl (fun env _ => fuelL env) (cB (mBin opGt (mv 4) (mc (.int 0)))) (sPar 3 4 (pCons (mv 4) (pCons (mBin opMod (mv 3) (mv 4)) pNil))))
 (sSeq (sSet 2 (mIf (cB (mBin opLt (mv 1) (mc (.int 0)))) (mUn opNeg (mc (.int 1))) (mc (.int 1))))
 (sRet (mTup (pCons (mBin opFdiv (mBin opMul (mv 2) (mv 0)) (mv 3)) (pCons (mBin opFdiv (mBin opMul (mv 2) (mv 1)) (mv 3)) pNil)))))))
noncomputable def f__law_lowest : List AV -> S -> R AV := fnR 5 b__law_lowest
noncomputable def b__law_names : Ms :=
 (sSeq (sSet 2 (mNew (gMet "str" opSplit (mc (.str "b aa zebra c quartzes ab m knows d mm likes z ba abcdefgh y zz e x f g hh jj kk pave")) (pCons (mc (.str " ")) pNil))))
 (sRet (mNew (lComp [("_law_turn", none), ("_law_some", some 2), ("_law_state", some 0)] (srcR (pCons (mv 1) pNil)) (gN 0) cYes (mMet "list" opPop (mv 1) (pCons (mCall 2 f__law_take (pCons (mv 2) (pCons (mOp opLen (pCons (mv 1) pNil)) pNil))) pNil))))))
noncomputable def f__law_names : List AV -> S -> R AV := fnR 3 b__law_names
noncomputable def b__law_part : Ms :=
 (sSeq (sSet 1 (gcM (mBin opIx (mNew (lLst (pCons (mc (.int 2)) (pCons (mc (.int 3)) (pCons (mc (.int 4)) (pCons (mc (.int 5)) (pCons (mc (.int 10)) (pCons (mBin opAdd (mc (.int 1)) (mCall 2 f__law_take (pCons (mv 0) (pCons (mc (.int 60)) pNil)))) pNil)))))))) (mCall 2 f__law_take (pCons (mv 0) (pCons (mc (.int 6)) pNil))))))
 (sRet (mCall 2 f__law_lowest (pCons (mBin opAdd (mc (.int 1)) (mCall 2 f__law_take (pCons (mv 0) (pCons (mv 1) pNil)))) (pCons (mv 1) pNil)))))
noncomputable def f__law_part : List AV -> S -> R AV := fnR 2 b__law_part
noncomputable def b__law_row : Ms :=
 (sSeq (sSet 3 (mCall 2 f__law_take (pCons (mv 0) (pCons (mc (.int 8)) pNil))))
 (sSeq (sIf (cB (mBin opGt (mv 3) (mc (.int 5)))) (sRet (mTup (pCons (mTup (pCons (mc (.str "length")) (pCons (mv 1) (pCons (mBin opAdd (mc (.int 1)) (mCall 2 f__law_take (pCons (mv 0) (pCons (gcM (mBin opIx (mNew (lLst (pCons (mc (.int 5)) (pCons (mc (.int 1000)) pNil)))) (mCall 2 f__law_take (pCons (mv 0) (pCons (mc (.int 2)) pNil))))) pNil)))) pNil)))) (pCons (mc (.int 0)) pNil)))) sSkip)
 (sSeq (sIf (cOr (cB (mBin opGt (mv 3) (mc (.int 3)))) (cB (mBin opEq (mv 2) (mc (.int 0))))) (sRet (mTup (pCons (mTup (pCons (mc (.str "left")) (pCons (mv 1) (pCons (mCall 1 f__law_part (pCons (mv 0) pNil)) pNil)))) (pCons (mc (.int 0)) pNil)))) sSkip)
 (sSeq (sSet 4 (mBin opAdd (mc (.int 1)) (mCall 2 f__law_take (pCons (mv 0) (pCons (mOp opMin (pCons (mv 2) (pCons (gcM (mBin opIx (mNew (lLst (pCons (mc (.int 12)) (pCons (mc (.int 60)) pNil)))) (mBin opFdiv (mCall 2 f__law_take (pCons (mv 0) (pCons (mc (.int 3)) pNil))) (mc (.int 2))))) pNil))) pNil)))))
 (sSeq (sIf (cB (mBin opGt (mv 3) (mc (.int 1)))) (sRet (mTup (pCons (mTup (pCons (mc (.str "of")) (pCons (mv 1) (pCons (mCall 2 f__law_lowest (pCons (mv 4) (pCons (mc (.int 60)) pNil))) pNil)))) (pCons (mv 4) pNil)))) sSkip)
 (sSeq (sSet 5 (mNew (lLst pNil)))
 (sSeq (sSet 6 (mc (.int 0)))
 (sSeq (sFor (srcR (pCons (mBin opAdd (mc (.int 1)) (mCall 2 f__law_take (pCons (mv 0) (pCons (mc (.int 3)) pNil)))) pNil)) (gN 7) (sSeq (sSet 6 (mBin opAdd (mBin opAdd (mv 6) (mc (.int 1))) (mCall 2 f__law_take (pCons (mv 0) (pCons (gcM (mBin opIx (mNew (lLst (pCons (mc (.int 3)) (pCons (mc (.int 9)) (pCons (mBin opPow (mc (.int 10)) (mc (.int 5))) pNil))))) (mCall 2 f__law_take (pCons (mv 0) (pCons (mc (.int 3)) pNil))))) pNil)))))
 (sExpr (mMet "list" opAppend (mv 5) (pCons (mTup (pCons (mv 6) (pCons (mCall 2 f__law_lowest (pCons (mBin opAdd (mc (.int 1)) (mCall 2 f__law_take (pCons (mv 0) (pCons (mv 4) pNil)))) (pCons (mc (.int 60)) pNil))) pNil))) pNil)))))
 (sSeq (sExpr (mMet "list" opAppend (mv 5) (pCons (mTup (pCons (mc .non) (pCons (mCall 2 f__law_lowest (pCons (mBin opAdd (mc (.int 1)) (mCall 2 f__law_take (pCons (mv 0) (pCons (mv 4) pNil)))) (pCons (mc (.int 60)) pNil))) pNil))) pNil)))
 (sRet (mTup (pCons (mTup (pCons (mc (.str "steps")) (pCons (mv 1) (pCons (gOp qTuple (lIts (mv 5))) pNil)))) (pCons (mv 4) pNil)))))))))))))
noncomputable def f__law_row : List AV -> S -> R AV := fnR 8 b__law_row
noncomputable def b__law_rows : Ms :=
 (sSeq (sSet 3 (mc (.int 60)))
 (sSeq (sSet 4 (mNew (lLst pNil)))
 (sSeq (sFor (srcR (pCons (mBin opMul (mv 2) (mOp opInt (pCons (gcE (mBin opNe (mv 1) (mNew (lLst pNil)))) pNil))) pNil)) (gN 5) (sSeq (sAsg (mCall 3 f__law_row (pCons (mv 0) (pCons (mBin opIx (mv 1) (mCall 2 f__law_take (pCons (mv 0) (pCons (mOp opLen (pCons (mv 1) pNil)) pNil)))) (pCons (mv 3) pNil)))) (gT 2 (gCons' (gN 6) (gCons' (gN 7) gNil'))))
 (sSeq (sSet 3 (mBin opSub (mv 3) (mv 7)))
 (sIf (cOr (cB (mBin opNe (mBin opIx (mv 6) (mc (.int 0))) (mc (.str "left")))) (cB (mBin opLt (gcE (mMet "list" opCount (mNew (lComp [("_law_one", none)] (srcV' (mv 4)) (gN 0) cYes (mBin opIx (mv 0) (mc (.int 0))))) (pCons (mc (.str "left")) pNil))) (mc (.int 3))))) (sExpr (mMet "list" opAppend (mv 4) (pCons (mv 6) pNil))) sSkip))))
 (sRet (gOp qTuple (lIts (mv 4)))))))
noncomputable def f__law_rows : List AV -> S -> R AV := fnR 8 b__law_rows
noncomputable def b__law_some_rows : Ms :=
 (sSeq (sSet 1 (gcM (mBin opIx (mNew (lLst (pCons (mCall 2 f__law_take (pCons (mv 0) (pCons (mc (.int 5)) pNil))) (pCons (mCall 2 f__law_take (pCons (mv 0) (pCons (mc (.int 9)) pNil))) pNil)))) (mOp opInt (pCons (mBin opEq (mCall 2 f__law_take (pCons (mv 0) (pCons (mc (.int 6)) pNil))) (mc (.int 0))) pNil)))))
 (sRet (gcM (mCall 3 f__law_rows (pCons (mv 0) (pCons (mNew (lTake (mCall 2 f__law_names (pCons (mv 0) (pCons (mBin opAdd (mc (.int 1)) (mCall 2 f__law_take (pCons (mv 0) (pCons (mc (.int 5)) pNil)))) pNil))))) (pCons (mv 1) pNil)))))))
noncomputable def f__law_some_rows : List AV -> S -> R AV := fnR 2 b__law_some_rows
end Ro
namespace Mm
open PySem L2
theorem szl {n : Nat} (h : n <= 1000) : n <= sizeLine := Nat.le_of_lt (small1000 h)
def R.wp {α : Type} : R α -> (α -> S -> Prop) -> Prop
  | .ok a s, Q => Q a s
  | _, _ => False
def RS.wp : RS -> (En -> S -> Prop) -> (AV -> S -> Prop) -> Prop
  | .nx e s, N, _ => N e s
  | .rt v s, _, T => T v s
  | _, _, _ => False
theorem R.wp.mono {α : Type} {m : R α} {Q Q' : α -> S -> Prop} (h : m.wp Q) (k : ∀ a s, Q a s -> Q' a s) : m.wp Q' := by
  cases m with
  | ok a s => exact k a s h
  | ex c s => exact h.elim
  | bad => exact h.elim
theorem R.wp.get {α : Type} {m : R α} {Q : α -> S -> Prop} (h : m.wp Q) : ∃ a s, m = .ok a s /\ Q a s := by
  cases m with
  | ok a s => exact ⟨a, s, rfl, h⟩
  | ex c s => exact h.elim
  | bad => exact h.elim
theorem R.wp.eq {α : Type} {m : R α} {v : α} {s : S} (h : m.wp (fun a s' => a = v /\ s' = s)) : m = .ok v s := by
  obtain ⟨a, s', e, rfl, rfl⟩ := h.get; exact e
theorem wp_ok {α : Type} (a : α) (s : S) (Q : α -> S -> Prop) : (R.ok a s).wp Q = Q a s := rfl
theorem wp_bind {α β : Type} (m : R α) (f : α -> S -> R β) (Q : β -> S -> Prop) : (m.bind f).wp Q = m.wp fun a s => (f a s).wp Q := by
  cases m <;> rfl
theorem wp_bindS {α : Type} (m : R α) (f : α -> S -> RS) (N : En -> S -> Prop) (T : AV -> S -> Prop) : (m.bindS f).wp N T = m.wp fun a s => (f a s).wp N T := by
  cases m <;> rfl
theorem wp_calm {α : Type} (m : R α) (Q : α -> S -> Prop) : m.calm.wp Q = m.wp Q := by
  cases m <;> rfl
theorem wp_nx (e : En) (s : S) (N : En -> S -> Prop) (T : AV -> S -> Prop) : (RS.nx e s).wp N T = N e s := rfl
theorem wp_if {α : Type} (c : Prop) {_ : Decidable c} (m : R α) (Q : α -> S -> Prop) : (if c then m else .bad).wp Q = (c /\ m.wp Q) := by
  by_cases h : c
  · rw [if_pos h]; exact propext ⟨fun k => ⟨h, k⟩, fun k => k.2⟩
  · rw [if_neg h]; exact propext ⟨fun k => k.elim, fun k => (h k.1).elim⟩
theorem wp_ifS (c : Prop) {_ : Decidable c} (m : RS) (N : En -> S -> Prop) (T : AV -> S -> Prop) : (if c then m else .bad).wp N T = (c /\ m.wp N T) := by
  by_cases h : c
  · rw [if_pos h]; exact propext ⟨fun k => ⟨h, k⟩, fun k => k.2⟩
  · rw [if_neg h]; exact propext ⟨fun k => k.elim, fun k => (h k.1).elim⟩
theorem wp_iff2 (c : Prop) {_ : Decidable c} {α : Type} (m n : R α) (Q : α -> S -> Prop) : (if c then m else n).wp Q = if c then m.wp Q else n.wp Q := by
  by_cases h : c
  · rw [if_pos h, if_pos h]
  · rw [if_neg h, if_neg h]
theorem wp_iff2S (c : Prop) {_ : Decidable c} (m n : RS) (N : En -> S -> Prop) (T : AV -> S -> Prop) : (if c then m else n).wp N T = if c then m.wp N T else n.wp N T := by
  by_cases h : c
  · rw [if_pos h, if_pos h]
  · rw [if_neg h, if_neg h]
theorem wp_need {α γ : Type} (x : γ) (f : γ -> R α) (Q : α -> S -> Prop) : (need (some x) f).wp Q = (f x).wp Q := rfl
theorem len_sz : (([] : List AV).length <= sizeLine) = True /\ (∀ a : AV, ([a].length <= sizeLine) = True) /\ (∀ a b : AV, ([a, b].length <= sizeLine) = True) /\ (∀ a b c : AV, ([a, b, c].length <= sizeLine) = True) /\
    (∀ a b c d e f : AV, ([a, b, c, d, e, f].length <= sizeLine) = True) /\
    (([] : List AV).length = 0) = True /\ (∀ a : AV, ([a].length = 1) = True) /\ (∀ a b : AV, ([a, b].length = 2) = True) /\ (∀ a b c : AV, ([a, b, c].length = 3) = True) := by
  refine ⟨?_, ?_, ?_, ?_, ?_, ?_, ?_, ?_, ?_⟩ <;> intros <;> first | exact eq_true rfl | exact eq_true (szl (by show (_ : Nat) <= 1000; simp))
theorem WS :
    (∀ (a b : Ms) (env : En) (s : S) (N : En -> S -> Prop) (T : AV -> S -> Prop), (sSeq a b env s).wp N T = (a env s).wp (fun e s1 => (b e s1).wp N T) T) /\
    (∀ (i : Nat) (m : Ev) (env : En) (s : S) (N : En -> S -> Prop) (T : AV -> S -> Prop), (sSet i m env s).wp N T = (m env s).wp fun v s1 => N (env.set i (some v)) s1) /\
    (∀ (m : Ev) (env : En) (s : S) (N : En -> S -> Prop) (T : AV -> S -> Prop), (sRet m env s).wp N T = (m env s).wp T) /\
    (∀ (c : Eb) (a b : Ms) (env : En) (s : S) (N : En -> S -> Prop) (T : AV -> S -> Prop), (sIf c a b env s).wp N T = (c env s).wp fun k s1 => if k = true then (a env s1).wp N T else (b env s1).wp N T) /\
    (∀ (m : Ev) (env : En) (s : S) (N : En -> S -> Prop) (T : AV -> S -> Prop), (sExpr m env s).wp N T = (m env s).wp fun _ s1 => N env s1) /\
    (∀ (m : Ev) (g : Mt) (env : En) (s : S) (N : En -> S -> Prop) (T : AV -> S -> Prop), (sAsg m g env s).wp N T = (m env s).wp fun v s1 => (g v env s1).wp N T) /\
    (∀ (i j : Nat) (a b : Ev) (env : En) (s : S) (N : En -> S -> Prop) (T : AV -> S -> Prop), (sPar i j (pCons a (pCons b pNil)) env s).wp N T = (a env s).wp fun v s1 => (b env s1).wp fun w s2 => N ((env.set i (some v)).set j (some w)) s2) /\
    (∀ (env : En) (s : S) (N : En -> S -> Prop) (T : AV -> S -> Prop), (sSkip env s).wp N T = N env s) /\
    (∀ (src : Src) (tgt : Mt) (b : Ms) (env : En) (s : S) (N : En -> S -> Prop) (T : AV -> S -> Prop), (sFor src tgt b env s).wp N T = (src env s).wp fun p s1 => (forL tgt b p.2 p.1 env s1).wp N T) /\
    (∀ (d y v : Ev) (env : En) (s : S) (N : En -> S -> Prop) (T : AV -> S -> Prop), (sDput d y v env s).wp N T = (v env s).wp fun a s1 => (d env s1).wp fun b s2 => (y env s2).wp fun c s3 => (putD a b c env s3).wp N T) /\
    (∀ (i : Nat) (v : AV) (env : En) (s : S) (N : En -> S -> Prop) (T : AV -> S -> Prop), (gN i v env s).wp N T = N (env.set i (some v)) s) /\
    (∀ (n : Nat) (r : Mts) (vs : List AV) (env : En) (s : S) (N : En -> S -> Prop) (T : AV -> S -> Prop), (gT n r (.tup vs) env s).wp N T = (vs.length = n /\ (r vs env s).wp N T)) /\
    (∀ (i : Nat) (r : Mts) (v : AV) (w : List AV) (env : En) (s : S) (N : En -> S -> Prop) (T : AV -> S -> Prop), (gCons' (gN i) r (v :: w) env s).wp N T = (r w (env.set i (some v)) s).wp N T) /\
    (∀ (env : En) (s : S) (N : En -> S -> Prop) (T : AV -> S -> Prop), (gNil' [] env s).wp N T = N env s) /\
    (∀ (o i : Ev) (r : Mts) (v : AV) (w : List AV) (env : En) (s : S) (N : En -> S -> Prop), (gCons' (gSubL o i) r (v :: w) env s).wp N (fun _ _ => False) = (gSubL o i v env s).wp (fun e s1 => (r w e s1).wp N (fun _ _ => False)) (fun _ _ => False)) /\
    (∀ (n : Nat) (b : Ms) (v : AV) (s : S) (Q : AV -> S -> Prop), (fnR n b [v] s).wp Q = (b (some v :: List.replicate (n - 1) none) s).wp (fun _ s1 => Q .non s1) Q) /\
    (∀ (n : Nat) (b : Ms) (v w : AV) (s : S) (Q : AV -> S -> Prop), (fnR n b [v, w] s).wp Q = (b (some v :: some w :: List.replicate (n - 2) none) s).wp (fun _ s1 => Q .non s1) Q) /\
    (∀ (n : Nat) (b : Ms) (v w x : AV) (s : S) (Q : AV -> S -> Prop), (fnR n b [v, w, x] s).wp Q = (b (some v :: some w :: some x :: List.replicate (n - 3) none) s).wp (fun _ s1 => Q .non s1) Q) := by
  refine ⟨?_, ?_, ?_, ?_, ?_, ?_, ?_, ?_, ?_, ?_, ?_, ?_, ?_, ?_, ?_, ?_, ?_, ?_⟩ <;> intros
  · rename_i a b env s N T; show (match a env s with | .nx e s1 => b e s1 | r => r).wp N T = _; cases a env s <;> rfl
  · unfold sSet; rw [wp_bindS]; rfl
  · unfold sRet; rw [wp_bindS]; rfl
  · unfold sIf; rw [wp_bindS]; congr 1; funext k s1; exact wp_iff2S _ _ _ _ _
  · unfold sExpr; rw [wp_bindS]; rfl
  · unfold sAsg; rw [wp_bindS]
  · rename_i i j a b env s N T
    unfold sPar pCons pNil
    cases a env s with
    | ok v s1 =>
      simp only [bind_ok, wp_ok]
      cases b env s1 <;> rfl
    | ex c s1 => rfl
    | bad => rfl
  · rfl
  · unfold sFor; rw [wp_bindS]
  · unfold sDput; rw [wp_bindS]; congr 1; funext k s1; rw [wp_bindS]; congr 1; funext k s1; rw [wp_bindS]
  · rfl
  · exact wp_ifS _ _ _ _
  · rfl
  · rfl
  · rename_i o i r v w env s N
    show (match gSubL o i v env s with | .nx e s1 => r w e s1 | q => q).wp N _ = _
    cases gSubL o i v env s <;> rfl
  · rename_i n b v s Q
    show (match b (some v :: List.replicate (n - 1) none) s with | .rt v s1 => R.ok v s1 | .nx _ s1 => .ok .non s1 | .ex c s1 => .ex c s1 | _ => .bad).wp Q = _
    cases b (some v :: List.replicate (n - 1) none) s <;> rfl
  · rename_i n b v w s Q
    show (match b (some v :: some w :: List.replicate (n - 2) none) s with | .rt v s1 => R.ok v s1 | .nx _ s1 => .ok .non s1 | .ex c s1 => .ex c s1 | _ => .bad).wp Q = _
    cases b (some v :: some w :: List.replicate (n - 2) none) s <;> rfl
  · rename_i n b v w x s Q
    show (match b (some v :: some w :: some x :: List.replicate (n - 3) none) s with | .rt v s1 => R.ok v s1 | .nx _ s1 => .ok .non s1 | .ex c s1 => .ex c s1 | _ => .bad).wp Q = _
    cases b (some v :: some w :: some x :: List.replicate (n - 3) none) s <;> rfl
def walkO (v : AV) (s : S) : R (List AV × Gd) := match v with
  | .tup xs => .ok (xs, []) s
  | .sq xs => .ok (xs, []) s
  | .ref i => need (lstO s i) fun xs => .ok (xs, [(i, xs)]) s
  | _ => .bad
theorem WE :
    (∀ (v : AV) (env : En) (s : S) (Q : AV -> S -> Prop), (mc v env s).wp Q = Q v s) /\
    (∀ (op : AV -> AV -> S -> R AV) (a b : Ev) (env : En) (s : S) (Q : AV -> S -> Prop), (mBin op a b env s).wp Q = (a env s).wp fun v s1 => (b env s1).wp fun w s2 => (op v w s2).wp Q) /\
    (∀ (op : AV -> S -> R AV) (a : Ev) (env : En) (s : S) (Q : AV -> S -> Prop), (mUn op a env s).wp Q = (a env s).wp fun v s1 => (op v s1).wp Q) /\
    (∀ (r : Evs) (env : En) (s : S) (Q : AV -> S -> Prop), (mTup r env s).wp Q = (r env s).wp fun vs s1 => vs.length <= sizeLine /\ Q (.tup vs) s1) /\
    (∀ (r : Evs) (env : En) (s : S) (Q : List AV -> S -> Prop), (lLst r env s).wp Q = (r env s).wp fun vs s1 => vs.length <= sizeLine /\ Q vs s1) /\
    (∀ (r : Evs) (env : En) (s : S) (Q : AV -> S -> Prop), (mNew r env s).wp Q = (r env s).wp fun vs s1 => Q (.ref s1.length) (s1 ++ [.lst vs])) /\
    (∀ (n : Nat) (F : List AV -> S -> R AV) (r : Evs) (env : En) (s : S) (Q : AV -> S -> Prop), (mCall n F r env s).wp Q = (r env s).wp fun vs s1 => vs.length = n /\ (F vs s1).wp Q) /\
    (∀ (a : Ev) (r : Evs) (env : En) (s : S) (Q : List AV -> S -> Prop), (pCons a r env s).wp Q = (a env s).wp fun v s1 => (r env s1).wp fun vs s2 => Q (v :: vs) s2) /\
    (∀ (env : En) (s : S) (Q : List AV -> S -> Prop), (pNil env s).wp Q = Q [] s) /\
    (∀ (m : Ev) (env : En) (s : S) (Q : Bool -> S -> Prop), (cB m env s).wp Q = (m env s).wp fun v s1 => match v with | .bl b => Q b s1 | _ => False) /\
    (∀ (m : Ev) (env : En) (s : S) (Q : Bool -> S -> Prop), (cT m env s).wp Q = (m env s).wp fun v s1 => match truth v s1 with | some b => Q b s1 | none => False) /\
    (∀ (a : Eb) (env : En) (s : S) (Q : Bool -> S -> Prop), (cNot a env s).wp Q = (a env s).wp fun c s1 => Q (!c) s1) /\
    (∀ (a b : Eb) (env : En) (s : S) (Q : Bool -> S -> Prop), (cAnd a b env s).wp Q = (a env s).wp fun c s1 => if c = true then (b env s1).wp Q else Q false s1) /\
    (∀ (a b : Eb) (env : En) (s : S) (Q : Bool -> S -> Prop), (cOr a b env s).wp Q = (a env s).wp fun c s1 => if c = true then Q true s1 else (b env s1).wp Q) /\
    (∀ (env : En) (s : S) (Q : Bool -> S -> Prop), (cYes env s).wp Q = Q true s) /\
    (∀ (c : Eb) (a b : Ev) (env : En) (s : S) (Q : AV -> S -> Prop), (mIf c a b env s).wp Q = (c env s).wp fun k s1 => if k = true then (a env s1).wp Q else (b env s1).wp Q) /\
    (∀ (op : List AV -> S -> R AV) (r : Evs) (env : En) (s : S) (Q : AV -> S -> Prop), (mOp op r env s).wp Q = (r env s).wp fun vs s1 => (op vs s1).wp Q) /\
    (∀ {α : Type} (op : List AV -> S -> R α) (r : Evs) (env : En) (s : S) (Q : α -> S -> Prop), (gOp op r env s).wp Q = (r env s).wp fun vs s1 => (op vs s1).wp Q) /\
    (∀ (m : Ev) (env : En) (s : S) (Q : List AV -> S -> Prop), (lIts m env s).wp Q = (m env s).wp fun v s1 => (need (items v s1) fun xs => .ok xs s1).wp Q) /\
    (∀ (r : Evs) (env : En) (s : S) (Q : List AV × Gd -> S -> Prop), (srcL r env s).wp Q = (r env s).wp fun xs s1 => Q (xs, []) s1) /\
    (∀ (m : Ev) (env : En) (s : S) (Q : List AV × Gd -> S -> Prop), (srcV' m env s).wp Q = (m env s).wp fun v s1 => (walkO v s1).wp Q) /\
    (∀ (l : Lc) (src : Src) (tgt : Mt) (test : Eb) (elt : Ev) (env : En) (s : S) (Q : List AV -> S -> Prop), (lComp l src tgt test elt env s).wp Q = (src env s).wp fun p s1 => p.1.length <= sizeLine /\ (compL tgt test elt p.2 p.1 (srcE l env) s1 []).wp Q) /\
    (∀ (n : String) (op : AV -> List AV -> S -> R AV) (o : Ev) (r : Evs) (env : En) (s : S) (Q : AV -> S -> Prop), (mMet n op o r env s).wp Q = (o env s).wp fun v s1 => (isTy n v s1).isSome = true /\ (r env s1).wp fun vs s2 => (op v vs s2).wp Q) /\
    (∀ {α : Type} (n : String) (op : AV -> List AV -> S -> R α) (o : Ev) (r : Evs) (env : En) (s : S) (Q : α -> S -> Prop), (gMet n op o r env s).wp Q = (o env s).wp fun v s1 => (isTy n v s1).isSome = true /\ (r env s1).wp fun vs s2 => (op v vs s2).wp Q) /\
    (∀ (n : String) (op : AV -> List AV -> S -> R AV) (o : Ev) (env : En) (s : S) (Q : AV -> S -> Prop), (mMet0 n op o env s).wp Q = (o env s).wp fun v s1 => (isTy n v s1).isSome = true /\ (op v [] s1).wp Q) /\
    (∀ (d y z : Ev) (env : En) (s : S) (Q : AV -> S -> Prop), (mGet2 d y z env s).wp Q = (d env s).wp fun a s1 => (isTy "dict" a s1).isSome = true /\ (y env s1).wp fun b s2 => (z env s2).wp fun c s3 => (opGet2 a b c s3).wp Q) /\
    (∀ (env : En) (s : S) (Q : AV -> S -> Prop), (mD0 env s).wp Q = Q (.ref s.length) (s ++ [.dK []])) /\
    (∀ (m : Ev) (lo hi : Eo) (env : En) (s : S) (Q : AV -> S -> Prop), (mSl m lo hi env s).wp Q = (m env s).wp fun v s1 => (lo env s1).wp fun l s2 => (hi env s2).wp fun h s3 => (opSl v l h s3).wp Q) /\
    (∀ (env : En) (s : S) (Q : Option Int -> S -> Prop), (oN env s).wp Q = Q none s) /\
    (∀ (m : Ev) (env : En) (s : S) (Q : Option Int -> S -> Prop), (oS m env s).wp Q = (m env s).wp fun v s1 => match v with | .int i => Q (some i) s1 | _ => False) /\
    (∀ (a b : Ev) (env : En) (s : S) (Q : AV -> S -> Prop), (mAnd a b env s).wp Q = (a env s).wp fun v s1 => match v with | .bl true => (b env s1).wp Q | .bl false => Q (.bl false) s1 | _ => False) /\
    (∀ (a b : Ev) (env : En) (s : S) (Q : AV -> S -> Prop), (mOr a b env s).wp Q = (a env s).wp fun v s1 => match v with | .bl true => Q (.bl true) s1 | .bl false => (b env s1).wp Q | _ => False) /\
    (∀ (m : Ev) (env : En) (s : S) (Q : AV -> S -> Prop), (gcE m env s).wp Q = (m env s).wp fun v s1 => (s1.take s.length = s /\ v.low s.length = true) /\ Q v s) /\
    (∀ (m : Eb) (env : En) (s : S) (Q : Bool -> S -> Prop), (gcB m env s).wp Q = (m env s).wp fun v s1 => (s1.take s.length = s) /\ Q v s) /\
    (∀ (m : Ev) (env : En) (s : S) (Q : AV -> S -> Prop), (gcM m env s).wp Q = (m env s).wp fun v s1 => ((s1.take s.length).all (AO.low s.length) = true /\ v.low s.length = true) /\ Q v (s1.take s.length)) /\
    (∀ (m : Ev) (env : En) (s : S) (Q : List AV -> S -> Prop), (lTake m env s).wp Q = (m env s).wp fun v s1 => match v with | .ref k => (need (lstO s1 k) fun xs => if s.length <= k /\ (s1.take s.length).all (AO.low s.length) = true /\ lowL s.length xs = true then .ok xs (s1.take s.length) else .bad).wp Q | _ => False) := by
  refine ⟨?_, ?_, ?_, ?_, ?_, ?_, ?_, ?_, ?_, ?_, ?_, ?_, ?_, ?_, ?_, ?_, ?_, ?_, ?_, ?_, ?_, ?_, ?_, ?_, ?_, ?_, ?_, ?_, ?_, ?_, ?_, ?_, ?_, ?_, ?_, ?_⟩ <;> intros
  · rfl
  · unfold mBin; rw [wp_bind]; congr 1; funext v s1; rw [wp_bind]
  · unfold mUn; rw [wp_bind]
  · unfold mTup; rw [wp_bind]; congr 1; funext v s1; exact wp_if _ _ _
  · unfold lLst; rw [wp_bind]; congr 1; funext v s1; exact wp_if _ _ _
  · unfold mNew; rw [wp_bind]; rfl
  · unfold mCall; rw [wp_bind]; congr 1; funext v s1; exact wp_if _ _ _
  · unfold pCons; rw [wp_bind]; congr 1; funext v s1; rw [wp_bind]; rfl
  · rfl
  · unfold cB; rw [wp_bind]; congr 1; funext v s1; cases v <;> rfl
  · unfold cT; rw [wp_bind]; congr 1; funext v s1; cases truth v s1 <;> rfl
  · unfold cNot; rw [wp_bind]; rfl
  · unfold cAnd; rw [wp_bind]; congr 1; funext v s1; exact wp_iff2 _ _ _ _
  · unfold cOr; rw [wp_bind]; congr 1; funext v s1; exact wp_iff2 _ _ _ _
  · rfl
  · unfold mIf; rw [wp_bind]; congr 1; funext v s1; exact wp_iff2 _ _ _ _
  · unfold mOp; rw [wp_bind]
  · unfold gOp; rw [wp_bind]
  · unfold lIts; rw [wp_bind]
  · unfold srcL; rw [wp_bind]; rfl
  · unfold srcV'; rw [wp_bind]; rfl
  · unfold lComp; rw [wp_bind]; congr 1; funext v s1; exact wp_if _ _ _
  · unfold mMet; rw [wp_bind]; congr 1; funext v s1
    cases isTy _ v s1 with
    | none => exact propext ⟨fun k => k.elim, fun k => nomatch k.1⟩
    | some u => rw [wp_need, wp_bind]; exact propext ⟨fun k => ⟨rfl, k⟩, fun k => k.2⟩
  · unfold gMet; rw [wp_bind]; congr 1; funext v s1
    cases isTy _ v s1 with
    | none => exact propext ⟨fun k => k.elim, fun k => nomatch k.1⟩
    | some u => rw [wp_need, wp_bind]; exact propext ⟨fun k => ⟨rfl, k⟩, fun k => k.2⟩
  · unfold mMet0; rw [wp_bind]; congr 1; funext v s1
    cases isTy _ v s1 with
    | none => exact propext ⟨fun k => k.elim, fun k => nomatch k.1⟩
    | some u => rw [wp_need]; exact propext ⟨fun k => ⟨rfl, k⟩, fun k => k.2⟩
  · unfold mGet2; rw [wp_bind]; congr 1; funext v s1
    cases isTy _ v s1 with
    | none => exact propext ⟨fun k => k.elim, fun k => nomatch k.1⟩
    | some u =>
      rw [wp_need, wp_bind]
      simp only [wp_bind]
      exact propext ⟨fun k => ⟨rfl, k⟩, fun k => k.2⟩
  · rfl
  · unfold mSl; rw [wp_bind]; congr 1; funext v s1; rw [wp_bind]; congr 1; funext v s1; rw [wp_bind]
  · rfl
  · unfold oS; rw [wp_bind]; congr 1; funext v s1; cases v <;> rfl
  · unfold mAnd; rw [wp_bind]; congr 1; funext v s1
    cases v with
    | bl b => cases b <;> rfl
    | _ => rfl
  · unfold mOr; rw [wp_bind]; congr 1; funext v s1
    cases v with
    | bl b => cases b <;> rfl
    | _ => rfl
  · unfold gcE; rw [wp_bind]; congr 1; funext v s1; exact wp_if _ _ _
  · unfold gcB; rw [wp_bind]; congr 1; funext v s1; exact wp_if _ _ _
  · unfold gcM; rw [wp_bind]; congr 1; funext v s1; exact wp_if _ _ _
  · unfold lTake; rw [wp_bind]; congr 1; funext v s1; cases v <;> rfl
theorem for_wp {tgt : Mt} {b : Ms} {gs : Gd} {N : En -> S -> Prop} {T : AV -> S -> Prop} (I : List AV -> En -> S -> Prop) (hg : ∀ l env s, I l env s -> gOk gs s) (h0 : ∀ env s, I [] env s -> N env s)
    (h1 : ∀ v r env s, I (v :: r) env s -> (tgt v env s).wp (fun e s1 => (b e s1).wp (I r) T) (fun _ _ => False)) : ∀ l env s, I l env s -> (forL tgt b gs l env s).wp N T
  | [], env, s, h => by unfold forL; rw [if_pos (hg _ _ _ h)]; exact h0 env s h
  | v :: r, env, s, h => by
    unfold forL
    rw [if_pos (hg _ _ _ h)]
    have k := h1 v r env s h
    revert k
    cases tgt v env s with
    | nx e1 s1 =>
      intro k
      have k : (b e1 s1).wp (I r) T := k
      dsimp only
      revert k
      cases b e1 s1 with
      | nx e2 s2 => intro k; exact for_wp I hg h0 h1 r e2 s2 k
      | rt e2 s2 => intro k; exact k
      | _ => intro k; exact k.elim
    | _ => intro k; exact k.elim
theorem comp_wp {tgt : Mt} {test : Eb} {elt : Ev} {gs : Gd} {Q : List AV -> S -> Prop} (I : List AV -> List AV -> En -> S -> Prop) (hg : ∀ l acc env s, I l acc env s -> gOk gs s) (h0 : ∀ acc env s, I [] acc env s -> Q acc s)
    (h1 : ∀ v r acc env s, I (v :: r) acc env s -> (tgt v env s).wp (fun e s1 => (test e s1).wp fun c s2 => if c = true then (elt e s2).wp fun x s3 => I r (acc ++ [x]) e s3 else I r acc e s2) (fun _ _ => False)) : ∀ l acc env s, I l acc env s -> (compL tgt test elt gs l env s acc).wp Q
  | [], acc, env, s, h => by unfold compL; rw [if_pos (hg _ _ _ _ h)]; exact h0 acc env s h
  | v :: r, acc, env, s, h => by
    unfold compL
    rw [if_pos (hg _ _ _ _ h)]
    have k := h1 v r acc env s h
    revert k
    cases tgt v env s with
    | nx e1 s1 =>
      intro k
      dsimp only
      rw [wp_bind, wp_calm]
      refine R.wp.mono k fun c s2 k => ?_
      rw [wp_iff2, wp_bind, wp_calm]
      split
      · rename_i hc; rw [if_pos hc] at k
        exact R.wp.mono k fun x s3 k => comp_wp I hg h0 h1 r (acc ++ [x]) e1 s3 k
      · rename_i hc; rw [if_neg hc] at k
        exact comp_wp I hg h0 h1 r acc e1 s2 k
    | _ => intro k; exact k.elim
end Mm
namespace Mm
open PySem L2
theorem wpe {α : Type} {m : R α} {v : α} {s : S} (h : m = .ok v s) (Q : α -> S -> Prop) : m.wp Q = Q v s := by rw [h]; rfl
theorem wpeS {m : RS} {e : En} {s : S} (h : m = .nx e s) (N : En -> S -> Prop) (T : AV -> S -> Prop) : m.wp N T = N e s := by rw [h]; rfl
theorem wp_whl (f : En -> S -> Nat) (c : Eb) (b : Ms) (env : En) (s : S) (N : En -> S -> Prop) (T : AV -> S -> Prop) : (sWhl f c b env s).wp N T = (whl c b (f env s) env s).wp N T := rfl
theorem WV :
    (∀ (v : AV) (l : En) (s : S) (Q : AV -> S -> Prop), (mv 0 (some v :: l) s).wp Q = Q v s) /\
    (∀ (n : Nat) (x : Option AV) (l : En) (s : S) (Q : AV -> S -> Prop), (mv (n + 1) (x :: l) s).wp Q = (mv n l s).wp Q) /\
    (∀ (i j : Int) (s : S) (Q : AV -> S -> Prop), (opAdd (.int i) (.int j) s).wp Q = Q (.int (i + j)) s) /\
    (∀ (i j : Int) (s : S) (Q : AV -> S -> Prop), (opSub (.int i) (.int j) s).wp Q = Q (.int (i - j)) s) /\
    (∀ (i j : Int) (s : S) (Q : AV -> S -> Prop), (opMul (.int i) (.int j) s).wp Q = ((Big i /\ Big j) /\ Q (.int (i * j)) s)) /\
    (∀ (i j : Int) (s : S) (Q : AV -> S -> Prop), (opFdiv (.int i) (.int j) s).wp Q = ((j ≠ 0 /\ Mid j) /\ Q (.int (i.fdiv j)) s)) /\
    (∀ (i j : Int) (s : S) (Q : AV -> S -> Prop), (opMod (.int i) (.int j) s).wp Q = (j ≠ 0 /\ Q (.int (i.fmod j)) s)) /\
    (∀ (i : Int) (s : S) (Q : AV -> S -> Prop), (opNeg (.int i) s).wp Q = Q (.int (-i)) s) /\
    (∀ (b : Bool) (s : S) (Q : AV -> S -> Prop), (opNot (.bl b) s).wp Q = Q (.bl (!b)) s) /\
    (∀ (i j : Int) (s : S) (Q : AV -> S -> Prop), (opLt (.int i) (.int j) s).wp Q = Q (.bl (decide (i < j))) s) /\
    (∀ (i j : Int) (s : S) (Q : AV -> S -> Prop), (opLe (.int i) (.int j) s).wp Q = Q (.bl (decide (i <= j))) s) /\
    (∀ (i j : Int) (s : S) (Q : AV -> S -> Prop), (opGt (.int i) (.int j) s).wp Q = Q (.bl (decide (j < i))) s) /\
    (∀ (i j : Int) (s : S) (Q : AV -> S -> Prop), (opGe (.int i) (.int j) s).wp Q = Q (.bl (decide (j <= i))) s) /\
    (∀ (i j : Int) (s : S) (Q : AV -> S -> Prop), (opEq (.int i) (.int j) s).wp Q = Q (.bl (decide (i = j))) s) /\
    (∀ (i j : Int) (s : S) (Q : AV -> S -> Prop), (opNe (.int i) (.int j) s).wp Q = Q (.bl (!decide (i = j))) s) /\
    (∀ (i j : Str) (s : S) (Q : AV -> S -> Prop), (opEq (.str i) (.str j) s).wp Q = Q (.bl (decide (i = j))) s) /\
    (∀ (i j : Str) (s : S) (Q : AV -> S -> Prop), (opNe (.str i) (.str j) s).wp Q = Q (.bl (!decide (i = j))) s) /\
    (∀ (v : AV) (s : S) (Q : AV -> S -> Prop), (opIsN v .non s).wp Q = Q (.bl (isNon v)) s) /\
    (∀ (v : AV) (s : S) (Q : AV -> S -> Prop), (opIsntN v .non s).wp Q = Q (.bl (!isNon v)) s) /\
    (∀ (i : Int) (s : S) (Q : AV -> S -> Prop), (opAbs [.int i] s).wp Q = Q (.int (if i < 0 then -i else i)) s) /\
    (∀ (i j : Int) (s : S) (Q : AV -> S -> Prop), (opMin [.int i, .int j] s).wp Q = Q (.int (if j < i then j else i)) s) /\
    (∀ (i : Int) (s : S) (Q : AV -> S -> Prop), (opInt [.int i] s).wp Q = Q (.int i) s) /\
    (∀ (i : Bool) (s : S) (Q : AV -> S -> Prop), (opInt [.bl i] s).wp Q = Q (.int (if i then 1 else 0)) s) /\
    (∀ (xs : List AV) (i : Int) (s : S) (Q : AV -> S -> Prop), (opIx (.tup xs) (.int i) s).wp Q = (need (atI xs i) fun v => .ok v s).wp Q) /\
    (∀ (k : Nat) (i : Int) (s : S) (Q : AV -> S -> Prop), (opIx (.ref k) (.int i) s).wp Q = (need (lstO s k) fun xs => need (atI xs i) fun v => .ok v s).wp Q) /\
    (∀ {α : Type} (a : α) (s : S) (Q : α -> S -> Prop), (R.ok a s).wp Q = Q a s) /\
    (∀ (e : En) (s : S) (N : En -> S -> Prop) (T : AV -> S -> Prop), (RS.nx e s).wp N T = N e s) /\
    (∀ {α γ : Type} (x : γ) (f : γ -> R α) (Q : α -> S -> Prop), (need (some x) f).wp Q = (f x).wp Q) /\
    (∀ (xs : List AV) (s : S) (Q : List AV × Gd -> S -> Prop), (walkO (.tup xs) s).wp Q = Q (xs, []) s) /\
    (∀ (i j : Int) (s : S) (Q : AV -> S -> Prop), (opPow (.int i) (.int j) s).wp Q = (CPow i j /\ Q (.int (i ^ j.toNat)) s)) /\
    (∀ (i j : Int) (s : S) (Q : AV -> S -> Prop), (opDivmod [.int i, .int j] s).wp Q = ((0 < j /\ Mid j) /\ Q (.tup [.int (i / j), .int (i % j)]) s)) := by
  refine ⟨?_, ?_, ?_, ?_, ?_, ?_, ?_, ?_, ?_, ?_, ?_, ?_, ?_, ?_, ?_, ?_, ?_, ?_, ?_, ?_, ?_, ?_, ?_, ?_, ?_, ?_, ?_, ?_, ?_, ?_, ?_⟩ <;> intros <;> first | rfl | exact wp_if _ _ _
theorem Lq :
    (∀ (x y : Option AV) (l : En), (x :: l).set 0 y = y :: l) /\
    (∀ (x y : Option AV) (l : En) (n : Nat), (x :: l).set (n + 1) y = x :: l.set n y) /\
    (∀ (n : Nat) (x : Option AV), List.replicate (n + 1) x = x :: List.replicate n x) /\
    (∀ (x : Option AV), List.replicate 0 x = []) /\
    (∀ (a : AV) (l : List AV), atI (a :: l) 0 = some a) /\ (∀ (a b : AV) (l : List AV), atI (a :: b :: l) 1 = some b) /\ (∀ (a b c : AV) (l : List AV), atI (a :: b :: c :: l) 2 = some c) /\
    (∀ (l : Lc) (env : En), srcE l env = l.map fun p => p.2.bind fun j => (env[j]?).join) /\
    (∀ (x : Option AV) (l : En), (x :: l)[0]? = some x) /\
    (∀ (x : Option AV) (l : En) (n : Nat), (x :: l)[n + 1]? = l[n]?) /\
    (∀ {α β : Type} (f : α -> β), [].map f = []) /\
    (∀ {α β : Type} (f : α -> β) (x : α) (l : List α), (x :: l).map f = f x :: l.map f) /\
    (∀ {α β : Type} (f : α -> Option β), (none : Option α).bind f = none) /\
    (∀ {α β : Type} (f : α -> Option β) (x : α), (some x).bind f = f x) /\
    (∀ {α : Type} (x : Option α), (some x).join = x) := by
  refine ⟨?_, ?_, ?_, ?_, ?_, ?_, ?_, ?_, ?_, ?_, ?_, ?_, ?_, ?_, ?_⟩ <;> intros <;> first | rfl | skip
  · exact atI_nat (j := 0) rfl
  · exact atI_nat (j := 1) rfl
  · exact atI_nat (j := 2) rfl
theorem UU : (∀ p : Prop, (True ∧ p) = p) ∧ (∀ p : Prop, (p ∧ True) = p) ∧ (∀ {α : Type} {_ : Decidable True} (a b : α), (if True then a else b) = a) ∧ (∀ {α : Type} {_ : Decidable False} (a b : α), (if False then a else b) = b) ∧ ((false = true) = False) ∧ (∀ (p : Prop) {_ : Decidable p}, (decide p = true) = p) ∧ (∀ b : Bool, ((!b) = true) = (b = false)) ∧ (∀ (p : Prop) {_ : Decidable p}, (decide p = false) = ¬p) := by
  refine ⟨fun p => true_and p, fun p => and_true p, fun a b => if_true a b, fun a b => if_false a b, Bool.false_eq_true, fun p _ => decide_eq_true_eq, fun b => Bool.not_eq_true' b, fun p _ => propext decide_eq_false_iff_not⟩

end Mm
local macro_rules | `(tactic| walk_at "w") => `(tactic| simp only [↓Mm.WS, ↓Mm.WE, ↓Mm.WV, Mm.Lq, Mm.len_sz, Mm.UU, Nat.reduceSub, ↓reduceIte])
namespace Ro
open PySem L2 Mm
abbrev TK (K : PySem.W.Frag) : Tx := ⟨K, fun _ => 0⟩
structure Df (T : Tx) (mg : Str -> Option Value) (x : Str) (st : Stmt) : Prop where
  ex : ∃ f fd, Fun T.K x x st f fd /\ mg x = some (.ref f)
theorem df_mk {K : PySem.W.Frag} {cl : Nat -> Addr} {h : Heap} {mg : Str -> Option Value} {x : Str} {st : Stmt} {f : Addr} {oc : Value} {od an : Option Addr} {osl : Array (Option Value)} {kV doc pm cdv ct : Value} (X : K.In h) (G : h.Ns mainGlobals mg) (a : PySem.W.nsIn K mainGlobals x = some (some (.ref f)))
    (l : K.lookup f = some ⟨oc, od, .func (PySem.W.fnOf x x (defArgs st) (defBody st) (defScope st) .none kV doc pm an cdv ct), osl⟩) (c : PySem.W.codeIn K cdv x = true) (k : PySem.W.keepIn K (.ref f) = true) : Df ⟨K, cl⟩ mg x st :=
  ⟨⟨f, _, fun_mk l c k, PySem.W.mg_of X G a⟩⟩
section
variable {P : Program} {w : World} {T : Tx} {mg : Str -> Option Value} {base : Heap}
theorem fk_of {x : Str} {st : Stmt} {k n : Nat} {body : Ms} (N : List Str) (D : Df T mg x st) (S : FnScope N (N.take n) (defScope st))
    (hb : ∀ (kV doc pm : Value) (an : Option Addr) (cdv ct : Value) (us : List Value), us.length = (N.take n).length -> bindArgs (PySem.W.fnOf x x (defArgs st) (defBody st) (defScope st) .none kV doc pm an cdv ct) ⟨us, []⟩ = pure ((N.take n).zip us)) (hn : (N.take n).length = n)
    (h : ∀ (f : Addr) (cdv : Value) (A : Around) (outer : List Env) (s : Shared) (H : Hp) (E : XK), Room k (A.deeper (PyProof.Rows.envOfC x (defScope st) s.heap.objs.size f cdv)) -> N.Nodup -> PSs (cxOf CX0 P w T.K mg base N x (defScope st) f cdv A outer s H E).nox (defBody st) (tS T XE0 body)) :
    Fk P w T mg base x n (k + 1) (fnR N.length body) := by
  obtain ⟨f, fd, F, m⟩ := D.ex
  have := fn_ok F S fun cdv A outer s H E hr => h f cdv A outer s H E hr S.nd
  rw [hn] at this
  exact ⟨f, fd, _, this, F.binds hb, m, F.kp⟩
theorem fk_bad {x : Str} {st : Stmt} {n k : Nat} (ps : List Str) (D : Df T mg x st) (hl : ps.length = n)
    (hb : ∀ (kV doc pm : Value) (an : Option Addr) (cdv ct : Value) (us : List Value), us.length = ps.length -> bindArgs (PySem.W.fnOf x x (defArgs st) (defBody st) (defScope st) .none kV doc pm an cdv ct) ⟨us, []⟩ = pure (ps.zip us)) : Fk P w T mg base x n k fun _ _ => .bad := by
  obtain ⟨f, fd, F, m⟩ := D.ex
  exact ⟨f, fd, ps, fnok_bad hl, F.binds hb, m, F.kp⟩
theorem sp_law {K : PySem.W.Frag} {H : Hp} {a : Addr} {ns : List Int} {E : XK} {fl : List AV -> S -> R AV} (hl : (fl [.sq (ns.map AV.int)] []).wp fun v _ => v = .bl true) (hO : Only H) (hS : SqL K H a (ns.map V.int)) : spOf (TK K) 1 fl [.ref a] H (fun v _ => v = .bl true) E := by
  have hF : SqF K H a (ns.map V.int) := by
    rcases hS with h | h
    · rcases h with h | h
      · rcases hO a with z | ⟨o, xs, z⟩
        · rw [z] at h; cases h
        · rw [z] at h; cases h
      · exact .inl h
    · exact .inr h
  refine ⟨rfl, [], [], [.sq (ns.map AV.int)], ⟨List.nodup_nil, rfl, (fun i o e => nomatch e)⟩, ?_, ?_⟩
  · unfold VRs
    refine ⟨_, _, rfl, ?_, by unfold VRs; rfl⟩
    unfold VR
    exact ⟨a, _, rfl, hF, VRs.map (fun i => vr_int) ns⟩
  · obtain ⟨v, s', e, rfl⟩ := hl.get
    rw [e]
    intro ρ' H' x _ _ hx
    have hx : VR (TK K) ρ' H' (.bl true) x := hx
    unfold VR at hx
    exact hx
theorem fin_of {l : PySem.W.OpenLaw} {w : World} {K : PySem.W.Frag} {h : Heap} {mg : Str -> Option Value} {fa : Addr} {st : Stmt} {k : Nat} {sp : Sp} (hfa : mg "law" = some (.ref fa)) (D : Df (TK K) mg "law" st)
    (hb : ∀ (s : Shared) (v kV doc pm : Value) (an : Option Addr) (cdv ct : Value), BindsTo s (PySem.W.fnOf "law" "law" (defArgs st) (defBody st) (defScope st) .none kV doc pm an cdv ct) ⟨[v], []⟩ [("_law_script", v)])
    (F : ∀ (base : Heap) (f : Addr) (fd : FuncData), Fun K "law" "law" st f fd -> FnOk l.prog w K mg base CX0 k f fd ["_law_script"] sp) :
    ∃ fd : FuncData, (∀ (s : Shared) (v : Value), BindsTo s fd ⟨[v], []⟩ [("_law_script", v)]) /\ ∀ base : Heap, K.In base -> base.Ns mainGlobals mg -> FnOk l.prog w K mg base CX0 k fa fd ["_law_script"] sp := by
  obtain ⟨f, fd, G, m⟩ := D.ex
  cases m.symm.trans hfa
  refine ⟨fd, ?_, fun base _ _ => F base _ _ G⟩
  obtain ⟨oc, od, kV, doc, pm, an, cdv, ct, osl, rfl, lk, hcd⟩ := G.ex
  exact fun s v => hb s v kV doc pm an cdv ct
end
theorem walk {l : PySem.W.OpenLaw} {q : Program} {loose : List Str} {XP : (Str -> Option Value) -> Heap -> Prop} {YP : World -> Heap -> Prop} {d : DefRec} {K : Params -> PySem.W.Frag} (fl : List AV -> S -> R AV) (k : Nat) (hk : Room k callerA) (hl : ∀ ns : List Int, (fl [.sq (ns.map AV.int)] []).wp fun v _ => v = .bl true) (hn : l.most = some 63) (hdf : d.params.defaults = [])
    (hY : ∀ (w : World) (h : Heap), YP w h -> (K w.params).In h)
    (F : ∀ (w : World) (mg : Str -> Option Value) (fa : Addr) (h : Heap), (K w.params).In h -> h.Ns mainGlobals mg -> mg d.name = some (.ref fa) ->
      ∃ fd : FuncData, (∀ (s : Shared) (u : Value), BindsTo s fd ⟨[u], []⟩ [("_law_script", u)]) /\ ∀ base : Heap, (K w.params).In base -> base.Ns mainGlobals mg -> FnOk l.prog w (K w.params) mg base CX0 k fa fd ["_law_script"] (spOf (TK (K w.params)) 1 fl)) :
    PySem.W.WalkO q loose XP YP l.row.toRowW d [] (fun f vs => PySem.call f vs) :=
  L2.walk_of (n := 63) (x := "_law_script") (CX := fun _ => CX0) (sp := fun w => spOf (TK (K w.params)) 1 fl) hn (by decide) hdf hk hY F (fun w H a ns _ hO hS => sp_law (hl ns) hO hS) fun _ _ _ _ _ z => z
end Ro
namespace Sx
open PySem
def Rise (xs : Array Nat) : Prop := ∀ (i j : Nat) (a b : Nat), i < j -> xs[i]? = some a -> xs[j]? = some b -> a < b
theorem getD_at {xs : Array Nat} {m d : Nat} (h : m < xs.size) : ∃ a, xs[m]? = some a /\ xs.getD m d = a := ⟨xs[m], by simp [h], by simp [Array.getD, h]⟩
theorem below_go (xs : Array Nat) (h : Rise xs) (j : Nat) : ∀ (f lo hi : Nat), hi - lo <= f -> lo <= hi -> hi <= xs.size -> (∀ i a, i < lo -> xs[i]? = some a -> a < j) -> (∀ i a, hi <= i -> xs[i]? = some a -> j <= a) ->
    SetTable.below.go xs j f lo hi <= xs.size /\ (∀ i a, i < SetTable.below.go xs j f lo hi -> xs[i]? = some a -> a < j) /\ (∀ i a, SetTable.below.go xs j f lo hi <= i -> xs[i]? = some a -> j <= a)
  | 0, lo, hi, h1, h2, h3, h4, h5 => by
    have : lo = hi := by omega
    subst this
    exact ⟨h3, h4, h5⟩
  | f + 1, lo, hi, h1, h2, h3, h4, h5 => by
    unfold SetTable.below.go
    by_cases hl : lo < hi
    · rw [if_pos hl]
      have hm : (lo + hi) / 2 < xs.size := by omega
      obtain ⟨a, e1, e2⟩ := getD_at (d := j) hm
      dsimp only
      rw [e2]
      by_cases ha : a < j
      · rw [if_pos ha]
        refine below_go xs h j f _ hi (by omega) (by omega) h3 (fun i b hi' eb => ?_) h5
        rcases Nat.lt_or_ge i ((lo + hi) / 2) with q | q
        · exact Nat.lt_trans (h i _ b a q eb e1) ha
        · have : i = (lo + hi) / 2 := by omega
          subst this
          rw [e1] at eb; cases eb; exact ha
      · rw [if_neg ha]
        refine below_go xs h j f lo _ (by omega) (by omega) (by omega) h4 fun i b hi' eb => ?_
        rcases Nat.lt_or_ge ((lo + hi) / 2) i with q | q
        · exact Nat.le_of_lt (Nat.lt_of_le_of_lt (Nat.le_of_not_lt ha) (h _ i a b q e1 eb))
        · have : i = (lo + hi) / 2 := by omega
          subst this
          rw [e1] at eb; cases eb; exact Nat.le_of_not_lt ha
    · rw [if_neg hl]
      have : lo = hi := by omega
      subst this
      exact ⟨h3, h4, h5⟩
theorem below_is {xs : Array Nat} (h : Rise xs) (j : Nat) : SetTable.below xs j <= xs.size /\ (∀ i a, i < SetTable.below xs j -> xs[i]? = some a -> a < j) /\ (∀ i a, SetTable.below xs j <= i -> xs[i]? = some a -> j <= a) :=
  below_go xs h j xs.size 0 xs.size (by omega) (Nat.zero_le _) (Nat.le_refl _) (fun _ _ h => absurd h (Nat.not_lt_zero _)) fun i a hi e => by
    have := (Array.getElem?_eq_some_iff.mp e).1
    omega
theorem insertAt_get {α : Type} (xs : Array α) (p : Nat) (x : α) (hp : p <= xs.size) (i : Nat) : (SetTable.insertAt xs p x)[i]? = if i < p then xs[i]? else if i = p then some x else xs[i - 1]? := by
  rw [← Array.getElem?_toList, SetTable.toList_insertAt]
  have hl : (xs.toList.take p).length = p := by simp; omega
  by_cases h1 : i < p
  · rw [if_pos h1, List.getElem?_append_left (by omega), List.getElem?_take, if_pos h1, Array.getElem?_toList]
  · rw [if_neg h1, List.getElem?_append_right (by omega), hl]
    by_cases h2 : i = p
    · subst h2; simp
    · rw [if_neg h2]
      obtain ⟨k, rfl⟩ : ∃ k, i = p + 1 + k := ⟨i - p - 1, by omega⟩
      rw [show p + 1 + k - p = k + 1 by omega, List.getElem?_cons_succ, List.getElem?_drop, show p + 1 + k - 1 = p + k by omega, Array.getElem?_toList]
theorem rise_insert {xs : Array Nat} (h : Rise xs) {j : Nat} (hj : xs[SetTable.below xs j]? ≠ some j) : Rise (SetTable.insertAt xs (SetTable.below xs j) j) := by
  obtain ⟨b1, b2, b3⟩ := below_is h j
  intro i k a b hik ea eb
  rw [insertAt_get _ _ _ b1] at ea eb
  have gt : ∀ m c, SetTable.below xs j <= m -> xs[m]? = some c -> j < c := fun m c hm ec => by
    rcases Nat.lt_or_eq_of_le (b3 m c hm ec) with q | q
    · exact q
    · subst q
      rcases Nat.lt_or_eq_of_le hm with z | z
      · cases e0 : xs[SetTable.below xs j]? with
        | none =>
          have h1 := (Array.getElem?_eq_some_iff.mp ec).1
          have h2 := Array.getElem?_eq_none_iff.mp e0
          omega
        | some c0 =>
          have := h _ m c0 j z e0 ec
          have := b3 _ c0 (Nat.le_refl _) e0
          omega
      · rw [z] at hj; exact absurd ec hj
  split at ea
  · rename_i h1
    split at eb
    · exact h i k a b hik ea eb
    · rename_i h2
      split at eb
      · cases eb; exact b2 i a h1 ea
      · exact Nat.lt_trans (b2 i a h1 ea) (gt (k - 1) b (by omega) eb)
  · rename_i h1
    rw [if_neg (by omega)] at eb
    split at ea
    · rename_i h2
      cases ea
      rw [if_neg (by omega)] at eb
      exact gt (k - 1) b (by omega) eb
    · rename_i h2
      rw [if_neg (by omega)] at eb
      exact h (i - 1) (k - 1) a b (by omega) ea eb
theorem probe_go {t : SetTable} {h : Int} (hd : t.dummies = #[]) : ∀ (f : Nat) (p : SetTable.Probe) (m : SetTable.Met), p.dummy = none -> SetTable.probe.go t (fun _ => h + 1) h f p = some m -> ∃ j, m = .empty j none /\ t.slot j = .empty
  | 0, p, m, _, e => by cases e
  | f + 1, p, m, hp, e => by
    unfold SetTable.probe.go at e
    cases hs : t.slot p.j with
    | empty =>
      rw [hs] at e
      cases e
      exact ⟨p.j, by rw [hp], hs⟩
    | dummy =>
      exfalso
      unfold SetTable.slot at hs
      dsimp only at hs
      split at hs
      · cases hs
      · have : SetTable.has t.dummies p.j = false := by rw [hd]; rfl
        rw [this] at hs
        cases hs
    | live i =>
      rw [hs] at e
      dsimp only at e
      rw [if_neg (by simp; omega)] at e
      refine probe_go hd f _ m ?_ e
      unfold SetTable.advance
      split
      · exact hp
      · exact hp
theorem free_is {t : SetTable} {h : Int} (hd : t.dummies = #[]) {sl : Nat} {wd : Bool} (e : t.freeSlot h = some (sl, wd)) : t.place[SetTable.below t.place sl]? ≠ some sl := by
  unfold SetTable.freeSlot at e
  cases q : t.probe (fun _ => h + 1) h (t.probeStart h) with
  | none => rw [q] at e; cases e
  | some m =>
    rw [q] at e
    obtain ⟨j, rfl, hs⟩ := probe_go hd _ _ m rfl q
    cases e
    intro z
    unfold SetTable.slot at hs
    dsimp only at hs
    simp only [Option.getD_none] at z
    rw [z] at hs
    simp at hs
structure Good (bt : Bool) (n : Nat) (t : SetTable) : Prop where
  fits : t.fits n = true
  dum : t.dummies = #[]
  led : bt = false -> t.led = true
  rise : t.plain = true -> Rise t.place
theorem good_fresh (bt : Bool) : Good bt 0 (.fresh 0 0 (!bt)) := ⟨rfl, rfl, fun h => by rw [h]; rfl, fun _ i j a b _ e => by simp [SetTable.fresh] at e⟩
theorem Good.stand {bt : Bool} {n : Nat} {t : SetTable} (g : Good bt n t) (m : Nat) : Good bt m (t.standIn m) := ⟨SetTable.standIn_fits t m, rfl, g.led, fun h => by cases h⟩
theorem Good.plain {bt : Bool} {n : Nat} {t : SetTable} (g : Good bt n t) : Good bt n { t with plain := false } := ⟨SetTable.fits_plain_off g.fits, g.dum, g.led, fun h => by cases h⟩
theorem Good.new {bt : Bool} {es : Array (Int × Value)} {t : SetTable} (g : Good bt es.size t) (h : Int) (x : Value) : Good bt (layNew t es h x).1.size (layNew t es h x).2.1 := by
  have hf := layNew_fits t es h x
  unfold layNew at hf ⊢
  cases e : t.freeSlot h with
  | none => dsimp only; rw [Array.size_push]; exact g.stand _
  | some p =>
    obtain ⟨sl, wd⟩ := p
    rw [e] at hf
    dsimp only at hf ⊢
    unfold SetTable.orStandIn at hf ⊢
    split
    · refine ⟨by assumption, ?_, g.led, fun hp => ?_⟩
      · show (if SetTable.has t.dummies sl then SetTable.eraseAt t.dummies (SetTable.below t.dummies sl) else t.dummies) = #[]
        rw [g.dum]; rfl
      · exact rise_insert (g.rise hp) (free_is g.dum e)
    · refine ⟨SetTable.standIn_fits _ _, rfl, g.led, fun h => by cases h⟩
theorem rise_list {l : List Nat} (h : l.Pairwise (· < ·)) : Rise l.toArray := fun i j a b hij ea eb => by
  rw [List.getElem?_toArray] at ea eb
  obtain ⟨h1, e1⟩ := List.getElem?_eq_some_iff.mp ea
  obtain ⟨h2, e2⟩ := List.getElem?_eq_some_iff.mp eb
  rw [← e1, ← e2]
  exact List.pairwise_iff_getElem.mp h i j h1 h2 hij
theorem Good.relay {bt : Bool} {es : Array (Int × Value)} {t : SetTable} (g : Good bt es.size t) (wanted : Nat) : Good bt (relayAll t es wanted).1.size (relayAll t es wanted).2.1 := by
  have hf := relayAll_fits t es wanted
  unfold relayAll at hf ⊢
  cases e : t.relaid (es.map (·.1)) wanted with
  | none => exact g.stand _
  | some p =>
    obtain ⟨t', order⟩ := p
    rw [e] at hf
    dsimp only at hf ⊢
    split
    · rename_i hc
      rw [if_pos hc] at hf
      unfold SetTable.relaid SetTable.laid at e
      cases e1 : SetTable.layClean (SetTable.sizeAbove wanted - 1) (es.map (·.1)) with
      | none => rw [e1] at e; cases e
      | some owner =>
        rw [e1] at e
        cases e
        refine ⟨hf, rfl, g.led, fun _ => rise_list ?_⟩
        rw [List.map_filterMap]
        have hr : (List.range (SetTable.sizeAbove wanted - 1 + 1)).Pairwise (· < ·) := List.pairwise_lt_range
        refine List.Pairwise.filterMap _ (fun a b hab a' ha' b' hb' => ?_) hr
        have f1 : ∀ {c c' : Nat}, c' ∈ ((Option.map (fun x => (c, x)) (owner.getD c none)).map (·.1)) -> c' = c := fun {c c'} hc => by
          cases q : owner.getD c none with
          | none => rw [q] at hc; cases hc
          | some z => rw [q] at hc; cases hc; rfl
        rw [f1 ha', f1 hb']
        exact hab
    · exact g.stand _
end Sx
namespace Sx
open PySem PyProof.Rows
def byText (w : World) : Bool := w.params.followText "set-order"
def Keys {prog : Program} {w : World} {K : Type} [DecidableEq K] (knd : PySem.KeyKind prog w K) : List Value -> List K -> Prop
  | [], [] => True
  | v :: vs, k :: ks => knd.is k v = true /\ Keys knd vs ks
  | _, _ => False
def insK {K : Type} [DecidableEq K] (ks : List K) (k : K) : List K := if k ∈ ks then ks else ks ++ [k]
abbrev setObj (es : Array (Int × Value)) (ep : Nat) (t : SetTable) : Obj := { cls := .type "set", dict := none, data := .set es ep t, slots := #[] }
section
variable {prog : Program} {w : World} {K : Type} [DecidableEq K] {knd : PySem.KeyKind prog w K} {A : Around} {E : Value -> Shared -> Prop} {s : Shared} {a : Addr} {ks : List K} {k : K} {x : Value}
theorem Keys.length : ∀ {vs : List Value} {ks : List K}, Keys knd vs ks -> vs.length = ks.length
  | [], [], _ => rfl
  | _ :: _, _ :: _, h => by rw [List.length_cons, List.length_cons, Keys.length h.2]
  | [], _ :: _, h => h.elim
  | _ :: _, [], h => h.elim
theorem Keys.app : ∀ {vs vs' : List Value} {ks ks' : List K}, Keys knd vs ks -> Keys knd vs' ks' -> Keys knd (vs ++ vs') (ks ++ ks')
  | [], _, [], _, _, h => h
  | _ :: _, _, _ :: _, _, h, h' => ⟨h.1, Keys.app h.2 h'⟩
  | [], _, _ :: _, _, h, _ => h.elim
  | _ :: _, _, [], _, h, _ => h.elim
theorem Keys.perm {vs vs' : List Value} (p : vs'.Perm vs) : ∀ {ks : List K}, Keys knd vs ks -> ∃ ks', ks'.Perm ks /\ Keys knd vs' ks' := by
  induction p with
  | nil => intro ks h; exact ⟨ks, .refl _, h⟩
  | cons v _ ih =>
    intro ks h
    cases ks with
    | nil => exact h.elim
    | cons k ks => obtain ⟨ks', p, q⟩ := ih h.2; exact ⟨k :: ks', p.cons k, h.1, q⟩
  | swap u v l =>
    intro ks h
    cases ks with
    | nil => exact h.elim
    | cons k ks =>
      cases ks with
      | nil => exact h.2.elim
      | cons j ks => exact ⟨j :: k :: ks, .swap _ _ _, h.2.1, h.1, h.2.2⟩
  | trans _ _ ih1 ih2 => intro ks h; obtain ⟨k1, p1, q1⟩ := ih2 h; obtain ⟨k2, p2, q2⟩ := ih1 q1; exact ⟨k2, p2.trans p1, q2⟩
theorem Keys.mem : ∀ {vs : List Value} {ks : List K}, Keys knd vs ks -> ∀ k, k ∈ ks ↔ ∃ v ∈ vs, knd.is k v = true
  | [], [], _, k => by simp
  | v :: vs, j :: ks, h, k => by
    rw [List.mem_cons, Keys.mem h.2 k]
    constructor
    · rintro (rfl | ⟨u, h1, h2⟩)
      · exact ⟨v, List.mem_cons_self, h.1⟩
      · exact ⟨u, List.mem_cons_of_mem _ h1, h2⟩
    · rintro ⟨u, h1, h2⟩
      rcases List.mem_cons.mp h1 with rfl | h1
      · exact .inl (knd.inj _ _ _ h2 h.1)
      · exact .inr ⟨u, h1, h2⟩
  | [], _ :: _, h, _ => h.elim
  | _ :: _, [], h, _ => h.elim
def SetK (knd : PySem.KeyKind prog w K) (h : Heap) (a : Addr) (ks : List K) : Prop :=
  ∃ es ep t ks', h.get? a = some (setObj es ep t) /\ Good (byText w) es.size t /\ es.size < scanBound /\ ElemsOf knd es.toList /\ Keys knd (es.toList.map (·.2)) ks' /\ ks'.Perm ks /\ ks.Nodup
theorem set_put {es : Array (Int × Value)} {ep : Nat} {t : SetTable} {es' : Array (Int × Value)} {t' : SetTable} (h : s.heap.get? a = some (setObj es ep t)) : (s.heap.update a (Obj.putSet es' t')).get? a = some (setObj es' (ep + 1) t') := by
  have := Heap.get?_update_self (Obj.putSet es' t') h (by rw [putSet_of es' t' rfl]; rfl)
  rw [putSet_of es' t' rfl] at this
  exact this
theorem set_tail {g : Bool -> Sem Unit} (hg : ∀ (b : Bool) (s₁ : Shared) (Q' : Unit -> Shared -> Prop), Q' () s₁ -> wpAny (model prog w) A (g b) Q' E s₁)
    {es : Array (Int × Value)} {ep : Nat} {t : SetTable} (ho : s.heap.get? a = some (setObj es ep t)) {es1 : Array (Int × Value)} {t2 : SetTable} {ks1 : List K} (g2 : Good (byText w) es1.size t2) (hb1 : es1.size < scanBound) (hel : ElemsOf knd es1.toList)
    (hk : ∃ ks', Keys knd (es1.toList.map (·.2)) ks' /\ ks'.Perm ks1) (nd : ks1.Nodup) {wasDummy : Bool} {R : Option Bool -> Shared -> Prop}
    (h : ∀ h', Heap.SameBut a s.heap h' -> SetK knd h' a ks1 -> R (some true) { s with heap := h' }) :
    wpAny (model prog w) A (do
        storeSet a es1 t2
        if (!wasDummy && t2.tooFull) = true then do
            g (relayAll t2 es1 (SetTable.grown es1.size)).2.2
            storeSet a (relayAll t2 es1 (SetTable.grown es1.size)).1 (relayAll t2 es1 (SetTable.grown es1.size)).2.1
            pure (some true)
          else pure (some true)) R E s := by
  refine wpAny_bind (wpAny_storeSet_of ho rfl ?_ (fits_of_scanBound hb1))
  have ho1 := set_put (es' := es1) (t' := t2) ho
  have hsb1 := Heap.SameBut.update s.heap a (Obj.putSet es1 t2)
  obtain ⟨ks', q1, q2⟩ := hk
  split
  · have hp := relayAll_perm t2 es1 (SetTable.grown es1.size)
    have gr := g2.relay (SetTable.grown es1.size)
    generalize relayAll t2 es1 (SetTable.grown es1.size) = Rl at hp gr ⊢
    obtain ⟨es2, t3, gave2⟩ := Rl
    dsimp only at hp gr ⊢
    have hsz : es2.size = es1.size := by rw [← Array.length_toList, hp.length_eq, Array.length_toList]
    refine wpAny_bind (hg _ _ _ ?_)
    refine wpAny_bind (wpAny_storeSet_of ho1 rfl ?_ (fits_of_scanBound (by rw [hsz]; exact hb1)))
    obtain ⟨k2, p2, q3⟩ := Keys.perm (hp.map (·.2)) q1
    refine wpAny_pure (h _ (hsb1.trans (Heap.SameBut.update _ a _)) ⟨es2, _, t3, k2, set_put (s := { s with heap := s.heap.update a (Obj.putSet es1 t2) }) ho1, gr, by rw [hsz]; exact hb1, hel.perm hp, q3, p2.trans q2, nd⟩)
  · exact wpAny_pure (h _ hsb1 ⟨es1, _, t2, ks', ho1, g2, hb1, hel, q1, q2, nd⟩)
theorem set_addH {Q : Bool -> Shared -> Prop} (hkey : knd.is k x = true) (hsc : x.scannable = true) (hS : SetK knd s.heap a ks) (hroom : ks.length + 1 < scanBound)
    (h : ∀ h' b, Heap.SameBut a s.heap h' -> SetK knd h' a (insK ks k) -> Q b { s with heap := h' }) : wpAny (model prog w) A (setAddHashed a x (knd.hash k)) Q E s := by
  obtain ⟨es, ep, t, ks', ho, g, hb, hel, hK, hp, nd⟩ := id hS
  have hlen : es.size = ks.length := by rw [← hp.length_eq, ← hK.length, List.length_map, Array.length_toList]
  have hb1 : es.size + 1 < scanBound := by rw [hlen]; exact hroom
  unfold setAddHashed setAddHashedIn
  refine wpAny_holding (wpAny_bind (wpAny_setState_of ho rfl g.fits ?_))
  dsimp only
  rw [byScan_of hsc hb hel]
  simp only [↓reduceIte]
  unfold setAddByScan
  refine wpAny_bind ?_
  refine wpAny_bind (wpAny_rule ?_)
  refine wpAny_bind (wpAny_setScan_of hkey ho rfl g.fits hel ?_)
  cases hr : List.findIdx? (fun e => knd.is k e.2) es.toList with
  | some j =>
    dsimp only
    obtain ⟨hj, hpj, _⟩ := List.findIdx?_eq_some_iff_getElem.mp hr
    have hm : k ∈ ks := hp.mem_iff.mp ((hK.mem k).mpr ⟨_, List.mem_map.mpr ⟨_, List.getElem_mem hj, rfl⟩, hpj⟩)
    refine wpAny_pure (wpAny_pure ?_)
    have e : s = { s with heap := s.heap } := by cases s; rfl
    rw [e]
    exact h s.heap _ (Heap.SameBut.refl a s.heap) (by unfold insK; rw [if_pos hm]; exact hS)
  | none =>
    dsimp only
    have hm : k ∉ ks := fun hm => by
      obtain ⟨v, h1, h2⟩ := (hK.mem k).mp (hp.mem_iff.mpr hm)
      obtain ⟨e, he, rfl⟩ := List.mem_map.mp h1
      have := List.findIdx?_eq_none_iff.mp hr e he
      rw [h2] at this; cases this
    have hgw : ∀ (b : Bool) {s₁ : Shared} {Q' : Unit -> Shared -> Prop}, Q' () s₁ -> wpAny (model prog w) A (match b with | true => rule "set.scan.the-table-gave-way" | false => pure ()) Q' E s₁ :=
      fun b s₁ Q' hq => by cases b <;> first | exact wpAny_pure hq | exact wpAny_rule hq
    have hperm := layNew_perm t es (knd.hash k) x
    have gn := g.new (knd.hash k) x
    generalize layNew t es (knd.hash k) x = L at hperm gn ⊢
    obtain ⟨es1, t1, wasDummy, gave⟩ := L
    dsimp only at hperm gn ⊢
    rw [Array.toList_push] at hperm
    have hel1 : ElemsOf knd es1.toList := (hel.push hkey hsc).perm hperm
    have hb1' : es1.size < scanBound := by rw [← Array.length_toList, hperm.length_eq, List.length_append, Array.length_toList]; simpa using hb1
    have hks : ∃ k1, Keys knd (es1.toList.map (·.2)) k1 /\ k1.Perm (ks ++ [k]) := by
      have q : Keys knd ((es.toList ++ [(knd.hash k, x)]).map (·.2)) (ks' ++ [k]) := by rw [List.map_append]; exact hK.app ⟨hkey, trivial⟩
      obtain ⟨k1, p1, q1⟩ := Keys.perm (hperm.map (·.2)) q
      exact ⟨k1, q1, p1.trans (hp.append_right _)⟩
    have nd1 : (ks ++ [k]).Nodup := List.nodup_append.mpr ⟨nd, by simp, fun z hz y hy e => by rw [List.mem_singleton.mp hy] at e; subst e; exact hm hz⟩
    have hend : ∀ h', Heap.SameBut a s.heap h' -> SetK knd h' a (ks ++ [k]) -> wpAny (model prog w) A (pure true) Q E { s with heap := h' } := fun h' hsb hS' => wpAny_pure (h h' _ hsb (by unfold insK; rw [if_neg hm]; exact hS'))
    refine wpAny_bind (hgw _ ?_)
    split
    · refine wpAny_bind ?_
      rw [hashByValue_scannable 8 hsc]
      refine wpAny_pure ?_
      refine set_tail ?_ ho ?_ hb1' hel1 hks nd1 ?_
      · intro b s₁ Q' hq; cases b <;> first | exact wpAny_pure hq | exact wpAny_rule hq
      · split
        · exact gn
        · exact gn.plain
      · intro h' hsb hS'; dsimp only; exact hend h' hsb hS'
    · refine wpAny_bind (wpAny_pure ?_)
      simp only [↓reduceIte]
      refine set_tail ?_ ho gn hb1' hel1 hks nd1 ?_
      · intro b s₁ Q' hq; cases b <;> first | exact wpAny_pure hq | exact wpAny_rule hq
      · intro h' hsb hS'; dsimp only; exact hend h' hsb hS'
theorem SetK.keep {h h' : Heap} (hS : SetK knd h a ks) (hk : ∀ o, h.get? a = some o -> h'.get? a = some o) : SetK knd h' a ks := let ⟨es, ep, t, ks', ho, r⟩ := hS; ⟨es, ep, t, ks', hk _ ho, r⟩
theorem SetK.typeIs (hS : SetK knd s.heap a ks) : s.TypeIs (.ref a) "set" := let ⟨es, ep, t, ks', ho, r⟩ := hS; ⟨_, ho, rfl⟩
theorem SetK.lt {h : Heap} (hS : SetK knd h a ks) : a < h.objs.size := let ⟨es, ep, t, ks', ho, r⟩ := hS; Heap.lt_size ho
theorem set_add {Q : Value -> Shared -> Prop} (hkey : knd.is k x = true) (hsc : x.scannable = true) (hS : SetK knd s.heap a ks) (hroom : ks.length + 1 < scanBound)
    (h : ∀ h', Heap.SameBut a s.heap h' -> SetK knd h' a (insK ks k) -> Q .none { s with heap := h', toks := s.toks + 1 }) :
    wpAny (model prog w) A (call (.builtin "set.add") [.ref a, x]) Q E s := by
  refine wpAny_call_entry F.slot_set_add hS.typeIs F.entry_set_add ?_ (F.args_set_add_2 _ _)
  unfold Builtin.«set.add» Builtin.Frozenset.oneOther
  simp only [List.isEmpty_nil, bind_assoc]
  unfold Builtin.Frozenset.addrOf setAdd
  refine wpAny_bind (wpAny_pure ?_)
  try dsimp only
  refine wpAny_bind (wpAny_pure ?_)
  try dsimp only
  refine wpAny_bind ?_
  refine wpAny_holding ?_
  refine wpAny_bind (knd.pyHash hkey ?_)
  refine set_addH (s := { s with toks := s.toks + 1 }) hkey hsc hS hroom fun h' b hsb hS' => ?_
  show wpAny _ _ (ret Value.none) _ _ _
  exact wpAny_pure ⟨_, rfl, h h' hsb hS'⟩
theorem set_new {Q : Value -> Shared -> Prop} (h : SetK knd (s.heap.push (setObj #[] 0 (.fresh 0 0 (!byText w)))) s.heap.objs.size [] -> Q (.ref s.heap.objs.size) { s with heap := s.heap.push (setObj #[] 0 (.fresh 0 0 (!byText w))) }) :
    wpAny (model prog w) A (newSet (.type "set")) Q E s := by
  unfold newSet setsByText
  refine wpAny_bind (wpAny_bind (wpAny_askSetting (wpAny_pure ?_)))
  dsimp only
  simp only [newObj]
  refine wpAny_bind (wpAny_alloc (wpAny_pure (h ⟨#[], 0, _, [], Heap.get?_push_size _ rfl, good_fresh _, by decide, fun e he => by simp at he, trivial, .refl _, List.nodup_nil⟩)))
end
end Sx
namespace Sx
open PySem PyProof.Rows
theorem erase_perm {α : Type} {l : List α} {i : Nat} (h : i < l.length) : (l[i] :: l.eraseIdx i).Perm l := by
  rw [List.eraseIdx_eq_take_drop_succ]
  refine List.perm_middle.symm.trans ?_
  rw [← List.drop_eq_getElem_cons h, List.take_append_drop]
theorem pick_go {α : Type} (next : Nat -> Nat) : ∀ (f k : Nat) (left : List α) (out : Array α), left.length <= f -> (pickOrder.go next f k left out).toList.Perm (out.toList ++ left)
  | 0, k, left, out, h => by
    have : left = [] := List.length_eq_zero_iff.mp (by omega)
    subst this
    rw [List.append_nil]; exact .refl _
  | f + 1, k, left, out, h => by
    unfold pickOrder.go
    cases left with
    | nil => simp
    | cons x r =>
      have hlt : next k % (x :: r).length < (x :: r).length := Nat.mod_lt _ (by simp)
      rw [List.getElem?_eq_getElem hlt]
      dsimp only
      refine (pick_go next f (k + 1) _ _ (by rw [List.length_eraseIdx_of_lt hlt]; simp at h ⊢; omega)).trans ?_
      rw [Array.toList_push, List.append_assoc]
      refine List.Perm.append_left _ ?_
      exact (erase_perm hlt)
theorem pick_perm {α : Type} (next : Nat -> Nat) (xs : Array α) : (pickOrder next xs).toList.Perm xs.toList := by
  have := pick_go next xs.size 0 xs.toList #[] (by simp)
  rw [List.nil_append] at this
  exact this
abbrev itObj (first : Value) (i : Nat) (a : Addr) (n ep : Nat) : Obj := { cls := .type "set_iterator", dict := none, data := .fields #[first, .int i 0, .ref a, .int n 0, .int ep 0], slots := #[] }
section
variable {prog : Program} {w : World} {A : Around} {E : Value -> Shared -> Prop} {s : Shared} {a : Addr} {es : Array (Int × Value)} {ep : Nat} {t : SetTable}
theorem next_text {sl i : Nat} {Q : Option (Value × Nat) -> Shared -> Prop} (hb : byText w = true) (ho : s.heap.get? a = some (setObj es ep t)) (g : Good (byText w) es.size t)
    (h : Q (((pickOrder (w.params.setOrder a ep) es)[i]?).map fun e => (e.2, sl)) s) : wpAny (model prog w) A (setNext a sl i ep) Q E s := by
  unfold setNext setsByText
  refine wpAny_bind (wpAny_setState_of ho rfl g.fits ?_)
  dsimp only
  refine wpAny_bind (wpAny_bind (wpAny_askSetting (wpAny_pure ?_)))
  have hb' : (model prog w).w.params.followText "set-order" = true := hb
  dsimp only
  rw [hb']
  simp only [if_true, bne_self_eq_false, Bool.false_eq_true, if_false]
  unfold setWalk setsByText
  refine wpAny_bind (wpAny_bind (wpAny_setState_of ho rfl g.fits ?_))
  dsimp only
  refine wpAny_bind (wpAny_bind (wpAny_askSetting (wpAny_pure ?_)))
  dsimp only
  rw [hb']
  simp only [if_true]
  refine wpAny_bind (wpAny_askSetting (wpAny_pure (wpAny_pure h)))
theorem next_place {sl i : Nat} {Q : Option (Value × Nat) -> Shared -> Prop} (hb : byText w = false) (ho : s.heap.get? a = some (setObj es ep t)) (g : Good (byText w) es.size t) (hd : (!t.plain && decide (es.size > 1)) = false)
    (h : Q (match es[SetTable.below t.place sl]?, t.place[SetTable.below t.place sl]? with | some (_, x), some j => some (x, j + 1) | _, _ => none) s) : wpAny (model prog w) A (setNext a sl i ep) Q E s := by
  unfold setNext setsByText
  refine wpAny_bind (wpAny_setState_of ho rfl g.fits ?_)
  dsimp only
  refine wpAny_bind (wpAny_bind (wpAny_askSetting (wpAny_pure ?_)))
  have hb' : (model prog w).w.params.followText "set-order" = false := hb
  dsimp only
  rw [hb']
  simp only [Bool.false_eq_true, if_false]
  split
  · rename_i hx
    have hx : (!t.plain && decide (es.size > 1)) = true := hx
    rw [hd] at hx; cases hx
  · show wpAny _ _ ((if (!t.led && !es.isEmpty) = true then unsupported "set:maker-not-led" else pure PUnit.unit) >>= fun _ => _) _ _ _
    rw [g.led hb]
    simp only [Bool.not_true, Bool.false_and, Bool.false_eq_true, if_false]
    exact wpAny_bind (wpAny_pure (wpAny_pure h))
theorem draw_perm {α : Type} : ∀ (n : Nat) (xs : List α) (s : Shared) {Q : List α -> Shared -> Prop}, xs.length <= n -> (∀ ys d, ys.Perm xs -> Q ys { s with drawn := d }) -> wpAny (model prog w) A (drawOrder n xs) Q E s
  | 0, xs, s, Q, hl, h => by
    have : xs = [] := List.length_eq_zero_iff.mp (by omega)
    subst this
    unfold drawOrder
    exact wpAny_pure (h [] s.drawn (.refl _))
  | n + 1, [], s, Q, hl, h => by
    unfold drawOrder
    exact wpAny_pure (h [] s.drawn (.refl _))
  | n + 1, x :: r, s, Q, hl, h => by
    unfold drawOrder
    refine wpAny_bind ?_
    have hc : ∀ {Q' : Nat -> Shared -> Prop}, (∀ i d, i < (x :: r).length -> Q' i { s with drawn := d }) -> wpAny (model prog w) A (choose .order (x :: r).length) Q' E s := fun {Q'} hq Γ p hΓ => by
      show Sem.wp (model prog w) Γ (.choose .order (x :: r).length .pure) _ _ p s
      rw [Sem.wp_choose]
      refine ⟨by simp, ?_⟩
      have := hq ((model prog w).w.draws .order (s.drawn.get .order) % (x :: r).length) (s.drawn.bump .order) (Nat.mod_lt _ (by simp))
      first | exact this | (rw [Sem.wp_pure]; exact this) | simpa using this
    refine hc fun i d hi => ?_
    rw [List.getElem?_eq_getElem hi]
    dsimp only
    refine wpAny_bind (draw_perm n _ _ (by rw [List.length_eraseIdx_of_lt hi]; simp at hl ⊢; omega) fun ys d' p => wpAny_pure (h _ d' ?_))
    exact (p.cons _).trans (erase_perm hi)
end
end Sx
namespace Sx
open PySem PyProof.Rows
theorem slot_si_next : Slot "set_iterator" "__next__" "set_iterator.__next__" :=
  .of (owner := "set_iterator") (n := "__next__") (by rw [typeLookup_type, builtinLookup_eq_fast]; kernel_rfl) (by decide +kernel) (by decide +kernel) (by decide +kernel)
    (by first | exact .inl (by decide +kernel) | exact .inr (by decide +kernel)) (by rw [isSubtype_type]; kernel_rfl)
theorem entry_si_next : entryFor table "set_iterator.__next__" = some Builtin.«set_iterator.__next__» := entryFor_of_tree (by kernel_rfl)
theorem args_si_next (a : Value) : argsOk "set_iterator.__next__" ⟨[a], []⟩ := by unfold argsOk; kernel_rfl
theorem slot_si_iter : Slot "set_iterator" "__iter__" "set_iterator.__iter__" :=
  .of (owner := "set_iterator") (n := "__iter__") (by rw [typeLookup_type, builtinLookup_eq_fast]; kernel_rfl) (by decide +kernel) (by decide +kernel) (by decide +kernel)
    (by first | exact .inl (by decide +kernel) | exact .inr (by decide +kernel)) (by rw [isSubtype_type]; kernel_rfl)
theorem entry_si_iter : entryFor table "set_iterator.__iter__" = some Builtin.«dict_keyiterator.__iter__» :=
  entryFor_alias (id' := "dict_keyiterator.__iter__") (by kernel_rfl) rfl (by decide +kernel) (by kernel_rfl)
theorem args_si_iter (a : Value) : argsOk "set_iterator.__iter__" ⟨[a], []⟩ := by unfold argsOk; kernel_rfl
theorem entry_set_iter : entryFor table "set.__iter__" = some Builtin.«frozenset.__iter__» :=
  entryFor_alias (id' := "frozenset.__iter__") (by kernel_rfl) rfl (by decide +kernel) (by kernel_rfl)
section
variable {prog : Program} {w : World} {A : Around} {E : Value -> Shared -> Prop} {s : Shared} {a I : Addr} {es : Array (Int × Value)} {ep i sl : Nat} {t : SetTable}
theorem it_self {f : Value} {n : Nat} {Q : Value -> Shared -> Prop} (hit : s.heap.get? I = some (itObj f i a n ep)) (h : Q (.ref I) s) : wpAny (model prog w) A (pyIter (.ref I)) Q E s := by
  have hT : s.TypeIs (.ref I) "set_iterator" := ⟨_, hit, rfl⟩
  refine wpAny_pyIter_slot hT slot_si_iter (wpAny_call_entry slot_si_iter hT entry_si_iter ?_ (args_si_iter _))
  show wpAny _ _ (ret (.ref I)) _ _ s
  exact wpAny_pure ⟨_, rfl, "set_iterator", _, hT, slot_si_next.lookup, h⟩
theorem it_item {x : Value} {nx : Nat} {Q : Option Value -> Shared -> Prop} (hit : s.heap.get? I = some (itObj (.int sl 0) i a es.size ep)) (ho : s.heap.get? a = some (setObj es ep t)) (g : Good (byText w) es.size t)
    (hn : ∀ {E : Value -> Shared -> Prop} {Q : Option (Value × Nat) -> Shared -> Prop}, Q (some (x, nx)) s -> wpAny (model prog w) A.in1 (setNext a sl i ep) Q E s)
    (h : ∀ h', h'.get? I = some (itObj (.int nx 0) (i + 1) a es.size ep) -> Heap.SameBut I s.heap h' -> Q (some x) { s with heap := h' }) : wpAny (model prog w) A (pyNext (.ref I)) Q E s := by
  have hT : s.TypeIs (.ref I) "set_iterator" := ⟨_, hit, rfl⟩
  unfold pyNext
  refine wpAny_bind (wpAny_attempt (wpAny_callSpecial?_slot (name := Str.ofString "__next__") hT slot_si_next (wpAny_call_entry slot_si_next hT entry_si_next ?_ (args_si_next _))))
  unfold Builtin.«set_iterator.__next__»
  refine wpAny_bind (m := slotArgs _ _ _) (wpAny_pure ?_)
  refine wpAny_bind (wpAny_fieldsOf hit rfl ?_)
  dsimp only
  refine wpAny_bind (wpAny_setEntries_of ho rfl g.fits ?_)
  rw [if_neg (by simp)]
  simp only [Int.toNat_natCast]
  refine wpAny_bind (hn ?_)
  dsimp only
  refine wpAny_bind (wpAny_setField_rec hit (by simp) fun h1 e1 k1 => ?_)
  refine wpAny_bind (wpAny_setField_rec (s := { s with heap := h1 }) e1 (by simp) fun h2 e2 k2 => ?_)
  refine wpAny_pure ⟨_, rfl, wpAny_pure (h h2 ?_ (k1.trans k2))⟩
  have e3 : ((i + 1 : Nat) : Int) = (i : Int) + 1 := by omega
  show h2.get? I = some { cls := .type "set_iterator", dict := none, data := .fields #[.int nx 0, .int ((i + 1 : Nat) : Int) 0, .ref a, .int es.size 0, .int ep 0], slots := #[] }
  rw [e3]
  simpa [rawInt] using e2
theorem stop_any {Q : Option Value -> Shared -> Prop} (hh : A.handled = none) (h : ∀ h', (∀ b o, s.heap.get? b = some o -> h'.get? b = some o) -> Q none { s with heap := h' }) :
    wpAny (model prog w) A.in1 (do raiseNew (← newExc (.type "StopIteration") []) : Sem PySem.Fin) (fun fin s' => ∃ r, fin = .done (.ret r) /\ (wpAny (model prog w) A (pure (some r)) Q E s')) (fun x s' => wpAny (model prog w) A (do if ← isInstance x (.type "StopIteration") then pure none else throw x) Q E s') s := by
  refine wpAny_bind ?_
  simp only [newExc, newTuple]
  refine wpAny_bind (wpAny_newObj_type ?_ (by size_fits))
  refine wpAny_bind (m := firstArgMember _ _) (wpAny_of_eq (a := Value.none) (by first | rfl | (simp only [firstArgMember]; rfl)) ?_)
  refine wpAny_newObj_type ?_ (by size_fits)
  simp only [raiseNew]
  refine wpAny_bind (wpAny_handled ?_)
  rw [show A.in1.handled = none from hh]
  refine wpAny_bind (wpAny_pure (wpAny_throw ?_))
  refine wpAny_bind (wpAny_isInstance (T := "StopIteration") (b := true) ⟨_, Heap.get?_push_size _ rfl, rfl⟩ isSubtype_stop ?_)
  exact wpAny_pure (h _ fun b o e => Heap.get?_push_of_some _ (Heap.get?_push_of_some _ e))
theorem it_done {Q : Option Value -> Shared -> Prop} (hh : A.handled = none) (hit : s.heap.get? I = some (itObj (.int sl 0) i a es.size ep)) (ho : s.heap.get? a = some (setObj es ep t)) (g : Good (byText w) es.size t)
    (hn : ∀ {E : Value -> Shared -> Prop} {Q : Option (Value × Nat) -> Shared -> Prop}, Q none s -> wpAny (model prog w) A.in1 (setNext a sl i ep) Q E s)
    (h : ∀ h', (∀ b o, b ≠ I -> s.heap.get? b = some o -> h'.get? b = some o) -> Q none { s with heap := h' }) : wpAny (model prog w) A (pyNext (.ref I)) Q E s := by
  have hT : s.TypeIs (.ref I) "set_iterator" := ⟨_, hit, rfl⟩
  unfold pyNext
  refine wpAny_bind (wpAny_attempt (wpAny_callSpecial?_slot (name := Str.ofString "__next__") hT slot_si_next (wpAny_call_entry slot_si_next hT entry_si_next ?_ (args_si_next _))))
  unfold Builtin.«set_iterator.__next__»
  refine wpAny_bind (m := slotArgs _ _ _) (wpAny_pure ?_)
  refine wpAny_bind (wpAny_fieldsOf hit rfl ?_)
  dsimp only
  refine wpAny_bind (wpAny_setEntries_of ho rfl g.fits ?_)
  rw [if_neg (by simp)]
  simp only [Int.toNat_natCast]
  refine wpAny_bind (hn ?_)
  dsimp only
  refine wpAny_bind (wpAny_setField_rec hit (by simp) fun h1 e1 k1 => ?_)
  exact stop_any (s := { s with heap := h1 }) hh fun h' k => h h' fun b o hb e => k b o ((k1.2 b hb).trans e)
theorem it_itemD {tp : Addr} {ps : List Nat} {p : Nat} {x : Int × Value} {Q : Option Value -> Shared -> Prop} (hit : s.heap.get? I = some (itObj (.ref tp) i a es.size ep)) (ho : s.heap.get? a = some (setObj es ep t)) (g : Good (byText w) es.size t)
    (htp : s.heap.get? tp = some { cls := .type "tuple", data := .seq (ps.map fun (i : Nat) => rawInt i).toArray }) (hp : ps[i]? = some p) (hx : es[p]? = some x)
    (h : ∀ h', h'.get? I = some (itObj (.ref tp) (i + 1) a es.size ep) -> Heap.SameBut I s.heap h' -> Q (some x.2) { s with heap := h' }) : wpAny (model prog w) A (pyNext (.ref I)) Q E s := by
  have hT : s.TypeIs (.ref I) "set_iterator" := ⟨_, hit, rfl⟩
  unfold pyNext
  refine wpAny_bind (wpAny_attempt (wpAny_callSpecial?_slot (name := Str.ofString "__next__") hT slot_si_next (wpAny_call_entry slot_si_next hT entry_si_next ?_ (args_si_next _))))
  unfold Builtin.«set_iterator.__next__»
  refine wpAny_bind (m := slotArgs _ _ _) (wpAny_pure ?_)
  refine wpAny_bind (wpAny_fieldsOf hit rfl ?_)
  dsimp only
  refine wpAny_bind (wpAny_setEntries_of ho rfl g.fits ?_)
  rw [if_neg (by simp)]
  refine wpAny_bind (m := seqItems? _) ?_
  unfold seqItems?
  dsimp only
  refine wpAny_bind (wpAny_load htp (wpAny_pure ?_))
  dsimp only
  simp only [Int.toNat_natCast]
  have e1 : (ps.map fun (i : Nat) => rawInt i).toArray[i]? = some (rawInt p) := by rw [List.getElem?_toArray, List.getElem?_map, hp]; rfl
  rw [e1]
  dsimp only [rawInt]
  refine wpAny_bind ?_
  unfold setNextDrawn
  refine wpAny_bind (wpAny_setState_of ho rfl g.fits ?_)
  dsimp only
  simp only [Int.toNat_natCast, bne_self_eq_false, Bool.false_eq_true, if_false]
  rw [hx]
  refine wpAny_pure ?_
  refine wpAny_bind (wpAny_setField_rec hit (by simp) fun h1 e1 k1 => ?_)
  refine wpAny_pure ⟨_, rfl, wpAny_pure (h h1 ?_ k1)⟩
  have e3 : ((i + 1 : Nat) : Int) = (i : Int) + 1 := by omega
  show h1.get? I = some { cls := .type "set_iterator", dict := none, data := .fields #[.ref tp, .int ((i + 1 : Nat) : Int) 0, .ref a, .int es.size 0, .int ep 0], slots := #[] }
  rw [e3]
  simpa [rawInt] using e1
theorem it_doneD {tp : Addr} {ps : List Nat} {Q : Option Value -> Shared -> Prop} (hh : A.handled = none) (hit : s.heap.get? I = some (itObj (.ref tp) i a es.size ep)) (ho : s.heap.get? a = some (setObj es ep t)) (g : Good (byText w) es.size t)
    (htp : s.heap.get? tp = some { cls := .type "tuple", data := .seq (ps.map fun (i : Nat) => rawInt i).toArray }) (hp : ps[i]? = none)
    (h : ∀ h', (∀ b o, b ≠ I -> s.heap.get? b = some o -> h'.get? b = some o) -> Q none { s with heap := h' }) : wpAny (model prog w) A (pyNext (.ref I)) Q E s := by
  have hT : s.TypeIs (.ref I) "set_iterator" := ⟨_, hit, rfl⟩
  unfold pyNext
  refine wpAny_bind (wpAny_attempt (wpAny_callSpecial?_slot (name := Str.ofString "__next__") hT slot_si_next (wpAny_call_entry slot_si_next hT entry_si_next ?_ (args_si_next _))))
  unfold Builtin.«set_iterator.__next__»
  refine wpAny_bind (m := slotArgs _ _ _) (wpAny_pure ?_)
  refine wpAny_bind (wpAny_fieldsOf hit rfl ?_)
  dsimp only
  refine wpAny_bind (wpAny_setEntries_of ho rfl g.fits ?_)
  rw [if_neg (by simp)]
  refine wpAny_bind (m := seqItems? _) ?_
  unfold seqItems?
  dsimp only
  refine wpAny_bind (wpAny_load htp (wpAny_pure ?_))
  dsimp only
  simp only [Int.toNat_natCast]
  have e1 : (ps.map fun (i : Nat) => rawInt i).toArray[i]? = none := by rw [List.getElem?_toArray, List.getElem?_map, hp]; rfl
  rw [e1]
  dsimp only
  refine wpAny_bind (wpAny_setField_rec hit (by simp) fun h1 e1 k1 => ?_)
  refine wpAny_bind (wpAny_setField_rec (s := { s with heap := h1 }) e1 (by simp) fun h2 e2 k2 => ?_)
  exact stop_any (s := { s with heap := h2 }) hh fun h' k => h h' fun b o hb e => k b o (((k1.trans k2).2 b hb).trans e)
end
end Sx
namespace Sx
open PySem PyProof.Rows
theorem below_eq {xs : Array Nat} (h : Rise xs) {j i : Nat} (hi : i <= xs.size) (h1 : ∀ k b, k < i -> xs[k]? = some b -> b < j) (h2 : ∀ k b, i <= k -> xs[k]? = some b -> j <= b) : SetTable.below xs j = i := by
  obtain ⟨b1, b2, b3⟩ := below_is h j
  rcases Nat.lt_trichotomy (SetTable.below xs j) i with q | q | q
  · have hl : SetTable.below xs j < xs.size := by omega
    have e : xs[SetTable.below xs j]? = some xs[SetTable.below xs j] := by simp [hl]
    have := h1 _ _ q e
    have := b3 _ _ (Nat.le_refl _) e
    omega
  · exact q
  · have hl : i < xs.size := by omega
    have e : xs[i]? = some xs[i] := by simp [hl]
    have := b2 _ _ q e
    have := h2 _ _ (Nat.le_refl _) e
    omega
section
variable {prog : Program} {w : World} {K : Type} [DecidableEq K] {knd : PySem.KeyKind prog w K} {A : Around} {E : Value -> Shared -> Prop} {s : Shared} {a : Addr} {ks : List K}
def WalkOk (prog : Program) (w : World) {K : Type} [DecidableEq K] (knd : PySem.KeyKind prog w K) (A : Around) (ks : List K) (a : Addr) (h h' : Heap) (I : Addr) : Prop :=
  (∀ b o, h.get? b = some o -> h'.get? b = some o) /\ ∃ (L : List Value) (fp : List Addr) (St : Nat -> Heap -> Prop), (∀ b ∈ fp, b = a ∨ h.objs.size <= b) /\ I ∈ fp /\ h.objs.size <= I /\ Walks prog w A I fp [I] L.length (fun i v => L[i]? = some v) St /\ St 0 h' /\ ∃ ks', Keys knd L ks' /\ ks'.Perm ks
theorem set_iter {A' : Around} (hh : A'.handled = none) {Q : Value -> Shared -> Prop} (hS : SetK knd s.heap a ks)
    (h : ∀ I h' d, WalkOk prog w knd A' ks a s.heap h' I -> Q (.ref I) { s with heap := h', drawn := d }) : wpAny (model prog w) A (pyIter (.ref a)) Q E s := by
  obtain ⟨es, ep, t, ks', ho, g, hb, hel, hK, hp, nd⟩ := id hS
  have hla : a < s.heap.objs.size := Heap.lt_size ho
  have hT := hS.typeIs
  refine wpAny_pyIter_slot hT F.slot_set_iter (wpAny_call_entry F.slot_set_iter hT entry_set_iter ?_ (F.args_set_iter_1 _))
  unfold Builtin.«frozenset.__iter__» Builtin.Frozenset.slot0 Builtin.Frozenset.addrOf Builtin.Frozenset.sizeOf
  refine wpAny_bind (wpAny_bind (m := slotArgs _ _ _) (wpAny_pure (wpAny_pure ?_)))
  refine wpAny_bind (wpAny_bind (wpAny_setEntries_of ho rfl g.fits (wpAny_pure ?_)))
  have hdr : ∀ {Q : Bool -> Shared -> Prop} {E : Value -> Shared -> Prop}, Q (!byText w && (!t.plain && decide (es.size > 1))) s -> wpAny (model prog w) A.in1 (setDrawn a) Q E s := fun {Q E} hq => by
    unfold setDrawn setsByText
    refine wpAny_bind (wpAny_setState_of ho rfl g.fits ?_)
    dsimp only
    refine wpAny_bind (wpAny_bind (wpAny_askSetting (wpAny_pure (wpAny_pure hq))))
  refine wpAny_bind (hdr ?_)
  have iter : ∀ (f : Value) (h1 : Heap) (d : Drawn), (∀ b o, s.heap.get? b = some o -> h1.get? b = some o) -> s.heap.objs.size <= h1.objs.size -> WalkOk prog w knd A' ks a s.heap (h1.push (itObj f 0 a es.size ep)) h1.objs.size ->
      wpAny (model prog w) A.in1 (setEpoch a >>= fun e => newFields "set_iterator" [f, rawInt 0, .ref a, rawInt es.size, rawInt e] >>= fun r => ret r) (fun fin s' => ∃ r, fin = .done (.ret r) /\ ∃ T' q, s'.TypeIs r T' /\ typeLookup (.type T') "__next__" = pure (some q) /\ Q r s') E { s with heap := h1, drawn := d } := fun f h1 d k hz ok => by
    refine wpAny_bind (wpAny_setEpoch_of (s := { s with heap := h1, drawn := d }) (k _ _ ho) rfl g.fits ?_)
    unfold newFields
    refine wpAny_bind (wpAny_newObj_type ?_ (by size_fits))
    refine wpAny_pure ⟨_, rfl, "set_iterator", _, ⟨itObj f 0 a es.size ep, Heap.get?_push_size _ rfl, rfl⟩, slot_si_next.lookup, h _ _ d ok⟩
  have hpush : ∀ (f : Value) (h1 : Heap), (h1.push (itObj f 0 a es.size ep)).get? h1.objs.size = some (itObj f 0 a es.size ep) := fun f h1 => Heap.get?_push_size _ rfl
  have bt0 : (!byText w && (!t.plain && decide (es.size > 1))) = false -> wpAny (model prog w) A.in1 (setEpoch a >>= fun e => newFields "set_iterator" [rawInt 0, rawInt 0, .ref a, rawInt es.size, rawInt e] >>= fun r => ret r) (fun fin s' => ∃ r, fin = .done (.ret r) /\ ∃ T' q, s'.TypeIs r T' /\ typeLookup (.type T') "__next__" = pure (some q) /\ Q r s') E s := fun hd => by
    have key := iter (rawInt 0) s.heap s.drawn (fun _ _ e => e) (Nat.le_refl _) ?_
    · exact key
    refine ⟨fun b o e => Heap.get?_push_of_some _ e, ?_⟩
    by_cases hbt : byText w = true
    · refine ⟨(pickOrder (w.params.setOrder a ep) es).toList.map (·.2), [s.heap.objs.size, a], fun i h => h.get? s.heap.objs.size = some (itObj (.int (0 : Nat) 0) i a es.size ep) /\ h.get? a = some (setObj es ep t), ?_, by simp, Nat.le_refl _, ?_, ⟨hpush _ _, Heap.get?_push_of_some _ ho⟩, ?_⟩
      · intro b hb'
        rcases List.mem_cons.mp hb' with rfl | hb'
        · exact .inr (Nat.le_refl _)
        · exact .inl (List.mem_singleton.mp hb')
      · refine ⟨fun b hb' => by simp at hb' ⊢; exact .inl hb', fun i h h' hs k => ⟨k _ (by simp) _ hs.1, k _ (by simp) _ hs.2⟩, fun i s' Q E hi st hq => ?_, fun s' Q E st hq => ?_, fun i s' Q E st hq => it_self st.1 hq⟩
        · rw [List.length_map, Array.length_toList] at hi
          have e1 : (pickOrder (w.params.setOrder a ep) es)[i]? = some (pickOrder (w.params.setOrder a ep) es)[i] := by simp [hi]
          refine it_item (t := t) (nx := 0) st.1 st.2 g (fun {E' Q'} hq' => next_text hbt st.2 g (by rw [e1]; exact hq')) fun h' e k => ?_
          exact hq _ h' s'.toks (by rw [List.getElem?_map, Array.getElem?_toList, e1]; rfl) ⟨e, (k.2 a (Nat.ne_of_lt hla)).trans st.2⟩ fun b o hb' e' => (k.2 b (by simpa using hb')).trans e'
        · refine it_done (t := t) hh st.1 st.2 g (fun {E' Q'} hq' => next_text hbt st.2 g (by rw [Array.getElem?_eq_none (by simp)]; exact hq')) fun h' k => ?_
          exact hq h' s'.toks fun b o hb' e' => k b o (by simpa using hb') e'
      · obtain ⟨k2, p2, q2⟩ := Keys.perm ((pick_perm (w.params.setOrder a ep) es).map (·.2)) hK
        exact ⟨k2, q2, p2.trans hp⟩
    · have hbt : byText w = false := by simpa using hbt
      have hd2 : (!t.plain && decide (es.size > 1)) = false := by rw [hbt] at hd; simpa using hd
      have hpz : t.place.size = es.size := by have := g.fits; simp only [SetTable.fits, Bool.and_eq_true, beq_iff_eq] at this; exact this.1
      have hr : Rise t.place := by
        cases hpl : t.plain with
        | true => exact g.rise hpl
        | false =>
          rw [hpl] at hd2
          simp at hd2
          intro i j x y hij ex ey
          have := (Array.getElem?_eq_some_iff.mp ey).1
          omega
      refine ⟨es.toList.map (·.2), [s.heap.objs.size, a], fun i h => ∃ sl : Nat, h.get? s.heap.objs.size = some (itObj (.int sl 0) i a es.size ep) /\ h.get? a = some (setObj es ep t) /\ SetTable.below t.place sl = i, ?_, by simp, Nat.le_refl _, ?_, ⟨0, hpush _ _, Heap.get?_push_of_some _ ho, below_eq hr (Nat.zero_le _) (fun k b hk => absurd hk (Nat.not_lt_zero _)) fun k b _ _ => Nat.zero_le _⟩, ⟨ks', hK, hp⟩⟩
      · intro b hb'
        rcases List.mem_cons.mp hb' with rfl | hb'
        · exact .inr (Nat.le_refl _)
        · exact .inl (List.mem_singleton.mp hb')
      · refine ⟨fun b hb' => by simp at hb' ⊢; exact .inl hb', fun i h h' ⟨sl, h1, h2, h3⟩ k => ⟨sl, k _ (by simp) _ h1, k _ (by simp) _ h2, h3⟩, fun i s' Q E hi ⟨sl, h1, h2, h3⟩ hq => ?_, fun s' Q E ⟨sl, h1, h2, h3⟩ hq => ?_, fun i s' Q E ⟨sl, h1, h2, h3⟩ hq => it_self h1 hq⟩
        · rw [List.length_map, Array.length_toList] at hi
          have e1 : es[i]? = some es[i] := by simp [hi]
          have e2 : t.place[i]? = some (t.place[i]'(by omega)) := by simp [hpz, hi]
          generalize t.place[i]'(by omega) = pl at e2
          refine it_item (t := t) (nx := pl + 1) h1 h2 g (fun {E' Q'} hq' => next_place hbt h2 g hd2 (by rw [h3, e1, e2]; exact hq')) fun h' e k => ?_
          refine hq _ h' s'.toks (by rw [List.getElem?_map, Array.getElem?_toList, e1]; rfl) ⟨pl + 1, e, (k.2 a (Nat.ne_of_lt hla)).trans h2, below_eq hr (by omega) (fun m b hm eb => ?_) fun m b hm eb => ?_⟩ fun b o hb' e' => (k.2 b (by simpa using hb')).trans e'
          · rcases Nat.lt_or_ge m i with q | q
            · exact Nat.lt_succ_of_lt (hr m i b pl q eb e2)
            · have : m = i := by omega
              subst this
              rw [e2] at eb; cases eb; exact Nat.lt_succ_self _
          · exact hr i m pl b (by omega) e2 eb
        · rw [List.length_map, Array.length_toList] at h3 h1
          refine it_done (t := t) hh h1 h2 g (fun {E' Q'} hq' => next_place hbt h2 g hd2 (by rw [h3, Array.getElem?_eq_none (Nat.le_refl _)]; exact hq')) fun h' k => ?_
          exact hq h' s'.toks fun b o hb' e' => k b o (by simpa using hb') e'
  split
  · rename_i hd
    refine wpAny_bind (draw_perm _ _ _ (by simp) fun ps d hps => ?_)
    refine wpAny_bind (wpAny_newTuple ?_ (by rw [List.length_map, hps.length_eq, List.length_range]; exact fits_of_scanBound hb))
    have key := iter (.ref s.heap.objs.size) (s.heap.push { cls := .type "tuple", data := .seq (ps.map fun (i : Nat) => rawInt i).toArray }) d (fun b o e => Heap.get?_push_of_some _ e) (by rw [Heap.size_push]; exact Nat.le_succ _) ?_
    · exact key
    have htp : (s.heap.push { cls := .type "tuple", data := .seq (ps.map fun (i : Nat) => rawInt i).toArray }).get? s.heap.objs.size = some { cls := .type "tuple", data := .seq (ps.map fun (i : Nat) => rawInt i).toArray } := Heap.get?_push_size _ rfl
    generalize hh1 : s.heap.push { cls := .type "tuple", data := .seq (ps.map fun (i : Nat) => rawInt i).toArray } = h1 at htp
    have old1 : ∀ b o, s.heap.get? b = some o -> h1.get? b = some o := fun b o e => by rw [← hh1]; exact Heap.get?_push_of_some _ e
    have hz1 : h1.objs.size = s.heap.objs.size + 1 := by rw [← hh1, Heap.size_push]
    have inr : ∀ p ∈ ps, p < es.size := fun p hp' => by have := hps.mem_iff.mp hp'; simpa using this
    refine ⟨fun b o e => Heap.get?_push_of_some _ (old1 b o e), ps.map fun p => ((es[p]?).map (·.2)).getD .none, [h1.objs.size, a, s.heap.objs.size], fun i h => h.get? h1.objs.size = some (itObj (.ref s.heap.objs.size) i a es.size ep) /\ h.get? a = some (setObj es ep t) /\ h.get? s.heap.objs.size = some { cls := .type "tuple", data := .seq (ps.map fun (i : Nat) => rawInt i).toArray }, ?_, by simp, by omega, ?_, ⟨hpush _ _, Heap.get?_push_of_some _ (old1 _ _ ho), Heap.get?_push_of_some _ htp⟩, ?_⟩
    · intro b hb'
      simp only [List.mem_cons, List.not_mem_nil, or_false] at hb'
      rcases hb' with rfl | rfl | rfl
      · exact .inr (by omega)
      · exact .inl rfl
      · exact .inr (Nat.le_refl _)
    · refine ⟨fun b hb' => by simp at hb' ⊢; exact .inl hb', fun i h h' hs k => ⟨k _ (by simp) _ hs.1, k _ (by simp) _ hs.2.1, k _ (by simp) _ hs.2.2⟩, fun i s' Q E hi st hq => ?_, fun s' Q E st hq => ?_, fun i s' Q E st hq => it_self st.1 hq⟩
      · rw [List.length_map] at hi
        have e1 : ps[i]? = some ps[i] := by simp [hi]
        have e2 : es[ps[i]]? = some (es[ps[i]]'(inr _ (List.getElem_mem hi))) := by simp [inr _ (List.getElem_mem hi)]
        refine it_itemD (t := t) st.1 st.2.1 g st.2.2 e1 e2 fun h' e k => ?_
        refine hq _ h' s'.toks ?_ ⟨e, (k.2 a (Nat.ne_of_lt (by rw [hz1]; exact Nat.lt_succ_of_lt hla))).trans st.2.1, (k.2 _ (Nat.ne_of_lt (by rw [hz1]; exact Nat.lt_succ_self _))).trans st.2.2⟩ fun b o hb' e' => (k.2 b (by simpa using hb')).trans e'
        show (ps.map fun p => ((es[p]?).map (·.2)).getD .none)[i]? = _
        rw [List.getElem?_map, e1]
        show some ((Option.map (·.2) es[ps[i]]?).getD .none) = _
        rw [e2]; rfl
      · rw [List.length_map] at st
        refine it_doneD (t := t) hh st.1 st.2.1 g st.2.2 (by simp) fun h' k => ?_
        exact hq h' s'.toks fun b o hb' e' => k b o (by simpa using hb') e'
    · have e1 : (List.range es.size).map (fun p => ((es[p]?).map (·.2)).getD .none) = es.toList.map (·.2) := by
        apply List.ext_getElem?
        intro i
        by_cases hi : i < es.size
        · simp [hi]
        · simp [hi]
      have pp : (ps.map fun p => ((es[p]?).map (·.2)).getD .none).Perm (es.toList.map (·.2)) := by rw [← e1]; exact hps.map _
      obtain ⟨k2, p2, q2⟩ := Keys.perm pp hK
      exact ⟨k2, q2, p2.trans hp⟩
  · rename_i hd
    refine wpAny_bind (wpAny_pure ?_)
    exact bt0 (by simpa using hd)
end
end Sx
namespace Sx
open PySem PyProof.Rows
def uniq {K : Type} [DecidableEq K] (ks : List K) : List K := ks.foldl insK []
theorem insK_len {K : Type} [DecidableEq K] {ks : List K} {k : K} : (insK ks k).length <= ks.length + 1 := by
  unfold insK
  split
  · omega
  · simp
section
variable {prog : Program} {w : World} {K : Type} [DecidableEq K] {knd : PySem.KeyKind prog w K} {A : Around} {E : Value -> Shared -> Prop} {s : Shared} {a : Addr} {ks : List K}
theorem hint_set (hT : s.TypeIs (.ref a) "set") {Q : Bool -> Shared -> Prop} (h : Q false s) : wpAny (model prog w) A (Builtin.List.listLengthHint (.ref a)) Q E s := by
  unfold Builtin.List.listLengthHint
  refine wpAny_bind (wpAny_specialOf hT F.slot_set_len.lookup ?_)
  generalize he : ("set.__len__" : String) = nm
  wp_delta
  rw [show splitId nm = some ("set", "__len__") from by rw [← he]; decide +kernel]
  subst he
  refine wpAny_bind (wpAny_isInstance (T := "set") (b := true) hT sub_set_self ?_)
  refine wpAny_ite_split (fun z => absurd z (by decide)) fun _ => ?_
  refine wpAny_ite_split (fun _ => wpAny_bind (wpAny_typeOf hT (wpAny_pure h))) fun z => absurd (by decide +kernel) z
theorem set_collect {R : List Value -> Shared -> Prop} (hh : A.handled = none) (hS : SetK knd s.heap a ks)
    (h : ∀ h' tk d vs ks', (∀ b o, s.heap.get? b = some o -> h'.get? b = some o) -> Keys knd vs ks' -> ks'.Perm ks -> R vs { s with heap := h', toks := tk, drawn := d }) : wpAny (model prog w) A (collect (.ref a)) R E s := by
  have hla := hS.lt
  unfold collect
  refine wpAny_bind (wpAny_runValue (codeAny_builtin PySem.F.entry_proto_collect ?_))
  rw [Around.under_plainId PySem.F.plain_proto_collect _]
  show wpAny _ A.in1 (newList [] >>= fun l => again (.builtin "list.__iadd__" ⟨[l, .ref a], []⟩)) _ _ s
  refine wpAny_bind (wpAny_newObj_type ?_)
  refine wpAny_pure ⟨plainId_quiet PySem.F.plain_list_iadd _, codeAny_builtin PySem.F.entry_list_iadd ?_⟩
  rw [Around.under_plainId PySem.F.plain_list_iadd _]
  have nw : (s.heap.push { cls := .type "list", data := .seq ([] : List Value).toArray }).get? s.heap.objs.size = some { cls := .type "list", data := .seq #[] } := Heap.get?_push_size _ rfl
  have o1 : ∀ b o, s.heap.get? b = some o -> (s.heap.push { cls := .type "list", data := .seq ([] : List Value).toArray }).get? b = some o := fun b o e => Heap.get?_push_of_some _ e
  have z1 : (s.heap.push { cls := .type "list", data := .seq ([] : List Value).toArray }).objs.size = s.heap.objs.size + 1 := Heap.size_push ..
  generalize (s.heap.push { cls := .type "list", data := .seq ([] : List Value).toArray }) = h1 at nw o1 z1 ⊢
  have S1 : SetK knd h1 a ks := hS.keep fun o e => o1 a o e
  show wpAny _ A.in1 (Builtin.List.listExtendWith (.ref s.heap.objs.size) (.ref a) (.ref s.heap.objs.size)) _ _ { s with heap := h1 }
  unfold Builtin.List.listExtendWith
  refine wpAny_bind (wpAny_typeOf (s := { s with heap := h1 }) S1.typeIs ?_)
  have n1 : Builtin.List.listSameRef (.ref s.heap.objs.size) (.ref a) = false := by simp [Builtin.List.listSameRef]; exact fun z => Nat.lt_irrefl _ (z ▸ hla)
  have n2 : (Value.type "set" == Value.type "list") = false := by decide
  have n3 : (Value.type "set" == Value.type "tuple") = false := by decide
  simp only [n1, n2, n3, Bool.or_false, Bool.false_eq_true, if_false]
  refine wpAny_bind (set_iter (s := { s with heap := h1 }) (A' := A.in1) hh S1 fun I h2 d ⟨o2, L, fp, St, f1, f2, f3, W, st, kk⟩ => ?_)
  have S2 : SetK knd h2 a ks := S1.keep fun o e => o2 a o e
  have nS : s.heap.objs.size ∉ fp := fun z => by
    rcases f1 _ z with e | e
    · rw [e] at hla; exact Nat.lt_irrefl _ hla
    · have e : h1.objs.size <= s.heap.objs.size := e
      omega
  refine wpAny_bind (wpAny_holding (hint_set (s := { s with heap := h2, drawn := d }) S2.typeIs ?_))
  have nw2 := o2 _ _ nw
  have lp : ∀ (h3 : Heap) (c : Nat), (∀ b o, b ≠ s.heap.objs.size -> h2.get? b = some o -> h3.get? b = some o) -> h3.get? s.heap.objs.size = some { cls := .type "list", dict := none, data := .seq #[] c, slots := #[] } ->
      codeAny (model prog w) A (.builtin "list.extend.loop" ⟨[.ref s.heap.objs.size, .ref I, .ref s.heap.objs.size], []⟩) (fun r s' => match r with
        | .ok f => (match f with | .ret v => wpAny (model prog w) A (match v with | .ref a => (load a >>= fun o => match o.data with | .seq xs _ => pure xs.toList | _ => unsupported "internal:collect") | _ => unsupported "internal:collect") R E s' | _ => False)
        | .error x => E x s') { s with heap := h3, drawn := d } := fun h3 c k3 e3 => by
    obtain ⟨ks', q1, q2⟩ := kk
    have hll : L.length <= sizeLine := by
      rw [q1.length, q2.length_eq]
      obtain ⟨es, _, _, ks2, _, _, hb, _, hK, hp, _⟩ := hS
      have hz : es.size = ks.length := by rw [← hp.length_eq, ← hK.length, List.length_map, Array.length_toList]
      rw [← hz]
      exact fits_of_scanBound hb
    refine codeAny_extend_loopS W.toS hll _ nS _ L.length 0 _ #[] c rfl (Nat.zero_le _) (W.frame 0 h2 h3 st fun b hb o e => k3 b o (fun z => nS (z ▸ hb)) e) e3 (ItemsOf.nil _) fun s' acc c' mv e4 it => ?_
    obtain ⟨h', g', d', tk', os'⟩ := s'
    have eg : g' = s.gens := mv.gens
    have ed : d' = d := mv.drawn
    have eo : os' = s.os := mv.os
    subst eg ed eo
    show wpAny _ A (load s.heap.objs.size >>= _) _ _ _
    refine wpAny_bind (wpAny_load e4 (wpAny_pure ?_))
    have ea : acc.toList = L := List.ext_getElem? fun j => by
      by_cases hj : j < acc.size
      · have := it.2 j acc[j] (by simp [hj])
        rw [this]; simp [hj]
      · rw [List.getElem?_eq_none (by simpa using hj), List.getElem?_eq_none (by rw [← it.1]; omega)]
    refine h h' tk' d' acc.toList ks' (fun b o e => ?_) (by rw [ea]; exact q1) q2
    have hb : b ≠ s.heap.objs.size := Nat.ne_of_lt (Heap.lt_size e)
    have hb2 : b ≠ I := fun z => by
      have h5 := Heap.lt_size (o1 b o e)
      rw [z] at h5
      exact absurd h5 (Nat.not_lt.mpr f3)
    exact mv.heap b o (by simp [hb, hb2]) (k3 b o hb (o2 b o (o1 b o e)))
  refine wpAny_ite_split (fun _ => ?_) fun _ => wpAny_pure ⟨plainId_quiet PySem.F.plain_extend_loop _, codeAny_mono (lp h2 0 (fun _ _ _ e => e) nw2) (fun r s' hr => by cases r with | ok f => (cases f with | ret v => exact hr | _ => exact hr.elim) | error x => exact hr)⟩
  refine wpAny_bind (wpAny_rule (wpAny_bind ?_))
  show wpAny _ _ (updateSeq s.heap.objs.size (·.push .none) >>= fun _ => updateSeq s.heap.objs.size (·.pop)) _ _ { s with heap := h2, drawn := d }
  refine wpAny_bind (wpAny_updateSeq nw2 rfl ?_)
  have u1 := Heap.get?_update_self (Obj.mapSeq (·.push Value.none)) nw2 rfl
  refine wpAny_updateSeq (hz := by seq_fits) u1 rfl ?_
  exact wpAny_pure ⟨plainId_quiet PySem.F.plain_extend_loop _, codeAny_mono (lp _ _ (fun b o hb e => (Heap.get?_update_other _ _ (Ne.symm hb)).trans ((Heap.get?_update_other _ _ (Ne.symm hb)).trans e)) (Heap.get?_update_self (Obj.mapSeq (·.pop)) u1 rfl)) (fun r s' hr => by cases r with | ok f => (cases f with | ret v => exact hr | _ => exact hr.elim) | error x => exact hr)⟩
end
end Sx
namespace Sx
open PySem PyProof.Rows
section
variable {prog : Program} {w : World} {K : Type} [DecidableEq K] {knd : PySem.KeyKind prog w K} {A : Around} {R : Result -> Shared -> Prop} {I : Addr} {fp wr : List Addr} {G : Array GenState -> Array GenState -> Prop} {n : Nat} {P : Nat -> Value -> Prop} {St : Nat -> Shared -> Prop}
theorem fill_loop (W : WalksS prog w A.in1 I fp wr G n P St) {D : Addr} (hD : D ∉ fp) {all : List K} (hn : all.length = n) (hP : ∀ i v, P i v -> ∃ k, all[i]? = some k /\ knd.is k v = true /\ v.scannable = true) (hb : n + 1 < scanBound) :
    ∀ (m i : Nat) (s : Shared) (ks : List K), n - i = m -> i <= n -> St i s -> SetK knd s.heap D ks -> ks.length <= i -> (∀ s', Moved (D :: wr) G s s' -> SetK knd s'.heap D ((all.drop i).foldl insK ks) -> R (.ok (.ret .none)) s') ->
      codeAny (model prog w) A (.builtin "set.update.loop" ⟨[.ref D, .ref I], []⟩) R s := by
  have nw : D ∉ wr := fun z => hD (W.sub _ z)
  have sub : ∀ b ∈ wr, b ∈ D :: wr := fun b z => List.mem_cons_of_mem _ z
  intro m
  induction m with
  | zero =>
    intro i s ks hm hi st hS hl q
    have : i = n := by omega
    subst this
    refine codeAny_builtin PyProof.Rows.F.entry_set_update_loop ?_
    rw [Around.under_plainId PyProof.Rows.F.plain_set_update_loop _]
    refine wpAny_bind (m := pyNext (.ref I)) (W.done s _ _ st fun s' mv => ?_)
    show wpAny _ A.in1 (ret Value.none) _ _ s'
    refine wpAny_pure (q s' (mv.mono sub) ?_)
    rw [← hn, List.drop_length]
    exact hS.keep fun o e => mv.heap D o nw e
  | succ m ih =>
    intro i s ks hm hi st hS hl q
    have hlt : i < n := by omega
    refine codeAny_builtin PyProof.Rows.F.entry_set_update_loop ?_
    rw [Around.under_plainId PyProof.Rows.F.plain_set_update_loop _]
    refine wpAny_bind (m := pyNext (.ref I)) (W.item i s _ _ hlt st fun v s' pv st' mv => ?_)
    obtain ⟨k, e1, e2, e3⟩ := hP i v pv
    have S' : SetK knd s'.heap D ks := hS.keep fun o e => mv.heap D o nw e
    show wpAny _ A.in1 (holding [v] (setAdd D v) >>= _) _ _ s'
    refine wpAny_bind (wpAny_holding ?_)
    unfold setAdd
    refine wpAny_holding (wpAny_bind (knd.pyHash e2 ?_))
    refine set_addH (s := { s' with toks := s'.toks + 1 }) e2 e3 S' (by omega) fun h' b sb S2 => ?_
    have hd : all.drop i = k :: all.drop (i + 1) := by
      rw [List.drop_eq_getElem_cons (by omega)]
      congr 1
      have := List.getElem?_eq_getElem (l := all) (i := i) (by omega)
      rw [this] at e1; cases e1; rfl
    refine wpAny_pure ⟨plainId_quiet PyProof.Rows.F.plain_set_update_loop _, ih (i + 1) _ (insK ks k) (by omega) hlt (W.frame _ s' _ _ st' (Nat.le_succ _) fun b z o e => ?_) S2 (Nat.le_trans insK_len (by omega)) fun s2 mv2 S3 => ?_⟩
    · rw [sb.2 b fun y : b = D => hD (by rw [← y]; exact z)]; exact e
    · refine q s2 (Moved.trans W.gtrans ((mv.mono sub).then_heap (Nat.le_succ _) fun b o z e => ?_) mv2) (by rw [hd]; exact S3)
      rw [sb.2 b fun y : b = D => z (by rw [y]; exact List.mem_cons_self)]; exact e
end
section
variable {prog : Program} {w : World} {K : Type} [DecidableEq K] {knd : PySem.KeyKind prog w K} {A : Around} {E : Value -> Shared -> Prop} {s : Shared}
theorem made_set (x : Value) {Q : Value -> Shared -> Prop} (h : Q (.ref s.heap.objs.size) { s with heap := s.heap.push (setObj #[] 0 (.fresh 0 0 (!byText w))) }) :
    codeAny (model prog w) A (.call (.builtin "set.__new__") ⟨[.type "set", x], []⟩) (wants Q E) s := by
  refine codeAny_of_tree ?_
  refine wpAny_bind (m := checkBuiltinCall _ _) (wpAny_of_eq (PySem.F.newCall_set_1 x) (wpAny_pure ⟨plainId_quiet PySem.F.plain_set_new _, codeAny_builtin PySem.F.entry_set_new ?_⟩))
  rw [Around.under_plainId PySem.F.plain_set_new _]
  unfold Builtin.«set.__new__» Builtin.Frozenset.newClass
  have sub := sub_set_self
  obtain ⟨hp, g, d, tk, os⟩ := s
  dsimp only
  wp_walk
  refine wpAny_askSetting (wpAny_pure ?_)
  dsimp only
  simp only [newObj]
  exact wpAny_bind (wpAny_alloc (wpAny_pure (wpAny_pure h)))
theorem set_of_list {l : Addr} {its : Array Value} {all : List K} {Q : Value -> Shared -> Prop} (hh : A.handled = none) (hl : s.heap.IsList l its) (hk : Keys knd its.toList all) (hsc : ∀ v ∈ its.toList, v.scannable = true) (hb : its.size + 1 < scanBound)
    (h : ∀ h' tk, SetK knd h' s.heap.objs.size (uniq all) -> (∀ b o, s.heap.get? b = some o -> h'.get? b = some o) -> Q (.ref s.heap.objs.size) { s with heap := h', toks := tk }) :
    wpAny (model prog w) A (call (.type "set") [.ref l]) Q E s := by
  have F0 := PySem.F.called_set
  obtain ⟨c, tl, mro⟩ := F0.mro
  have md := F0.made
  have sb := F0.sub
  have nt := F0.notType
  have cc := F0.canCreate
  have ck := PySem.F.typeCall_set_1 (.ref l)
  refine wpAny_call (codeAny_of_tree (wpAny_pure ⟨Code.quiet_builtin _ (by decide +kernel), codeAny_builtin PySem.F.entry_type_call ?_⟩))
  rw [Around.under_plain (weight_type_call_type "set" [.ref l] []) rfl]
  repeat (any_goals (first | assumption | wp_step))
  refine codeAny_mono (made_set (.ref l) (E := E) (Q := fun v s1 => v = .ref s.heap.objs.size /\ s1 = { s with heap := s.heap.push (setObj #[] 0 (.fresh 0 0 (!byText w))) }) ⟨rfl, rfl⟩) fun r s1 hr => ?_
  cases r with
  | error x => exact hr
  | ok f =>
    cases f with
    | ret v =>
      obtain ⟨rfl, rfl⟩ := hr
      have nw : (s.heap.push (setObj #[] 0 (.fresh 0 0 (!byText w)))).get? s.heap.objs.size = some (setObj #[] 0 (.fresh 0 0 (!byText w))) := Heap.get?_push_size _ rfl
      have hT : Shared.TypeIs { s with heap := s.heap.push (setObj #[] 0 (.fresh 0 0 (!byText w))) } (.ref s.heap.objs.size) "set" := ⟨_, nw, rfl⟩
      have li := F0.init.lookup
      have bi := F0.init.bind (.ref s.heap.objs.size)
      repeat (any_goals (first | assumption | wp_step))
      refine codeAny_mono (codeAny_call_builtin (R := wants (fun r s2 => r = .none /\ Q (.ref s.heap.objs.size) s2) E) F0.init.plain PySem.F.entry_set_init (check_set_init_1 hT ?_)) fun r2 s2 hr2 => ?_
      · obtain ⟨ol, h1, h2, nl, h3⟩ := id hl
        obtain ⟨oc, od, odt, osl⟩ := ol
        simp only at h2 h3
        subst h2 h3
        have hol : (s.heap.push (setObj #[] 0 (.fresh 0 0 (!byText w)))).get? l = some { cls := .type "list", dict := od, data := .seq its nl, slots := osl } := Heap.get?_push_of_some _ h1
        have q1 := PySem.F.sub_list_set
        have q2 := PySem.F.sub_list_frozenset
        have q3 : (Value.type "list" == Value.type "dict") = false := by decide
        have il : (s.heap.push (setObj #[] 0 (.fresh 0 0 (!byText w)))).IsList l its := ⟨_, hol, rfl, nl, rfl⟩
        unfold Builtin.«set.__init__» noKeywords Builtin.Frozenset.updateFrom
        generalize hPI : pyIter = PI
        wp_walk
        subst hPI
        refine wpAny_pyIter_list il (wpAny_bind (wpAny_runValue ?_))
        have lz : l < s.heap.objs.size := Heap.lt_size h1
        have hz : (s.heap.push (setObj #[] 0 (.fresh 0 0 (!byText w)))).objs.size = s.heap.objs.size + 1 := Heap.size_push ..
        have ne : l ≠ (s.heap.push (setObj #[] 0 (.fresh 0 0 (!byText w)))).objs.size := by rw [hz]; exact Nat.ne_of_lt (Nat.lt_succ_of_lt lz)
        have nf : s.heap.objs.size ∉ [(s.heap.push (setObj #[] 0 (.fresh 0 0 (!byText w)))).objs.size, l] := by
          rw [hz]; simp only [List.mem_cons, List.not_mem_nil, or_false, not_or]
          exact ⟨Nat.ne_of_lt (Nat.lt_succ_self _), Nat.ne_of_gt lz⟩
        have h3' : A.in1.in1.in1.handled = none := by simp [hh]
        have hlen : all.length = its.size := by rw [← hk.length, Array.length_toList]
        have at_ : ∀ (vs : List Value) (ks : List K), Keys knd vs ks -> ∀ (i : Nat) v, vs[i]? = some v -> ∃ k, ks[i]? = some k /\ knd.is k v = true := by
          intro vs
          induction vs with
          | nil => intro ks _ i v e; simp at e
          | cons u vs ih =>
            intro ks hk i v e
            cases ks with
            | nil => exact hk.elim
            | cons k ks =>
              cases i with
              | zero => simp at e; subst e; exact ⟨k, rfl, hk.1⟩
              | succ i => exact ih ks hk.2 i v (by simpa using e)
        refine fill_loop (knd := knd) (Walks.list h3' _ l ne its).toS nf hlen (fun i v e => ?_) hb its.size 0 _ [] (Nat.sub_zero _) (Nat.zero_le _) ⟨⟨_, Heap.get?_push_size _ rfl, rfl, rfl⟩, il.push _⟩
          ⟨#[], 0, _, [], Heap.get?_push_of_some _ nw, good_fresh _, by decide, fun e he => by simp at he, trivial, .refl _, List.nodup_nil⟩ (Nat.zero_le _) fun s' mv S' => ?_
        · have e' : its.toList[i]? = some v := by rw [Array.getElem?_toList]; exact e
          obtain ⟨k, e1, e2⟩ := at_ _ _ hk i v e'
          exact ⟨k, e1, e2, hsc v (List.mem_of_getElem? e')⟩
        · obtain ⟨h', g', d', tk', os'⟩ := s'
          have eg : g' = s.gens := mv.gens
          have ed : d' = s.drawn := mv.drawn
          have eo : os' = s.os := mv.os
          subst eg ed eo
          refine wpAny_pure (wpAny_pure ⟨rfl, h h' tk' S' fun b o e => ?_⟩)
          have b1 : b < s.heap.objs.size := Heap.lt_size e
          refine mv.heap b o (by rw [hz]; simp only [List.mem_cons, List.not_mem_nil, or_false, not_or]; exact ⟨Nat.ne_of_lt b1, Nat.ne_of_lt (Nat.lt_succ_of_lt b1)⟩) (Heap.get?_push_of_some _ (Heap.get?_push_of_some _ e))
      · cases r2 with
        | error x => exact hr2
        | ok f2 =>
          cases f2 with
          | ret r =>
            obtain ⟨rfl, q⟩ := hr2
            repeat (any_goals (first | assumption | wp_step))
          | _ => exact hr2.elim
    | _ => exact hr.elim
end
end Sx
namespace L2
open PySem PySem.Spec PyProof.Rows
def Inner (wi : TI) (g : TG) (tt : TT) (te : TE) (D : Addr) (ys : List V) (σ : St) (H : Hp) (N : List V -> St -> Hp -> Prop) : Prop :=
  wi σ H fun J H1 => ∃ W : Nat -> Nat -> List V -> St -> Hp -> Prop, (∃ m, W 0 m ys σ H1) /\ ∀ i m ys σ1 H2, W i m ys σ1 H2 ->
    (J.stop i H2 /\ N ys σ1 H2) ∨ (J.go i H2 /\ ∀ x H3, J.yld i H2 x H3 -> g x σ1 H3 fun σ2 H4 => tt σ2 H4 fun b H5 =>
      if b = true then te σ2 H5 fun v H6 => H6 D = some (.lst ys) /\ ys.length < sizeLine /\ ∃ m', m' < m /\ W (i + 1) m' (ys ++ [v]) σ2 (upd H6 D (.lst (ys ++ [v]))) else ∃ m', m' < m /\ W (i + 1) m' ys σ2 H5)
def innerC (e iter elt : Expr) (acc : Value) (env : Env) : Sem Unit :=
  eval iter env >>= fun x => standAt iter.pos >>= fun _ => foldedSetIterable iter env x >>= fun x => holding [x] (pyIter x) >>= fun it => runOwn (.compStart e 1 it acc env) env >>= fun _ => pure PUnit.unit
theorem inner_any {Y : Cx} (hxe : Y.xe = fun _ _ => False) (hc : Y.calm = true) {e tg iter elt : Expr} {ifs : List Expr} {p : Pos} {gc : Comprehension} (hn : LorS e) (hgc : (clausesOf e)[1]? = some gc) (has : gc.is_async = 0)
    (hturn : TurnIs e tg ifs p 1 fun acc env => eval elt env >>= fun x => call (.builtin "list.append") [acc, x] >>= fun _ => pure PUnit.unit)
    {wi : TI} {g : TG} {tt : TT} {te : TE} (hi : PI Y tg iter wi) (hg : PG Y tg g) (ht : PIf Y ifs tt) (he : PE Y elt te) (hs : ∀ x, foldedSetIterable iter Y.env x = pure x)
    {D : Addr} {ys : List V} {pins : List (Addr × Obj)} {s : Shared} {σ : St} {H : Hp} {N : List V -> St -> Hp -> Prop} (I : Inv Y pins σ H s) (h : Inner wi g tt te D ys σ H N) :
    wpAny (model Y.prog Y.w) Y.A (innerC e iter elt (.ref D) Y.env) (fun _ s' => ∃ ys' σ' H', Inv Y pins σ' H' s' /\ N ys' σ' H') (fun _ _ => False) s := by
  unfold innerC
  have h0 := hi pins s σ H _ I h
  rw [hxe] at h0
  refine wpAny_bind (thn h0 fun v s1 h1 => wpAny_bind (wpAny_standAt (wpAny_bind (wpAny_of_eq (hs v) (wpAny_bind (wpAny_holding (thn h1 fun itv s2 h2 => ?_)))))))
  obtain ⟨it, fp, tn, J, H2, e2, I2, T, st2, f2, W, ⟨m0, w0⟩, turn⟩ := h2
  subst e2
  have stat : ∀ {H' : Hp}, (∀ b ∈ fp, H' b = none) -> ∀ b ∈ fp, FpOk Y pins H' b := fun hn b hb => ⟨hn b hb, (f2 b hb).2⟩
  refine wpAny_bind (wpAny_runOwn ?_)
  have loop : codeAny (model Y.prog Y.w) Y.A (.compLoop e 1 (.ref it) (.ref D) Y.env) (fun r s' => match r with | .ok f => wpAny (model Y.prog Y.w) Y.A (pure PUnit.unit) (fun _ s' => ∃ ys' σ' H', Inv Y pins σ' H' s' /\ N ys' σ' H') (fun _ _ => False) s' | .error x => cameBackBy (model Y.prog Y.w) Y.A Y.env (fun _ _ => False) x s') s2 := by
    refine compLoop_any hn hturn (fun n s' => ∃ i ys σ' H', Inv Y pins σ' H' s' /\ tn i s'.heap /\ (∀ b ∈ fp, H' b = none) /\ W i n ys σ' H') ?_ m0 ⟨0, ys, σ, H2, I2, st2, fun b hb => (f2 b hb).1, w0⟩
    rintro n s3 ⟨i, ys3, σ3, H3, I3, st3, fr3, w3⟩
    rcases turn i n ys3 σ3 H3 w3 with ⟨stop, qn⟩ | ⟨go, step⟩
    · refine thn (T.done Y rfl rfl rfl hc i pins s3 σ3 H3 _ I3 (stat fr3) st3 stop) fun r s4 ⟨hr, I4⟩ => ?_
      subst hr
      exact wpAny_pure ⟨ys3, σ3, H3, I4, qn⟩
    · refine thn (T.item Y rfl rfl rfl hc i pins s3 σ3 H3 _ I3 (stat fr3) st3 go) fun r s4 ⟨u, hr, h4⟩ => ?_
      subst hr
      refine thn h4 fun _ s5 ⟨x, H5, I5, r5, y5, st5, fr5⟩ => ?_
      have I5' := I5.pinned (stat fr5) (T.obj _ _ st5)
      have back : ∀ {σ8 : St} {H8 : Hp} {s8 : Shared}, Inv Y (pins ++ pinsAt fp s5.heap) σ8 H8 s8 -> Inv Y pins σ8 H8 s8 /\ tn (i + 1) s8.heap /\ ∀ b ∈ fp, H8 b = none := fun {σ8 H8 s8} I8 => by
        refine ⟨I8.unpinned, T.keep _ _ _ st5 fun b hb o e => (I8.pin (b, o) (List.mem_append_right _ (List.mem_append_right _ (mem_pinsAt hb e)))).1, fun b hb => ?_⟩
        obtain ⟨o, e, d⟩ := T.obj _ _ st5 b hb
        exact (I8.pin (b, o) (List.mem_append_right _ (List.mem_append_right _ (mem_pinsAt hb e)))).2.1
      have q1 := hg _ s5 σ3 H5 x u _ I5' r5 (step x H5 y5)
      rw [hxe] at q1
      refine thn q1 fun _ s6 ⟨σ6, H6, I6, q6⟩ => ?_
      have q2 := ht _ s6 σ6 H6 _ I6 q6
      rw [hxe] at q2
      refine thn q2 fun ok s7 ⟨H7, I7, q7⟩ => ?_
      cases ok with
      | false =>
        rw [if_neg (by decide)] at q7 ⊢
        obtain ⟨m', hm, w9⟩ := q7
        obtain ⟨z1, z2, z3⟩ := back I7
        exact ⟨m', hm, i + 1, ys3, σ6, H7, z1, z2, z3, w9⟩
      | true =>
        rw [if_pos rfl] at q7 ⊢
        refine thn (add_any (N := fun v H' => ∃ m', m' < n /\ W (i + 1) m' (ys3 ++ [v]) σ6 H') he hxe I7 q7) fun _ s11 ⟨v, H', I11, m', hm, w10⟩ => ?_
        obtain ⟨z1, z2, z3⟩ := back I11
        exact ⟨m', hm, i + 1, _, σ6, _, z1, z2, z3, w10⟩
  exact compStart_any hn hgc has loop (T.self _ 0 _ _ _ st2 loop)
def tComp2 (l : List (Str × Option Nat)) (wi : TI) (g : TG) (tt : TT) (wi1 : TI) (g1 : TG) (tt1 : TT) (te : TE) : TE := fun σ H Q =>
  wi σ H fun J H1 => ∀ D, H1 D = none -> ∃ W : Nat -> Nat -> List V -> St -> Hp -> Prop, (∃ m, W 0 m [] (srcV l σ) (upd H1 D (.lst []))) /\ ∀ i m ys σ1 H2, W i m ys σ1 H2 ->
    (J.stop i H2 /\ Q (.ref D) H2) ∨ (J.go i H2 /\ ∀ x H3, J.yld i H2 x H3 -> g x σ1 H3 fun σ2 H4 => tt σ2 H4 fun b H5 =>
      if b = true then Inner wi1 g1 tt1 te D ys σ2 H5 fun ys' σ' H' => ∃ m', m' < m /\ W (i + 1) m' ys' σ' H' else ∃ m', m' < m /\ W (i + 1) m' ys σ2 H5)
section
variable {X : Cx} {elt tg iter tg1 iter1 : Expr} {ifs ifs1 : List Expr} {scope : Scope} {pos : Pos} {wi wi1 : TI} {g g1 : TG} {tt tt1 : TT} {te : TE}
theorem comp_core2 {l : List (Str × Option Nat)} {cl : List (Str × Addr)} (e2 : ∀ y c, cl.lookup y = some c -> X.env.cells.lookup y = some c) (e3 : ∀ x ∈ scope.names, x.2 = .free -> ∃ c, cl.lookup x.1 = some c) (hsc : CompScope X scope l) (hcalm : X.calm = true)
    (hg : ∀ cl C fp s3 H3, PG (cxComp X l scope cl C fp s3 H3) tg g) (ht : ∀ cl C fp s3 H3, PIf (cxComp X l scope cl C fp s3 H3) ifs tt)
    (hi1 : ∀ cl C fp s3 H3, PI (cxComp X l scope cl C fp s3 H3) tg1 iter1 wi1) (hg1 : ∀ cl C fp s3 H3, PG (cxComp X l scope cl C fp s3 H3) tg1 g1) (ht1 : ∀ cl C fp s3 H3, PIf (cxComp X l scope cl C fp s3 H3) ifs1 tt1)
    (he : ∀ cl C fp s3 H3, PE (cxComp X l scope cl C fp s3 H3) elt te) (hs1 : ∀ env x, foldedSetIterable iter1 env x = pure x)
    {pins : List (Addr × Obj)} {σ : St} {H2 : Hp} {s2 : Shared} {it : Addr} {fp : List Addr} {tn : Nat -> Heap -> Prop} {J : It} {Q : Addr -> Hp -> Prop} {RR : Value -> Addr -> Result -> Shared -> Prop} {E : Value -> Shared -> Prop}
    (I2 : Inv X pins σ H2 s2) (T : Turn X.prog X.w X.K tg J fp it tn) (st2 : tn 0 s2.heap) (f2 : ∀ b ∈ fp, FpOk X pins H2 b)
    (hw : ∀ D, H2 D = none -> ∃ W : Nat -> Nat -> List V -> St -> Hp -> Prop, (∃ m, W 0 m [] (srcV l σ) (upd H2 D (.lst []))) /\ ∀ i m ys σ1 H2, W i m ys σ1 H2 ->
      (J.stop i H2 /\ Q D H2) ∨ (J.go i H2 /\ ∀ x H3, J.yld i H2 x H3 -> g x σ1 H3 fun σ2 H4 => tt σ2 H4 fun b H5 =>
        if b = true then Inner wi1 g1 tt1 te D ys σ2 H5 fun ys' σ' H' => ∃ m', m' < m /\ W (i + 1) m' ys' σ' H' else ∃ m', m' < m /\ W (i + 1) m' ys σ2 H5))
    (hRR : ∀ D C (s' : Shared) (H' : Hp), Q D H' -> (∃ m, s'.heap.Ns C m) -> Inv X pins σ H' s' -> FpOk X pins H' C -> RR (.ref D) C (.ok .next) s') :
    wpAny (model X.prog X.w) X.A (newList []) (fun acc s₃ => wpAny (model X.prog X.w) X.A (newFunctionEnv scope X.env.globals cl [] X.env.qual none .none (some X.env)) (fun cenv s₄ =>
      codeAny (model X.prog X.w) X.A (.compStart (.ListComp elt [⟨tg, iter, ifs, 0⟩, ⟨tg1, iter1, ifs1, 0⟩] scope pos) 0 (.ref it) acc { cenv with scope := relabel scope X.env }) (RR acc cenv.locals) s₄) E s₃) E s2 := by
  refine wpAny_newList ?_ (by show 0 <= sizeLine; exact Nat.zero_le _)
  obtain ⟨W, ⟨m0, w0⟩, turn⟩ := hw _ I2.fresh
  have fpD : ∀ b ∈ fp, b ≠ s2.heap.objs.size := fun b hb z => by
    obtain ⟨o, ho, _⟩ := T.obj _ _ st2 b hb
    exact absurd (Heap.lt_size ho) (by rw [z]; exact Nat.lt_irrefl _)
  refine comp_any (α := List V) (Q := Q s2.heap.objs.size) (p := iter.pos) (body := innerC (.ListComp elt [⟨tg, iter, ifs, 0⟩, ⟨tg1, iter1, ifs1, 0⟩] scope pos) iter1 elt)
    (B := fun i m ys σ H5 => Inner wi1 g1 tt1 te s2.heap.objs.size ys σ H5 fun ys' σ' H' => ∃ m', m' < m /\ W (i + 1) m' ys' σ' H')
    (.inl ⟨_, _, _, _, rfl⟩) (fun it acc env => by simp only [innerC, bind_assoc, pure_bind]; rfl) rfl rfl e2 e3 hsc.kind hsc.cell hcalm hsc.src hg ht (fun cl C fp s3 H3 pins s' i m ys σ H I h => ?_)
    (I2.lnew (its := []) (ys := []) (t' := s2.toks) .nil (Nat.zero_le _)) T (T.keep _ _ _ st2 fun b _ o e => Heap.get?_push_of_some _ e) (fun b hb => ⟨by rw [upd_ne (fpD b hb)]; exact (f2 b hb).1, (f2 b hb).2⟩) w0 turn fun C s' H' q => hRR _ C s' H' q
  exact thn (inner_any (Y := cxComp X l scope cl C fp s3 H3) rfl hcalm (.inl ⟨_, _, _, _, rfl⟩) (gc := ⟨tg1, iter1, ifs1, 0⟩) rfl rfl (p := iter1.pos) (fun _ _ _ => rfl) (hi1 cl C fp s3 H3) (hg1 cl C fp s3 H3) (ht1 cl C fp s3 H3) (he cl C fp s3 H3) (hs1 _) I h) fun _ s11 ⟨ys', σ', H', I', m', hm, w'⟩ => ⟨m', ys', σ', H', hm, I', w'⟩
theorem pe_comp2 (l : List (Str × Option Nat)) (hsc : CompScope X scope l) (hcalm : X.calm = true) (hi : PI X tg iter wi)
    (hg : ∀ cl C fp s3 H3, PG (cxComp X l scope cl C fp s3 H3) tg g) (ht : ∀ cl C fp s3 H3, PIf (cxComp X l scope cl C fp s3 H3) ifs tt)
    (hi1 : ∀ cl C fp s3 H3, PI (cxComp X l scope cl C fp s3 H3) tg1 iter1 wi1) (hg1 : ∀ cl C fp s3 H3, PG (cxComp X l scope cl C fp s3 H3) tg1 g1) (ht1 : ∀ cl C fp s3 H3, PIf (cxComp X l scope cl C fp s3 H3) ifs1 tt1)
    (he : ∀ cl C fp s3 H3, PE (cxComp X l scope cl C fp s3 H3) elt te)
    (hs : ∀ x, foldedSetIterable iter X.env x = pure x := by intro _; rfl) (hs1 : ∀ env x, foldedSetIterable iter1 env x = pure x := by intro _ _; rfl) :
    PE X (.ListComp elt [⟨tg, iter, ifs, 0⟩, ⟨tg1, iter1, ifs1, 0⟩] scope pos) (tComp2 l wi g tt wi1 g1 tt1 te) := by
  intro pins s σ H Q I h
  obtain ⟨cl, e1, e2, e3⟩ := closureFor_ok (scope := scope) (env := X.env) fun x hx hf => I.ok.has x.1 (hsc.free x hx hf)
  rw [eval_ListComp]
  refine wpAny_comprehension_free (use := none) rfl hs e1 hsc.kind hsc.names (thn (hi pins s σ H _ I h) fun v s1 h1 => thn h1 fun itv s2 h2 => ?_)
  obtain ⟨it, fp, tn, J, H2, e, I2, T, st2, f2, hw⟩ := h2
  subst e
  refine comp_core2 (RR := fun acc C => compPost (model X.prog X.w) X.A X.xe none (EP X pins σ Q) acc C) e2 e3 hsc hcalm hg ht hi1 hg1 ht1 he hs1 I2 T st2 f2 hw ?_
  intro D C s' H' q ⟨m, hn⟩ I' f'
  refine ⟨m, hn, fun h' hs' => ?_⟩
  exact ⟨.ref D, H', I'.turned (t' := s'.toks) (fun b o hb e => (hs'.2 b hb).trans e) f'.1 f'.2.1 f'.2.2.2.1 f'.2.2.2.2.1 f'.2.2.2.2.2, rfl, q⟩
theorem ps_setComp2 {i : Nat} {y : Str} {py spos : Pos} (l : List (Str × Option Nat)) (hsc : CompScope X scope l) (hcalm : X.calm = true) (hN : X.N.Nodup) (hy : X.N[i]? = some y) (hx : X.env.scope.names.lookup y = some .local) (hi : PI X tg iter wi)
    (hg : ∀ cl C fp s3 H3, PG (cxComp X l scope cl C fp s3 H3) tg g) (ht : ∀ cl C fp s3 H3, PIf (cxComp X l scope cl C fp s3 H3) ifs tt)
    (hi1 : ∀ cl C fp s3 H3, PI (cxComp X l scope cl C fp s3 H3) tg1 iter1 wi1) (hg1 : ∀ cl C fp s3 H3, PG (cxComp X l scope cl C fp s3 H3) tg1 g1) (ht1 : ∀ cl C fp s3 H3, PIf (cxComp X l scope cl C fp s3 H3) ifs1 tt1)
    (he : ∀ cl C fp s3 H3, PE (cxComp X l scope cl C fp s3 H3) elt te)
    (hsw : swapsWith (.ListComp elt [⟨tg, iter, ifs, 0⟩, ⟨tg1, iter1, ifs1, 0⟩] scope pos) (some (.Name y py)) spos.line X.env = pure true)
    (hs : ∀ x, foldedSetIterable iter X.env x = pure x := by intro _; rfl) (hs1 : ∀ env x, foldedSetIterable iter1 env x = pure x := by intro _ _; rfl) :
    PS X (.Assign [.Name y py] (.ListComp elt [⟨tg, iter, ifs, 0⟩, ⟨tg1, iter1, ifs1, 0⟩] scope pos) spos) (tAsg (tComp2 l wi g tt wi1 g1 tt1 te) (gName i)) := by
  intro pins s σ H D0 I h
  obtain ⟨cl, e1, e2, e3⟩ := closureFor_ok (scope := scope) (env := X.env) fun x hx hf => I.ok.has x.1 (hsc.free x hx hf)
  rw [exec_Assign_Name_used _ _ _ _ hsw]
  refine wpAny_bind (wpAny_standAt (wpAny_bind ?_))
  show wpAny _ X.A (do let _ ← comprehension (.ListComp elt [⟨tg, iter, ifs, 0⟩, ⟨tg1, iter1, ifs1, 0⟩] scope pos) scope X.env _ (newList []) false (eval iter X.env) (some (assign (.Name y py) X.env))) _ _ s
  refine wpAny_bind (thn (wpAny_comprehension_free (use := some (assign (.Name y py) X.env)) (Q := fun _ s' => SP X pins D0 .next s') rfl hs e1 hsc.kind hsc.names
    (thn (hi pins s σ H _ I h) fun v s1 h1 => thn h1 fun itv s2 h2 => ?_)) fun _ s' hq => wpAny_pure (wpAny_pure hq))
  obtain ⟨it, fp, tn, J, H2, e, I2, T, st2, f2, hw⟩ := h2
  subst e
  refine comp_core2 (RR := fun acc C => compPost (model X.prog X.w) X.A X.xe (some (assign (.Name y py) X.env)) (fun _ s' => SP X pins D0 .next s') acc C) e2 e3 hsc hcalm hg ht hi1 hg1 ht1 he hs1 I2 T st2 f2 hw ?_
  intro D C s' H' q ⟨m, hn⟩ I' f'
  show wpAny _ X.A (assign (.Name y py) X.env (.ref D)) _ _ _
  refine wpAny_assign_Name (store_ok2 (v := .ref D) I' hN hy (.inl hx) rfl (fun s'' I'' hk => ?_) (.inr hx))
  obtain ⟨a, hsb, ha⟩ := hk
  have hCa : C ≠ a := by
    rintro rfl
    rcases ha with z | z
    · exact f'.2.1 z
    · exact f'.2.2.2.2.1 y _ z rfl
  refine ⟨m, hn.sameBut hsb hCa, fun h' hs' => ?_⟩
  exact ⟨_, H', I''.turned (t' := s''.toks) (fun b o hb e => (hs'.2 b hb).trans e) f'.1 f'.2.1 f'.2.2.2.1 f'.2.2.2.2.1 f'.2.2.2.2.2, q⟩
end
end L2
namespace L2
open PySem PySem.Spec PyProof.Rows Sx
def setO {P : Program} {w : World} {K : Type} [DecidableEq K] (knd : PySem.KeyKind P w K) (d : Addr) (ks : List K) : HO := .ext fun h => SetK knd h d ks
theorem setO_ok {P : Program} {w : World} {K : Type} [DecidableEq K] {knd : PySem.KeyKind P w K} {d : Addr} {ks : List K} {H : Hp} {h : Heap} (hS : SetK knd h d ks) : ObjOk P w H h d (setO knd d ks) :=
  ⟨hS, let ⟨_, _, _, _, ho, _⟩ := hS; ⟨_, ho⟩, fun _ _ a k => a.keep k⟩
structure Enc {P : Program} {w : World} {K : Type} [DecidableEq K] (knd : PySem.KeyKind P w K) (enc : K -> V) : Prop where
  is : ∀ k u, RelV (enc k) u -> knd.is k u = true /\ u.scannable = true
theorem encI {P : Program} {w : World} : Enc (intKind P w) V.int := ⟨fun k u ⟨t, e⟩ => by subst e; exact ⟨intKind_is P w k t, rfl⟩⟩
theorem Inv.drawn {X : Cx} {pins : List (Addr × Obj)} {σ : St} {H : Hp} {s : Shared} (I : Inv X pins σ H s) (d : Drawn) : Inv X pins σ H { s with drawn := d } := ⟨I.ok, I.os, I.bare, I.base, I.loc, I.cell, I.free, I.freeC, I.pin, I.hok, I.len⟩
section
variable {K : Type} [DecidableEq K] {enc : K -> V}
theorem keys_of {P : Program} {w : World} {knd : PySem.KeyKind P w K} (he : Enc knd enc) : ∀ {ks : List K} {us : List Value}, Vals (ks.map enc) us -> Keys knd us ks /\ ∀ v ∈ us, v.scannable = true
  | [], _, .nil => ⟨trivial, fun _ z => nomatch z⟩
  | k :: ks, _, .cons r h => by
    obtain ⟨q1, q2⟩ := keys_of he h
    obtain ⟨p1, p2⟩ := he.is k _ r
    refine ⟨⟨p1, q1⟩, fun v hv => ?_⟩
    rcases List.mem_cons.mp hv with rfl | hv
    · exact p2
    · exact q2 v hv
def rSet {P : Program} {w : World} (knd : PySem.KeyKind P w K) (enc : K -> V) : List V -> Hp -> VK -> Prop := fun xs H Q => ∃ (l : Addr) (ks : List K), xs = [.ref l] /\ H l = some (.lst (ks.map enc)) /\ ks.length + 1 < scanBound /\ ∀ d, H d = none -> Q (.ref d) (upd H d (setO knd d (uniq ks)))
theorem call_setOf {X : Cx} (hc : X.calm = true) {knd : PySem.KeyKind X.prog X.w K} (he : Enc knd enc) : CallR X (.type "set") (rSet knd enc) := by
  rintro pins s σ H xs us Q I rv ⟨l, ks, rfl, hH, hb, q⟩
  obtain ⟨u, rfl, ru⟩ := rv.one
  cases (show u = Value.ref l from ru)
  obtain ⟨z, its, n, r, hl, e⟩ := I.lstM hH
  obtain ⟨k1, k2⟩ := keys_of he r
  have hz : its.length = ks.length := k1.length
  refine set_of_list (knd := knd) (its := its.toArray) (I.ok.hd hc) ⟨_, e, rfl, n, rfl⟩ (by simpa using k1) (by simpa using k2) (by rw [List.size_toArray, hz]; exact hb) fun h' tk hS k => ?_
  exact ⟨.ref s.heap.objs.size, _, I.laid (a := s.heap.objs.size) (o := setO knd s.heap.objs.size (uniq ks)) (t' := tk) k (Nat.le_refl _) (setO_ok hS), rfl, q _ (I.hok.fresh (Nat.le_refl _))⟩
end
theorem ints_of_keys {P : Program} {w : World} : ∀ {vs : List Value} {ns : List Int}, Keys (intKind P w) vs ns -> IntsAre vs ns
  | [], [], _ => .nil
  | v :: vs, n :: ns, h => by
    obtain ⟨t, e⟩ : ∃ t, v = .int n t := by
      have h1 : Value.isInt n v = true := h.1
      cases v <;> simp [Value.isInt] at h1
      subst h1
      exact ⟨_, rfl⟩
    subst e
    exact .cons n t (ints_of_keys h.2)
  | [], _ :: _, h => h.elim
  | _ :: _, [], h => h.elim
def rSortSI {P : Program} {w : World} (knd : PySem.KeyKind P w Int) : List V -> Hp -> VK -> Prop := fun xs H Q => ∃ (d : Addr) (ks : List Int), xs = [.ref d] /\ H d = some (setO knd d ks) /\ ks.length < 64 /\ ∀ l (ns : List Int), H l = none -> ns.Perm ks -> ns.Pairwise (· <= ·) -> Q (.ref l) (upd H l (.lst (ns.map V.int)))
theorem call_sortSI {X : Cx} (hc : X.calm = true) : CallR X (.builtin "sorted") (rSortSI (intKind X.prog X.w)) := by
  rintro pins s σ H xs us Q I rv ⟨d, ks, rfl, hH, h64, q⟩
  obtain ⟨u, rfl, ru⟩ := rv.one
  cases (show u = Value.ref d from ru)
  have hS : SetK (intKind X.prog X.w) s.heap d ks := (I.hok d _ hH).1
  refine PySem.Calls.call_function_entry kind_sorted plain_sorted entry_sorted (args_sorted1 _) ?_
  unfold Builtin.«sorted»
  refine wpAny_bind (m := checkCount "sorted" 1 1 _) (wpAny_pure ?_)
  refine wpAny_bind (set_collect (A := X.A.in1) (I.ok.hd hc) hS fun h' tk dr vs ks' hkp k1 k2 => ?_)
  have hI := ints_of_keys k1
  have hl : vs.length = ks.length := by rw [k1.length, k2.length_eq]
  refine wpAny_bind (wpAny_newList ?_ (by rw [hl]; exact Nat.le_of_lt (small1000 (by omega))))
  have hoL : (h'.push (seqObj "list" vs.toArray 0)).get? h'.objs.size = some (seqObj "list" vs.toArray 0) := Heap.get?_push_size _ rfl
  refine wpAny_bind (wpAny_holding (wpAny_call_entry slot_list_sort ⟨_, hoL, rfl⟩ entry_list_sort (list_sort_tree hoL hI (by rw [hl]; exact h64) fun out ns a1 a2 a3 => ⟨_, rfl, ?_⟩) (args_list_sort _)))
  have hold : ∀ b u, s.heap.get? b = some u -> b ≠ h'.objs.size := fun b u e => Nat.ne_of_lt (Heap.lt_size (hkp b u e))
  have hHn : H h'.objs.size = none := by
    cases q0 : H h'.objs.size with
    | none => rfl
    | some o => obtain ⟨u, hu⟩ := (I.hok _ o q0).there2; exact absurd rfl (hold _ u hu)
  obtain ⟨ec, hec⟩ := sortedHeap_at hoL (out := out)
  refine wpAny_pure ⟨_, rfl, .ref h'.objs.size, upd H h'.objs.size (.lst (ns.map V.int)), ?_, rfl, q _ ns hHn (a2.trans k2) a3⟩
  refine (I.drawn dr).grown (t' := tk) (fun b u e => ?_) (fun b u e => upd_ne (hold b u e)) fun b o e z => ?_
  · have e : s.heap.get? b = some u := e
    rw [sortedHeap_old (hold b u e) (by rw [Heap.size_push]; exact Nat.lt_succ_of_lt (Heap.lt_size (hkp b u e)))]
    exact Heap.get?_push_of_some _ (hkp b u e)
  · by_cases hb : b = h'.objs.size
    · subst hb
      rw [upd_same] at z
      cases z
      refine ⟨by rw [List.length_map, a2.length_eq, k2.length_eq]; exact Nat.le_of_lt (small1000 (by omega)), _, ec, vals_of_intsAre a1, ?_⟩
      rw [hec]
    · rw [upd_ne hb] at z
      obtain ⟨u, hu⟩ := (I.hok b o z).there2
      have e : s.heap.get? b = none := e
      rw [hu] at e; cases e
def tCompS {P : Program} {w : World} (knd : PySem.KeyKind P w Int) (l : List (Str × Option Nat)) (wi : TI) (g : TG) (tt : TT) (te : TE) : TE := fun σ H Q =>
  wi σ H fun J H1 => ∀ D, H1 D = none -> ∃ W : Nat -> Nat -> List Int -> St -> Hp -> Prop, (∃ m, W 0 m [] (srcV l σ) (upd H1 D (setO knd D []))) /\ ∀ i m ys σ1 H2, W i m ys σ1 H2 ->
    (J.stop i H2 /\ Q (.ref D) H2) ∨ (J.go i H2 /\ ∀ x H3, J.yld i H2 x H3 -> g x σ1 H3 fun σ2 H4 => tt σ2 H4 fun b H5 =>
      if b = true then te σ2 H5 fun v H6 => ∃ n, v = .int n /\ H6 D = some (setO knd D ys) /\ ys.length + 1 < scanBound /\ ∃ m', m' < m /\ W (i + 1) m' (insK ys n) σ2 (upd H6 D (setO knd D (insK ys n))) else ∃ m', m' < m /\ W (i + 1) m' ys σ2 H5)
section
variable {X : Cx} {elt tg iter : Expr} {ifs : List Expr} {scope : Scope} {pos : Pos} {wi : TI} {g : TG} {tt : TT} {te : TE}
theorem pe_compS (l : List (Str × Option Nat)) (hsc : CompScope X scope l) (hcalm : X.calm = true) (hi : PI X tg iter wi)
    (hg : ∀ cl C fp s3 H3, PG (cxComp X l scope cl C fp s3 H3) tg g) (ht : ∀ cl C fp s3 H3, PIf (cxComp X l scope cl C fp s3 H3) ifs tt)
    (he : ∀ cl C fp s3 H3, PE (cxComp X l scope cl C fp s3 H3) elt te) (hs : ∀ x, foldedSetIterable iter X.env x = pure x := by intro _; rfl) :
    PE X (.SetComp elt [⟨tg, iter, ifs, 0⟩] scope pos) (tCompS (intKind X.prog X.w) l wi g tt te) := by
  intro pins s σ H Q I h
  obtain ⟨cl, e1, e2, e3⟩ := closureFor_ok (scope := scope) (env := X.env) fun x hx hf => I.ok.has x.1 (hsc.free x hx hf)
  show wpAny _ X.A (comprehension (.SetComp elt [⟨tg, iter, ifs, 0⟩] scope pos) scope X.env iter.pos (newSet (.type "set")) false (eval iter X.env) none) _ _ s
  refine wpAny_comprehension_free (use := none) rfl hs e1 hsc.kind hsc.names (thn (hi pins s σ H _ I h) fun v s1 h1 => thn h1 fun itv s2 h2 => ?_)
  obtain ⟨it, fp, tn, J, H2, e, I2, T, st2, f2, hw⟩ := h2
  subst e
  refine set_new (knd := intKind X.prog X.w) fun hS => ?_
  obtain ⟨W, ⟨m0, w0⟩, turn⟩ := hw _ I2.fresh
  have fpD : ∀ b ∈ fp, b ≠ s2.heap.objs.size := fun b hb z => by
    obtain ⟨o, ho, _⟩ := T.obj _ _ st2 b hb
    exact absurd (Heap.lt_size ho) (by rw [z]; exact Nat.lt_irrefl _)
  refine comp_any (α := List Int) (Q := fun H' => Q (.ref s2.heap.objs.size) H') (RR := compPost (model X.prog X.w) X.A X.xe none (EP X pins σ Q) (.ref s2.heap.objs.size)) (p := iter.pos)
    (body := fun acc env => eval elt env >>= fun v => standAt elt.pos >>= fun _ => call (.builtin "set.add") [acc, v] >>= fun _ => pure PUnit.unit)
    (B := fun i m ys σ H5 => te σ H5 fun v H6 => ∃ n, v = .int n /\ H6 s2.heap.objs.size = some (setO (intKind X.prog X.w) s2.heap.objs.size ys) /\ ys.length + 1 < scanBound /\ ∃ m', m' < m /\ W (i + 1) m' (insK ys n) σ (upd H6 s2.heap.objs.size (setO (intKind X.prog X.w) s2.heap.objs.size (insK ys n))))
    (.inr ⟨_, _, _, _, rfl⟩) (fun _ _ _ => rfl) rfl rfl e2 e3 hsc.kind hsc.cell hcalm hsc.src hg ht (fun cl C fp s3 H3 pins s' i m ys σ H I h => ?_)
    (I2.laid (a := s2.heap.objs.size) (o := setO (intKind X.prog X.w) s2.heap.objs.size []) (t' := s2.toks) (fun b o e => Heap.get?_push_of_some _ e) (Nat.le_refl _) (setO_ok hS)) T (T.keep _ _ _ st2 fun b _ o e => Heap.get?_push_of_some _ e) (fun b hb => ⟨by rw [upd_ne (fpD b hb)]; exact (f2 b hb).1, (f2 b hb).2⟩) w0 turn ?_
  · refine wpAny_bind (thn (he cl C fp s3 H3 pins s' σ H _ I h) fun u s10 ⟨v, H10, I10, r10, n, ev, hD, hz, m', hm, w10⟩ => ?_)
    subst ev
    obtain ⟨t, rfl⟩ := r10
    refine wpAny_bind (wpAny_standAt (wpAny_bind (set_add (knd := intKind X.prog X.w) (intKind_is _ _ n t) rfl (I10.hok _ _ hD).1 hz fun h' sb S' => wpAny_pure ⟨m', _, σ, _, hm, ?_, w10⟩)))
    exact I10.write (t' := s10.toks + 1) (e := s2.heap.objs.size) (by rw [hD]; trivial) (.inl rfl) (fun b u hb e => (sb.2 b hb).trans e) (let ⟨_, _, _, _, ho, _⟩ := S'; ⟨_, ho⟩) (setO_ok S')
  · intro C s' H' q ⟨m, hn⟩ I' f'
    refine ⟨m, hn, fun h' hs' => ?_⟩
    exact ⟨.ref s2.heap.objs.size, H', I'.turned (t' := s'.toks) (fun b o hb e => (hs'.2 b hb).trans e) f'.1 f'.2.1 f'.2.2.2.1 f'.2.2.2.2.1 f'.2.2.2.2.2, rfl, q⟩
end
end L2
namespace Mm
open PySem L2 Sx
def insI (a : Int) : List Int -> List Int
  | [] => [a]
  | b :: r => if a <= b then a :: b :: r else b :: insI a r
def sortI : List Int -> List Int
  | [] => []
  | a :: r => insI a (sortI r)
theorem insI_perm (a : Int) : ∀ l, (insI a l).Perm (a :: l)
  | [] => .refl _
  | b :: r => by
    unfold insI
    split
    · exact .refl _
    · exact ((insI_perm a r).cons b).trans (.swap _ _ _)
theorem sortI_perm : ∀ l, (sortI l).Perm l
  | [] => .refl _
  | a :: r => (insI_perm a (sortI r)).trans ((sortI_perm r).cons a)
theorem insI_sorted (a : Int) : ∀ {l : List Int}, l.Pairwise (· <= ·) -> (insI a l).Pairwise (· <= ·)
  | [], _ => List.pairwise_singleton _ _
  | b :: r, h => by
    unfold insI
    have h' := List.pairwise_cons.mp h
    split
    · rename_i hab
      refine List.pairwise_cons.mpr ⟨fun c hc => ?_, h⟩
      rcases List.mem_cons.mp hc with rfl | hc
      · exact hab
      · exact Int.le_trans hab (h'.1 c hc)
    · rename_i hab
      refine List.pairwise_cons.mpr ⟨fun c hc => ?_, insI_sorted a h'.2⟩
      rcases List.mem_cons.mp ((insI_perm a r).mem_iff.mp hc) with rfl | hc
      · omega
      · exact h'.1 c hc
theorem sortI_sorted : ∀ l, (sortI l).Pairwise (· <= ·)
  | [] => .nil
  | a :: r => insI_sorted a (sortI_sorted r)
theorem sortI_uniq {l q : List Int} (p : l.Perm q) (h : l.Pairwise (· <= ·)) : l = sortI q :=
  (p.trans (sortI_perm q).symm).eq_of_pairwise (fun _ _ _ _ h1 h2 => Int.le_antisymm h1 h2) h (sortI_sorted q)
theorem fold_len {K : Type} [DecidableEq K] : ∀ (l ks : List K), (l.foldl insK ks).length <= ks.length + l.length
  | [], ks => Nat.le_refl _
  | a :: r, ks => by
    have h1 := fold_len r (insK ks a)
    have h2 : (insK ks a).length <= ks.length + 1 := insK_len
    simp only [List.foldl_cons, List.length_cons]
    omega
def setSort (vs : List AV) (s : S) : R (List AV) := need (intsO vs) fun ns => if ns.length < 64 then .ok ((sortI (uniq ns)).map .int) s else .bad
def gSetN (m : Evs) : Evs := fun env s => (m env s).bind setSort
def gSetV (m : Ev) : Evs := fun env s => (m env s).bind fun v s1 => match v with
  | .ref i => need (lstO s1 i) fun l => setSort l s1
  | _ => .bad
theorem boot_max : bootBuiltins "max" = some (.builtin "max") := by decide +kernel
theorem boot_set : bootBuiltins "set" = some (.type "set") := by decide +kernel
theorem small64 {n : Nat} (h : n < 64) : n + 1 < scanBound := by unfold scanBound; omega
section
variable {T : Tx} {XE : XEt} {X : Cx} {pos : Pos}
theorem setSort_of {ρ1 : List Addr} {H1 : Hp} {s1 : S} {a : Addr} {l : List AV} {vs : List V} {Q : VK} (ho : Out T XE (rL T) ρ1 H1 (setSort l s1) Q) (sr1 : SR T ρ1 s1 H1) (h1 : H1 a = some (.lst vs)) (k : VRs T ρ1 H1 l vs) :
    rSet (intKind X.prog X.w) V.int [V.ref a] H1 fun v H2 => rSortSI (intKind X.prog X.w) [v] H2 Q := by
  obtain ⟨ns, e2, ho3⟩ := ho.needInv
  obtain ⟨hl, ho4⟩ := ho3.ifInv
  rw [intsO_inv e2] at k
  cases k.ints_inv
  refine ⟨a, ns, rfl, h1, small64 hl, fun d hd => ⟨d, uniq ns, rfl, upd_same, ?_, fun l ns' hl' hp hs => ?_⟩⟩
  · have := fold_len ns []
    unfold uniq
    simp only [List.length_nil] at this
    omega
  · rw [sortI_uniq hp hs]
    exact (Out.up (sr1.upNew hd) ho4).lst (sr1.new hd) hl' (VRs.map (fun _ => vr_int) _)
theorem ml_setN {e : Expr} {p p2 pos2 : Pos} {m : Evs} (hm : X.mg "sorted" = none) (hm2 : X.mg "set" = none) (h : PE X e (tL T XE m)) (hcm : X.calm = true := by rfl) (hg : Gl X "sorted" := by rfl) (hg2 : Gl X "set" := by rfl)
    (he : starEach [.Call (.Name "set" p2) [e] [] pos2] X.env = (false, eval (.Call (.Name "set" p2) [e] [] pos2) X.env) :: starEach [] X.env := by rfl) (hpl : (backTo pos (starEach [] X.env)).any (·.1) = false := by rfl)
    (he2 : starEach [e] X.env = (false, eval e X.env) :: starEach [] X.env := by rfl) (hpl2 : (backTo pos2 (starEach [] X.env)).any (·.1) = false := by rfl) :
    PE X (.Call (.Name "sorted" p) [.Call (.Name "set" p2) [e] [] pos2] [] pos) (tL T XE (gSetN m)) :=
  PE.imp (pe_callB (call_sortSI hcm) hg hm PyProof.Rows.boot_sorted (pa_cons (pe_callTy (call_setOf hcm encI) hg2 hm2 boot_set (pa_cons h pa_nil he2) (by decide) (by decide) he2 hpl2) pa_nil he) (by decide) (by decide) he hpl) fun σ H Q ⟨ρ, env, s, hs, he, ho⟩ => step hs he ho fun l s1 ρ1 H1 x _ u1 sr1 er1 vr1 ho1 => by
    obtain ⟨a, vs, rfl, _, _, h1, k⟩ := vr1
    exact setSort_of ho1 sr1 h1 k
theorem ml_setV {e : Expr} {p p2 pos2 : Pos} {m : Ev} (hm : X.mg "sorted" = none) (hm2 : X.mg "set" = none) (h : PE X e (tE T XE m)) (hcm : X.calm = true := by rfl) (hg : Gl X "sorted" := by rfl) (hg2 : Gl X "set" := by rfl)
    (he : starEach [.Call (.Name "set" p2) [e] [] pos2] X.env = (false, eval (.Call (.Name "set" p2) [e] [] pos2) X.env) :: starEach [] X.env := by rfl) (hpl : (backTo pos (starEach [] X.env)).any (·.1) = false := by rfl)
    (he2 : starEach [e] X.env = (false, eval e X.env) :: starEach [] X.env := by rfl) (hpl2 : (backTo pos2 (starEach [] X.env)).any (·.1) = false := by rfl) :
    PE X (.Call (.Name "sorted" p) [.Call (.Name "set" p2) [e] [] pos2] [] pos) (tL T XE (gSetV m)) :=
  PE.imp (pe_callB (call_sortSI hcm) hg hm PyProof.Rows.boot_sorted (pa_cons (pe_callTy (call_setOf hcm encI) hg2 hm2 boot_set (pa_cons h pa_nil he2) (by decide) (by decide) he2 hpl2) pa_nil he) (by decide) (by decide) he hpl) fun σ H Q ⟨ρ, env, s, hs, he, ho⟩ => step hs he ho fun v s1 ρ1 H1 x _ u1 sr1 er1 vr1 ho1 => by
    cases v with
    | ref i =>
      obtain ⟨l, e1, ho2⟩ := ho1.needInv
      obtain ⟨a, vs, rfl, ea, h1, k⟩ := sr1.lstAt (lstO_inv e1) vr1
      exact setSort_of ho2 sr1 h1 k
    | _ => exact ho1.elim
noncomputable def compS (tgt : Mt) (test : Eb) (elt : Ev) (gs : Gd) : List AV -> En -> S -> List Int -> R (List Int)
  | [], env, s, acc => open Classical in if gOk gs s then .ok acc s else .bad
  | v :: r, env, s, acc => open Classical in if gOk gs s then (match tgt v env s with
      | .nx e1 s1 => (test e1 s1).calm.bind fun b s2 => if b = true then (elt e1 s2).calm.bind fun x s3 => (match x with | .int n => compS tgt test elt gs r e1 s3 (insK acc n) | _ => .bad) else compS tgt test elt gs r e1 s2 acc
      | _ => .bad) else .bad
noncomputable def gSetC (l : Lc) (src : Src) (tgt : Mt) (test : Eb) (elt : Ev) : Evs := fun env s => (src env s).bind fun p s1 => if p.1.length < 64 then (compS tgt test elt p.2 p.1 (srcE l env) s1 []).bind fun ns s2 => .ok ((sortI ns).map .int) s2 else .bad
theorem SR.ext {ρ : List Addr} {s : S} {H : Hp} {D : Addr} {φ : Heap -> Prop} {o : HO} (sr : SR T ρ s H) (h : H D = some (.ext φ)) (n : D ∉ ρ) : SR T ρ s (upd H D o) /\ Gr ρ H ρ (upd H D o) := by
  have g : Gr ρ H ρ (upd H D o) := ⟨List.prefix_rfl, fun b ys e => by rw [upd_ne (ne_of e h (by intro z; cases z))]; exact e, fun b p v e => by rw [upd_ne (ne_of e h (by intro z; cases z))]; exact e⟩
  exact ⟨sr.up g fun a ha => upd_ne fun z => n (z ▸ ha), g⟩
theorem compS_of {l : Lc} {src : Src} {tgt : Mt} {test : Eb} {elt : Ev} {σ : St} {H : Hp} {Q : VK} (h : tL T XE (gSetC l src tgt test elt) σ H Q) :
    tCompS (intKind X.prog X.w) l (tW T XE src) (tT T XE0 tgt) (tC' T XE0 test) (tE T XE0 elt) σ H fun v H2 => rSortSI (intKind X.prog X.w) [v] H2 Q := by
  obtain ⟨ρ, env, s, hs, he, ho⟩ := h
  refine ⟨ρ, env, s, hs, he, ?_⟩
  unfold gSetC at ho
  cases e : src env s with
  | bad => rw [e] at ho; exact ho
  | ex c s1 => rw [e] at ho; exact ho
  | ok p s1 =>
    rw [e] at ho
    obtain ⟨xs, gs⟩ := p
    obtain ⟨hlen, ho⟩ := ho.ifInv
    have hlen : xs.length < 64 := hlen
    intro ρ1 H1 J u1 sr1 wk D hD
    have wk : Walks T ρ1 H1 xs gs J := wk
    have nD : D ∉ ρ1 := sr1.out hD
    refine ⟨fun i m ys σ' H' => m = xs.length - i /\ i <= xs.length /\ ys.length <= i /\ ∃ ρ' env' s', Up ρ1 H1 ρ' H' /\ SR T ρ' s' H' /\ ER T ρ' H' env' σ' /\ H' D = some (setO (intKind X.prog X.w) D ys) /\ D ∉ ρ' /\ Out T XE (rL T) ρ H ((compS tgt test elt gs (xs.drop i) env' s' ys).bind fun ns s2 => .ok ((sortI ns).map .int) s2) Q,
      ⟨_, rfl, Nat.zero_le _, Nat.le_refl _, ρ1, srcE l env, s1, sr1.upNew hD, sr1.new hD, ((he.up u1).up (sr1.upNew hD)).src l, upd_same, nD, ho⟩, ?_⟩
    rintro i m ys σ' H' ⟨rfl, hi, hy, ρ', env', s', u', sr', er', hd, nd', ho'⟩
    by_cases hlt : i < xs.length
    · rw [List.drop_eq_getElem_cons hlt] at ho'
      unfold compS at ho'
      by_cases hg' : gOk gs s'
      · rw [if_pos hg'] at ho'
        obtain ⟨w1, w2⟩ := (wk.turn ρ' s' H' u' sr' hg').1 i xs[i] (List.getElem?_eq_getElem hlt)
        refine .inr ⟨w1, fun x H'' hy' => ?_⟩
        obtain ⟨y1, y2, y3⟩ := w2 x H'' hy'
        refine ⟨ρ', env', s', xs[i], y2, er'.up y1, y3, ?_⟩
        have hd1 := y1.fr D _ hd nd'
        cases et : tgt xs[i] env' s' with
        | nx e1 s2 =>
          simp only [et] at ho'
          refine fun ρ2 H2 σ2 u2 sr2 er2 => ⟨ρ2, e1, s2, sr2, er2, ?_⟩
          have hd2 := u2.fr D _ hd1.1 hd1.2
          cases eb : test e1 s2 with
          | bad => simp only [eb, calm_bad, bind_bad] at ho'; exact ho'.elim
          | ex c s3 => simp only [eb, R.calm, bind_bad] at ho'; exact ho'.elim
          | ok b s3 =>
            simp only [eb, calm_ok, bind_ok] at ho'
            intro ρ3 H3 b' u3 sr3 eb'
            cases (show b = b' from eb')
            have hd3 := u3.fr D _ hd2.1 hd2.2
            have up3 : Up ρ1 H1 ρ3 H3 := ((u'.trans y1).trans u2).trans u3
            cases b with
            | false =>
              rw [if_neg (by decide)] at ho' ⊢
              exact ⟨xs.length - (i + 1), by omega, rfl, hlt, by omega, ρ3, e1, s3, up3, sr3, er2.up u3, hd3.1, hd3.2, ho'⟩
            | true =>
              rw [if_pos rfl] at ho' ⊢
              refine ⟨ρ3, e1, s3, sr3, er2.up u3, ?_⟩
              cases ev : elt e1 s3 with
              | bad => simp only [ev, calm_bad, bind_bad] at ho'; exact ho'.elim
              | ex c s4 => simp only [ev, R.calm, bind_bad] at ho'; exact ho'.elim
              | ok v s4 =>
                simp only [ev, calm_ok, bind_ok] at ho'
                intro ρ4 H4 x4 u4 sr4 vr4
                have vr4 : VR T ρ4 H4 v x4 := vr4
                have hd4 := u4.fr D _ hd3.1 hd3.2
                cases v with
                | int n =>
                  cases vr4.int_inv
                  obtain ⟨sr5, g5⟩ := SR.ext (o := setO (intKind X.prog X.w) D (insK ys n)) sr4 hd4.1 hd4.2
                  exact ⟨n, rfl, hd4.1, small64 (by omega), xs.length - (i + 1), by omega, rfl, hlt, Nat.le_trans insK_len (by omega), ρ4, e1, s4, (up3.trans u4).mod hD hd4.2, sr5, ((er2.up u3).up u4).gr g5, upd_same, hd4.2, ho'⟩
                | _ => simp only [bind_bad] at ho'; exact ho'.elim
        | ex c s1 => simp only [et, bind_bad] at ho'; exact ho'.elim
        | rt v s2 => simp only [et, bind_bad] at ho'; exact ho'.elim
        | bk v s2 => simp only [et, bind_bad] at ho'; exact ho'.elim
        | ct v s2 => simp only [et, bind_bad] at ho'; exact ho'.elim
        | bad => simp only [et, bind_bad] at ho'; exact ho'.elim
      · rw [if_neg hg'] at ho'; exact ho'.elim
    · have e : i = xs.length := by omega
      subst e
      rw [List.drop_length] at ho'
      unfold compS at ho'
      by_cases hg' : gOk gs s'
      · rw [if_pos hg'] at ho'
        refine .inl ⟨(wk.turn ρ' s' H' u' sr' hg').2, D, ys, rfl, hd, by omega, fun l ns hl hp hs => ?_⟩
        rw [sortI_uniq hp hs]
        exact (Out.up (u1.trans u') ho').lst sr' hl (VRs.map (fun _ => vr_int) _)
      · rw [if_neg hg'] at ho'; exact ho'.elim
theorem ml_setC {elt tg iter : Expr} {ifs : List Expr} {scope : Scope} {src : Src} {tgt : Mt} {test : Eb} {me : Ev} {p pos2 : Pos} (hm : X.mg "sorted" = none) (l : Lc) (hsc : CompScope X scope l) (hcalm : X.calm = true) (hi : PI X tg iter (tW T XE src))
    (hg : ∀ cl C fp s3 H3, PG (cxComp X l scope cl C fp s3 H3) tg (tT T XE0 tgt)) (ht : ∀ cl C fp s3 H3, PIf (cxComp X l scope cl C fp s3 H3) ifs (tC' T XE0 test)) (he : ∀ cl C fp s3 H3, PE (cxComp X l scope cl C fp s3 H3) elt (tE T XE0 me))
    (hs : ∀ x, foldedSetIterable iter X.env x = pure x := by intro _; rfl) (hgl : Gl X "sorted" := by rfl)
    (hst : starEach [.SetComp elt [⟨tg, iter, ifs, 0⟩] scope pos2] X.env = (false, eval (.SetComp elt [⟨tg, iter, ifs, 0⟩] scope pos2) X.env) :: starEach [] X.env := by rfl) (hpl : (backTo pos (starEach [] X.env)).any (·.1) = false := by rfl) :
    PE X (.Call (.Name "sorted" p) [.SetComp elt [⟨tg, iter, ifs, 0⟩] scope pos2] [] pos) (tL T XE (gSetC l src tgt test me)) :=
  PE.imp (pe_callB (call_sortSI hcalm) hgl hm PyProof.Rows.boot_sorted (pa_cons (pe_compS l hsc hcalm hi hg ht he hs) pa_nil hst) (by decide) (by decide) hst hpl) fun _ _ _ h => compS_of h
end
end Mm
namespace Mm
open PySem L2
noncomputable def compE (tgt : Mt) (test : Eb) (elt : Ev) (gs : Gd) : List AV -> En -> S -> List AV -> R (List AV × En)
  | [], env, s, acc => open Classical in if gOk gs s then .ok (acc, env) s else .bad
  | v :: r, env, s, acc => open Classical in if gOk gs s then (match tgt v env s with
      | .nx e1 s1 => (test e1 s1).calm.bind fun b s2 => if b = true then (elt e1 s2).calm.bind fun x s3 => (if acc.length < 1000 then compE tgt test elt gs r e1 s3 (acc ++ [x]) else .bad) else compE tgt test elt gs r e1 s2 acc
      | _ => .bad) else .bad
noncomputable def compL2 (tgt : Mt) (test : Eb) (src1 : Src) (tgt1 : Mt) (test1 : Eb) (elt : Ev) (gs : Gd) : List AV -> En -> S -> List AV -> R (List AV)
  | [], env, s, acc => open Classical in if gOk gs s then .ok acc s else .bad
  | v :: r, env, s, acc => open Classical in if gOk gs s then (match tgt v env s with
      | .nx e1 s1 => (test e1 s1).calm.bind fun b s2 => if b = true then (src1 e1 s2).calm.bind fun p s3 => (compE tgt1 test1 elt p.2 p.1 e1 s3 acc).bind fun q s4 => compL2 tgt test src1 tgt1 test1 elt gs r q.2 s4 q.1 else compL2 tgt test src1 tgt1 test1 elt gs r e1 s2 acc
      | _ => .bad) else .bad
noncomputable def lComp2 (l : Lc) (src : Src) (tgt : Mt) (test : Eb) (src1 : Src) (tgt1 : Mt) (test1 : Eb) (elt : Ev) : Evs := fun env s => (src env s).bind fun p s1 => compL2 tgt test src1 tgt1 test1 elt p.2 p.1 (srcE l env) s1 []
theorem Gr.trans {ρ ρ1 ρ2 : List Addr} {H H1 H2 : Hp} (a : Gr ρ H ρ1 H1) (b : Gr ρ1 H1 ρ2 H2) : Gr ρ H ρ2 H2 :=
  ⟨a.pre.trans b.pre, fun c xs h => b.tups c xs (a.tups c xs h), fun c o u h => b.frzs c o u (a.frzs c o u h)⟩
structure WalksG (T : Tx) (ρ : List Addr) (H : Hp) (xs : List AV) (gs : Gd) (J : It) : Prop where
  turn : ∀ ρ' s' H', Gr ρ H ρ' H' -> SR T ρ' s' H' -> gOk gs s' -> (∀ (j : Nat) (v : AV), xs[j]? = some v -> J.go j H' /\ ∀ x H'', J.yld j H' x H'' -> Up ρ' H' ρ' H'' /\ SR T ρ' s' H'' /\ VR T ρ' H'' v x) /\ J.stop xs.length H'
def rWG (T : Tx) : Rl (List AV × Gd) It := ⟨fun _ ρ H p J => WalksG T ρ H p.1 p.2 J, fun _ h => h⟩
abbrev tWG (T : Tx) (XE : XEt) (m : Src) : TI := tG T XE (rWG T) m
section
variable {T : Tx} {XE : XEt} {X : Cx} {pos : Pos}
theorem mi_vG {tg e : Expr} {m : Ev} (hK : X.K = T.K) (h : PE X e (tE T XE m)) : PI X tg e (tWG T XE (srcV' m)) :=
  PI.imp (pi_seq h) fun σ H R ⟨ρ, env, s, hs, he, ho⟩ => step hs he ho fun v s1 ρ1 H1 x _ u1 sr1 er1 vr1 ho1 => by
    have vr1 : VR T ρ1 H1 v x := vr1
    cases v with
    | tup xs =>
      obtain ⟨a, vs, rfl, h1, k⟩ := vr1.tup_inv
      refine ⟨a, rfl, .inr ⟨⟨vs, hK ▸ h1⟩, ho1 ρ1 H1 _ .refl sr1 ⟨fun ρ' s' H' u' sr' _ => ?_⟩⟩⟩
      rw [hK]
      exact walk_tup (u'.sqT h1) sr' (k.gr u')
    | sq xs =>
      obtain ⟨a, vs, rfl, h1, k⟩ := vr1.sq_inv
      refine ⟨a, rfl, .inl ⟨⟨vs, hK ▸ h1.sqL⟩, ho1 ρ1 H1 _ .refl sr1 ⟨fun ρ' s' H' u' sr' _ => ?_⟩⟩⟩
      rw [hK]
      exact walk_list (.inr (u'.sqF h1)) sr' (k.gr u')
    | ref i =>
      obtain ⟨xs, e0, ho1⟩ := ho1.needInv
      obtain ⟨a, vs, rfl, ea, h1, k⟩ := sr1.lstAt (lstO_inv e0) vr1
      refine ⟨a, rfl, .inl ⟨⟨vs, SqL.of h1⟩, ho1 ρ1 H1 _ .refl sr1 ⟨fun ρ' s' H' u' sr' g => ?_⟩⟩⟩
      have e2 := (gOk_one i xs s').mp g
      obtain ⟨b, ws, eb, _, h2, k2⟩ := sr'.lstAt (lstO_inv e2) (vr1.gr u')
      cases eb
      exact walk_list (.inl h2) sr' k2
    | non => exact ho1.elim
    | bl b => exact ho1.elim
    | int b => exact ho1.elim
    | str b => exact ho1.elim
theorem compE_of {src1 : Src} {tgt1 : Mt} {test1 : Eb} {elt : Ev} {ρb : List Addr} {Hb : Hp} {ρ : List Addr} {H : Hp} {env : En} {s : S} {σ : St} {D : Addr} {ys : List V} {acc : List AV} {F : List AV × En -> S -> R (List AV)} {Q : VK} {ρ0 : List Addr} {H0 : Hp}
    (hD : Hb D = none) (ub : Up ρb Hb ρ H) (sr : SR T ρ s H) (er : ER T ρ H env σ) (hd : H D = some (.lst ys)) (nd : D ∉ ρ) (ka : VRs T ρ H acc ys)
    (ho : Out T XE (rL T) ρ0 H0 ((src1 env s).calm.bind fun p s3 => (compE tgt1 test1 elt p.2 p.1 env s3 acc).bind F) Q) {N : List V -> St -> Hp -> Prop}
    (hN : ∀ ys' σ' H', (∃ ρ' env' s' acc', Up ρb Hb ρ' H' /\ D ∉ ρ' /\ SR T ρ' s' H' /\ ER T ρ' H' env' σ' /\ H' D = some (.lst ys') /\ VRs T ρ' H' acc' ys' /\ Out T XE (rL T) ρ0 H0 (F (acc', env') s') Q) -> N ys' σ' H') :
    Inner (tWG T XE0 src1) (tT T XE0 tgt1) (tC' T XE0 test1) (tE T XE0 elt) D ys σ H N := by
  refine ⟨ρ, env, s, sr, er, ?_⟩
  cases e : src1 env s with
  | bad => rw [e] at ho; simp only [calm_bad, bind_bad] at ho; exact ho.elim
  | ex c s1 => rw [e] at ho; simp only [R.calm, bind_bad] at ho; exact ho.elim
  | ok p s1 =>
    rw [e] at ho
    obtain ⟨xs, gs⟩ := p
    simp only [calm_ok, bind_ok] at ho
    intro ρ1 H1 J u1 sr1 wk
    have wk : WalksG T ρ1 H1 xs gs J := wk
    have hd0 := u1.fr D _ hd nd
    refine ⟨fun i m ys σ' H' => m = xs.length - i /\ i <= xs.length /\ ∃ ρ' env' s' acc, Up ρb Hb ρ' H' /\ Gr ρ1 H1 ρ' H' /\ SR T ρ' s' H' /\ ER T ρ' H' env' σ' /\ H' D = some (.lst ys) /\ D ∉ ρ' /\ VRs T ρ' H' acc ys /\ Out T XE (rL T) ρ0 H0 ((compE tgt1 test1 elt gs (xs.drop i) env' s' acc).bind F) Q,
      ⟨_, rfl, Nat.zero_le _, ρ1, env, s1, acc, ub.trans u1, Up.refl.toGr, sr1, er.up u1, hd0.1, hd0.2, ka.up u1, ho⟩, ?_⟩
    rintro i m ys σ' H' ⟨rfl, hi, ρ', env', s', acc, u', g', sr', er', hd, nd', ka, ho'⟩
    by_cases hlt : i < xs.length
    · rw [List.drop_eq_getElem_cons hlt] at ho'
      unfold compE at ho'
      by_cases hg' : gOk gs s'
      · rw [if_pos hg'] at ho'
        obtain ⟨w1, w2⟩ := (wk.turn ρ' s' H' g' sr' hg').1 i xs[i] (List.getElem?_eq_getElem hlt)
        refine .inr ⟨w1, fun x H'' hy' => ?_⟩
        obtain ⟨y1, y2, y3⟩ := w2 x H'' hy'
        refine ⟨ρ', env', s', xs[i], y2, er'.up y1, y3, ?_⟩
        have hd1 := y1.fr D _ hd nd'
        have ka1 := ka.up y1
        cases et : tgt1 xs[i] env' s' with
        | nx e1 s2 =>
          simp only [et] at ho'
          refine fun ρ2 H2 σ2 u2 sr2 er2 => ⟨ρ2, e1, s2, sr2, er2, ?_⟩
          have hd2 := u2.fr D _ hd1.1 hd1.2
          have ka2 := ka1.up u2
          cases eb : test1 e1 s2 with
          | bad => simp only [eb, calm_bad, bind_bad] at ho'; exact ho'.elim
          | ex c s3 => simp only [eb, R.calm, bind_bad] at ho'; exact ho'.elim
          | ok b s3 =>
            simp only [eb, calm_ok, bind_ok] at ho'
            intro ρ3 H3 b' u3 sr3 eb'
            cases (show b = b' from eb')
            have hd3 := u3.fr D _ hd2.1 hd2.2
            have ka3 := ka2.up u3
            have up3 : Up ρb Hb ρ3 H3 := ((u'.trans y1).trans u2).trans u3
            have gr3 : Gr ρ1 H1 ρ3 H3 := Gr.trans g' ((y1.trans u2).trans u3).toGr
            cases b with
            | false =>
              rw [if_neg (by decide)] at ho' ⊢
              exact ⟨xs.length - (i + 1), by omega, rfl, hlt, ρ3, e1, s3, acc, up3, gr3, sr3, er2.up u3, hd3.1, hd3.2, ka3, ho'⟩
            | true =>
              rw [if_pos rfl] at ho' ⊢
              refine ⟨ρ3, e1, s3, sr3, er2.up u3, ?_⟩
              cases ev : elt e1 s3 with
              | bad => simp only [ev, calm_bad, bind_bad] at ho'; exact ho'.elim
              | ex c s4 => simp only [ev, R.calm, bind_bad] at ho'; exact ho'.elim
              | ok v s4 =>
                simp only [ev, calm_ok, bind_ok] at ho'
                by_cases hl : acc.length < 1000
                · rw [if_pos hl] at ho'
                  intro ρ4 H4 x4 u4 sr4 vr4
                  have hd4 := u4.fr D _ hd3.1 hd3.2
                  have ka4 := ka3.up u4
                  have g5 : Gr ρ4 H4 ρ4 (upd H4 D (.lst (ys ++ [x4]))) := grAt hd4.1
                  exact ⟨hd4.1, by rw [← ka.length]; exact Nat.lt_of_lt_of_le hl (by rw [sizeLine_eq]; decide), xs.length - (i + 1), by omega, rfl, hlt, ρ4, e1, s4, acc ++ [v], (up3.trans u4).mod hD hd4.2, Gr.trans gr3 (Gr.trans u4.toGr g5), sr4.up g5 fun a ha => upd_ne fun z => hd4.2 (z ▸ ha), ((er2.up u3).up u4).gr g5, upd_same, hd4.2, (ka4.append (.one vr4)).gr g5, ho'⟩
                · rw [if_neg hl] at ho'; exact ho'.elim
        | ex c s1 => simp only [et, bind_bad] at ho'; exact ho'.elim
        | rt v s2 => simp only [et, bind_bad] at ho'; exact ho'.elim
        | bk v s2 => simp only [et, bind_bad] at ho'; exact ho'.elim
        | ct v s2 => simp only [et, bind_bad] at ho'; exact ho'.elim
        | bad => simp only [et, bind_bad] at ho'; exact ho'.elim
      · rw [if_neg hg'] at ho'; exact ho'.elim
    · have e : i = xs.length := by omega
      subst e
      rw [List.drop_length] at ho'
      unfold compE at ho'
      by_cases hg' : gOk gs s'
      · rw [if_pos hg'] at ho'
        exact .inl ⟨(wk.turn ρ' s' H' g' sr' hg').2, hN _ _ _ ⟨ρ', env', s', acc, u', nd', sr', er', hd, ka, ho'⟩⟩
      · rw [if_neg hg'] at ho'; exact ho'.elim
theorem comp2_of {l : Lc} {src : Src} {tgt : Mt} {test : Eb} {src1 : Src} {tgt1 : Mt} {test1 : Eb} {elt : Ev} {σ : St} {H : Hp} {Q : VK} (h : tL T XE (lComp2 l src tgt test src1 tgt1 test1 elt) σ H Q) :
    tComp2 l (tW T XE src) (tT T XE0 tgt) (tC' T XE0 test) (tWG T XE0 src1) (tT T XE0 tgt1) (tC' T XE0 test1) (tE T XE0 elt) σ H Q := by
  obtain ⟨ρ, env, s, hs, he, ho⟩ := h
  refine ⟨ρ, env, s, hs, he, ?_⟩
  unfold lComp2 at ho
  cases e : src env s with
  | bad => rw [e] at ho; exact ho
  | ex c s1 => rw [e] at ho; exact ho
  | ok p s1 =>
    rw [e] at ho
    obtain ⟨xs, gs⟩ := p
    intro ρ1 H1 J u1 sr1 wk D hD
    have wk : Walks T ρ1 H1 xs gs J := wk
    have nD : D ∉ ρ1 := sr1.out hD
    refine ⟨fun i m ys σ' H' => m = xs.length - i /\ i <= xs.length /\ ∃ ρ' env' s' acc, Up ρ1 H1 ρ' H' /\ SR T ρ' s' H' /\ ER T ρ' H' env' σ' /\ H' D = some (.lst ys) /\ D ∉ ρ' /\ VRs T ρ' H' acc ys /\ Out T XE (rL T) ρ H (compL2 tgt test src1 tgt1 test1 elt gs (xs.drop i) env' s' acc) Q,
      ⟨_, rfl, Nat.zero_le _, ρ1, srcE l env, s1, [], sr1.upNew hD, sr1.new hD, ((he.up u1).up (sr1.upNew hD)).src l, upd_same, nD, .nil, ho⟩, ?_⟩
    rintro i m ys σ' H' ⟨rfl, hi, ρ', env', s', acc, u', sr', er', hd, nd', ka, ho'⟩
    by_cases hlt : i < xs.length
    · rw [List.drop_eq_getElem_cons hlt] at ho'
      unfold compL2 at ho'
      obtain ⟨hg', ho'⟩ := ho'.ifInv
      obtain ⟨w1, w2⟩ := (wk.turn ρ' s' H' u' sr' hg').1 i xs[i] (List.getElem?_eq_getElem hlt)
      refine .inr ⟨w1, fun x H'' hy' => ?_⟩
      obtain ⟨y1, y2, y3⟩ := w2 x H'' hy'
      refine ⟨ρ', env', s', xs[i], y2, er'.up y1, y3, ?_⟩
      have hd1 := y1.fr D _ hd nd'
      have ka1 := ka.up y1
      cases et : tgt xs[i] env' s' with
      | nx e1 s2 =>
        simp only [et] at ho'
        refine fun ρ2 H2 σ2 u2 sr2 er2 => ⟨ρ2, e1, s2, sr2, er2, ?_⟩
        have hd2 := u2.fr D _ hd1.1 hd1.2
        have ka2 := ka1.up u2
        cases eb : test e1 s2 with
        | bad => simp only [eb, calm_bad, bind_bad] at ho'; exact ho'.elim
        | ex c s3 => simp only [eb, R.calm, bind_bad] at ho'; exact ho'.elim
        | ok b s3 =>
          simp only [eb, calm_ok, bind_ok] at ho'
          intro ρ3 H3 b' u3 sr3 eb'
          cases (show b = b' from eb')
          have hd3 := u3.fr D _ hd2.1 hd2.2
          have ka3 := ka2.up u3
          have up3 : Up ρ1 H1 ρ3 H3 := ((u'.trans y1).trans u2).trans u3
          cases b with
          | false =>
            rw [if_neg (by decide)] at ho' ⊢
            exact ⟨xs.length - (i + 1), by omega, rfl, hlt, ρ3, e1, s3, acc, up3, sr3, er2.up u3, hd3.1, hd3.2, ka3, ho'⟩
          | true =>
            rw [if_pos rfl] at ho' ⊢
            exact compE_of hD up3 sr3 (er2.up u3) hd3.1 hd3.2 ka3 ho' fun ys' σ' H' ⟨ρ4, env4, s4, acc4, f1, f2, f3, f4, f5, f6, f7⟩ => ⟨xs.length - (i + 1), by omega, rfl, hlt, ρ4, env4, s4, acc4, f1, f3, f4, f5, f2, f6, f7⟩
      | ex c s1 => simp only [et] at ho'; exact ho'.elim
      | rt v s2 => simp only [et] at ho'; exact ho'.elim
      | bk v s2 => simp only [et] at ho'; exact ho'.elim
      | ct v s2 => simp only [et] at ho'; exact ho'.elim
      | bad => simp only [et] at ho'; exact ho'.elim
    · have e : i = xs.length := by omega
      subst e
      rw [List.drop_length] at ho'
      unfold compL2 at ho'
      obtain ⟨hg', ho'⟩ := ho'.ifInv
      exact .inl ⟨(wk.turn ρ' s' H' u' sr' hg').2, ho' ρ' H' (.ref D) (u1.trans u') sr' ⟨D, ys, rfl, u1.live D hD, nd', hd, ka⟩⟩
theorem ms_setComp2 {i : Nat} {y : Str} {py spos : Pos} {elt tg iter tg1 iter1 : Expr} {ifs ifs1 : List Expr} {scope : Scope} {src src1 : Src} {tgt tgt1 : Mt} {test test1 : Eb} {me : Ev} (l : Lc) (hsc : CompScope X scope l) (hcalm : X.calm = true) (hN : X.N.Nodup) (hi : PI X tg iter (tW T XE src))
    (hg : ∀ cl C fp s3 H3, PG (cxComp X l scope cl C fp s3 H3) tg (tT T XE0 tgt)) (ht : ∀ cl C fp s3 H3, PIf (cxComp X l scope cl C fp s3 H3) ifs (tC' T XE0 test))
    (hi1 : ∀ cl C fp s3 H3, PI (cxComp X l scope cl C fp s3 H3) tg1 iter1 (tWG T XE0 src1)) (hg1 : ∀ cl C fp s3 H3, PG (cxComp X l scope cl C fp s3 H3) tg1 (tT T XE0 tgt1)) (ht1 : ∀ cl C fp s3 H3, PIf (cxComp X l scope cl C fp s3 H3) ifs1 (tC' T XE0 test1))
    (he : ∀ cl C fp s3 H3, PE (cxComp X l scope cl C fp s3 H3) elt (tE T XE0 me))
    (hy : X.N[i]? = some y := by rfl) (hx : X.env.scope.names.lookup y = some .local := by rfl)
    (hsw : swapsWith (.ListComp elt [⟨tg, iter, ifs, 0⟩, ⟨tg1, iter1, ifs1, 0⟩] scope pos) (some (.Name y py)) spos.line X.env = pure true := by rfl)
    (hs : ∀ x, foldedSetIterable iter X.env x = pure x := by intro _; rfl) (hs1 : ∀ env x, foldedSetIterable iter1 env x = pure x := by intro _ _; rfl) :
    PS X (.Assign [.Name y py] (.ListComp elt [⟨tg, iter, ifs, 0⟩, ⟨tg1, iter1, ifs1, 0⟩] scope pos) spos) (tS T XE (sSet i (mNew (lComp2 l src tgt test src1 tgt1 test1 me)))) :=
  PS.imp (ps_setComp2 l hsc hcalm hN hy hx hi hg ht hi1 hg1 ht1 he hsw hs hs1) fun D σ H h => comp2_of (new_of (asg_of h))
end
end Mm
namespace Ro
open PySem L2 Mm
noncomputable def b_unit_stretches : Ms :=
 (sSeq (sSet 3 (mBin opAdd (mv 1) (mv 2)))
 (sSeq (sSet 4 (mNew (lComp2 [("kind", none), ("name", none), ("rates", none), ("upto", none), ("part", none)] (srcV' (mv 0)) (gT 3 (gCons' (gN 0) (gCons' (gN 1) (gCons' (gN 2) gNil')))) (cB (mBin opEq (mv 0) (mc (.str "steps")))) (srcV' (mSl (mv 2) oN (oS (mUn opNeg (mc (.int 1)))))) (gT 2 (gCons' (gN 3) (gCons' (gN 4) gNil'))) cYes (mv 3))))
 (sSeq (sSet 5 (mNew (gSetC [("upto", none), ("first", some 1), ("behind", some 3)] (srcV' (mv 4)) (gN 0) (cB (mChain opLt opLt (mv 1) (mv 0) (mv 2))) (mv 0))))
 (sRet (mNew (lComp [("start", none), ("end", none)] (srcZ (mBin opAdd (mNew (lLst (pCons (mv 1) pNil))) (mv 5)) (mBin opAdd (mv 5) (mNew (lLst (pCons (mv 3) pNil))))) (gT 2 (gCons' (gN 0) (gCons' (gN 1) gNil'))) cYes (mTup (pCons (mv 0) (pCons (mBin opSub (mv 1) (mv 0)) pNil)))))))))
noncomputable def f_unit_stretches : List AV -> S -> R AV := fnR 6 b_unit_stretches
noncomputable def b__law_stepped : Ms :=
 (sSeq (sSet 1 (mNew (lLst pNil)))
 (sSeq (sFor (srcR (pCons (mBin opAdd (mc (.int 1)) (mCall 2 f__law_take (pCons (mv 0) (pCons (mc (.int 4)) pNil)))) pNil)) (gN 2) (sSeq (sSet 3 (gcM (mBin opIx (mNew (lLst (pCons (mc (.int 9)) (pCons (mc (.int 30)) (pCons (mBin opPow (mc (.int 10)) (mc (.int 6))) pNil))))) (mCall 2 f__law_take (pCons (mv 0) (pCons (mc (.int 3)) pNil))))))
 (sSeq (sSet 4 (mNew (gSetN (lComp [("_law_k", none), ("_law_state", some 0), ("_law_far", some 3)] (srcR (pCons (mBin opAdd (mc (.int 1)) (mCall 2 f__law_take (pCons (mv 0) (pCons (mc (.int 3)) pNil)))) pNil)) (gN 0) cYes (mBin opAdd (mc (.int 1)) (mCall 2 f__law_take (pCons (mv 1) (pCons (mv 2) pNil))))))))
 (sSeq (sSet 5 (gOp qTuple (lComp [("_law_upto", none), ("_law_state", some 0)] (srcV' (mv 4)) (gN 0) cYes (mTup (pCons (mv 0) (pCons (mCall 2 f__law_lowest (pCons (mBin opAdd (mc (.int 1)) (mCall 2 f__law_take (pCons (mv 1) (pCons (mc (.int 15)) pNil)))) (pCons (mc (.int 60)) pNil))) pNil))))))
 (sExpr (mMet "list" opAppend (mv 1) (pCons (mTup (pCons (mc (.str "steps")) (pCons (gcM (mBin opIx (mNew (lTake (mCall 2 f__law_names (pCons (mv 0) (pCons (mc (.int 1)) pNil))))) (mc (.int 0)))) (pCons (mBin opAdd (mv 5) (mTup (pCons (mTup (pCons (mc .non) (pCons (mTup (pCons (mc (.int 1)) (pCons (mc (.int 60)) pNil))) pNil))) pNil))) pNil)))) pNil)))))))
 (sRet (gOp qTuple (lIts (mv 1))))))
noncomputable def f__law_stepped : List AV -> S -> R AV := fnR 6 b__law_stepped
noncomputable def b__law_uptos : Ms :=
 (sSeq (sSet 1 (mNew (lLst pNil)))
 (sSeq (sFor (srcV' (mv 0)) (gN 2) (sIf (cB (mBin opEq (mBin opIx (mv 2) (mc (.int 0))) (mc (.str "steps")))) (sSet 1 (mBin opAdd (mv 1) (mNew (lComp [("_law_upto", none), ("_law_part_here", none)] (srcV' (mBin opIx (mv 2) (mc (.int 2)))) (gT 2 (gCons' (gN 0) (gCons' (gN 1) gNil'))) (cB (mBin opIsntN (mv 0) (mc .non))) (mv 0))))) sSkip))
 (sRet (mNew (gSetV (mv 1))))))
noncomputable def f__law_uptos : List AV -> S -> R AV := fnR 3 b__law_uptos
noncomputable def b__law_due : Ms :=
 (sSeq (sSet 3 (mNew (lComp [("_law_upto", none), ("_law_first", some 1), ("_law_many", some 2)] (srcL (lTake (mCall 1 f__law_uptos (pCons (mv 0) pNil)))) (gN 0) (cAnd (cB (mBin opLt (mv 1) (mv 0))) (cB (mBin opLt (mv 0) (mBin opAdd (mv 1) (mv 2))))) (mv 0))))
 (sSeq (sSet 4 (mBin opAdd (mBin opAdd (mNew (lLst (pCons (mv 1) pNil))) (mv 3)) (mNew (lLst (pCons (mBin opAdd (mv 1) (mv 2)) pNil)))))
 (sRet (mNew (lComp [("_law_one", none), ("_law_other", none)] (srcZ (mv 4) (mSl (mv 4) (oS (mc (.int 1))) oN)) (gT 2 (gCons' (gN 0) (gCons' (gN 1) gNil'))) cYes (mTup (pCons (mv 0) (pCons (mBin opSub (mv 1) (mv 0)) pNil))))))))
noncomputable def f__law_due : List AV -> S -> R AV := fnR 5 b__law_due
noncomputable def b_law : Ms :=
 (sSeq (sSet 1 (mCall 1 f__law_begin (pCons (mv 0) pNil)))
 (sSeq (sFor (srcR (pCons (mc (.int 4)) pNil)) (gN 2) (sSeq (sSet 3 (gcM (mBin opIx (mNew (lLst (pCons (mCall 1 f__law_some_rows (pCons (mv 1) pNil)) (pCons (mCall 1 f__law_stepped (pCons (mv 1) pNil)) pNil)))) (mCall 2 f__law_take (pCons (mv 1) (pCons (mc (.int 2)) pNil))))))
 (sSeq (sSet 4 (mBin opAdd (mNew (lTake (mCall 1 f__law_uptos (pCons (mv 3) pNil)))) (mNew (lLst (pCons (mc (.int 7)) (pCons (mc (.int 40)) pNil))))))
 (sFor (srcR (pCons (mc (.int 8)) pNil)) (gN 5) (sSeq (sSet 6 (mBin opIx (mv 4) (mCall 2 f__law_take (pCons (mv 1) (pCons (mOp opLen (pCons (mv 4) pNil)) pNil)))))
 (sSeq (sSet 7 (gcM (mBin opIx (mNew (lLst (pCons (mCall 2 f__law_take (pCons (mv 1) (pCons (mc (.int 12)) pNil))) (pCons (mOp opMax (pCons (mc (.int 0)) (pCons (mBin opSub (mv 6) (mCall 2 f__law_take (pCons (mv 1) (pCons (mc (.int 4)) pNil)))) pNil))) (pCons (mv 6) pNil))))) (mCall 2 f__law_take (pCons (mv 1) (pCons (mc (.int 3)) pNil))))))
 (sSeq (sSet 8 (mBin opAdd (mBin opIx (mv 4) (mCall 2 f__law_take (pCons (mv 1) (pCons (mOp opLen (pCons (mv 4) pNil)) pNil)))) (mCall 2 f__law_take (pCons (mv 1) (pCons (mc (.int 2)) pNil)))))
 (sSeq (sSet 9 (gcM (mBin opIx (mNew (lLst (pCons (mBin opAdd (mc (.int 1)) (mCall 2 f__law_take (pCons (mv 1) (pCons (mc (.int 20)) pNil)))) (pCons (mOp opMax (pCons (mc (.int 1)) (pCons (mBin opSub (mv 8) (mv 7)) pNil))) (pCons (mBin opAdd (mc (.int 1)) (mCall 2 f__law_take (pCons (mv 1) (pCons (mBin opPow (mc (.int 10)) (mc (.int 6))) pNil)))) pNil))))) (mCall 2 f__law_take (pCons (mv 1) (pCons (mc (.int 3)) pNil))))))
 (sSeq (sSet 10 (mNew (lTake (mCall 3 f__law_due (pCons (mv 3) (pCons (mv 7) (pCons (mv 9) pNil)))))))
 (sSeq (sSet 11 (mNew (lTake (mCall 3 f_unit_stretches (pCons (mv 3) (pCons (mv 7) (pCons (mv 9) pNil)))))))
 (sSeq (sIf (cNot (cT (mCall 2 (f__law_same 9) (pCons (mv 11) (pCons (mv 10) pNil))))) (sRet (mc (.bl false))) sSkip)
 (sSeq (sExpr (mMet "list" opAppend (mv 11) (pCons (mTup (pCons (mc (.int 0)) (pCons (mc (.int 1)) pNil))) pNil)))
 (sIf (cNot (cT (gcE (mCall 2 (f__law_same 9) (pCons (mNew (lTake (mCall 3 f_unit_stretches (pCons (mv 3) (pCons (mv 7) (pCons (mv 9) pNil)))))) (pCons (mv 10) pNil)))))) (sRet (mc (.bl false))) sSkip)))))))))))))
 (sRet (gcE (mCall 2 (f__law_same 9) (pCons (mNew (lTake (mCall 3 f_unit_stretches (pCons (mTup pNil) (pCons (mc (.int 0)) (pCons (mc (.int 1)) pNil)))))) (pCons (mNew (lLst (pCons (mTup (pCons (mc (.int 0)) (pCons (mc (.int 1)) pNil))) pNil))) pNil)))))))
noncomputable def f_law : List AV -> S -> R AV := fnR 12 b_law
def top (i : Nat) : Stmt := PySem.Challenge.pw_royaltree_k10_stretches_of_units.main.body.getD i (.Pass ⟨0, 0, 0, 0⟩)
set_option hygiene false in
local macro_rules | `(tactic| walk_at "q") => `(tactic| first
 | ((with_reducible show PE _ _ (tE _ _ (mv _))); exact me_v (pv _))
 | ((with_reducible show PA _ (_ :: _) _); refine pa_cons' ?_ ?_ <;> walk_at "q")
 | ((with_reducible exact pa_nil'))
 | ((with_reducible exact me_int))
 | ((with_reducible exact me_str))
 | ((with_reducible exact me_non))
 | ((with_reducible exact me_bl))
 | ((with_reducible show (_ : Nat) <= _); first | decide | omega)
 | ((with_reducible show PE _ _ (tE _ _ (mBin opAdd _ _))); refine me_bin (oAdd rfl) ?_ ?_ <;> walk_at "q")
 | ((with_reducible show PE _ _ (tE _ _ (mBin opSub _ _))); refine me_bin (oSub) ?_ ?_ <;> walk_at "q")
 | ((with_reducible show PE _ _ (tE _ _ (mBin opMul _ _))); refine me_bin (oMul) ?_ ?_ <;> walk_at "q")
 | ((with_reducible show PE _ _ (tE _ _ (mBin opFdiv _ _))); refine me_bin (oFdiv) ?_ ?_ <;> walk_at "q")
 | ((with_reducible show PE _ _ (tE _ _ (mBin opMod _ _))); refine me_bin (oMod) ?_ ?_ <;> walk_at "q")
 | ((with_reducible show PE _ _ (tE _ _ (mBin opPow _ _))); refine me_bin (oPow) ?_ ?_ <;> walk_at "q")
 | ((with_reducible show PE _ _ (tE _ _ (mCall _ _ _))); refine me_F (by with_reducible assumption : Fk P w T mg base _ _ _ _) (hr.mono ?_) ?_ <;> walk_at "q")
 | ((with_reducible show PE _ _ (tE _ _ (mBin opIx _ _))); refine me_ix (oIx rfl) ?_ ?_ <;> walk_at "q")
 | ((with_reducible show PE _ _ (tE _ _ (mBin opDget _ _))); refine me_dget hu1 ?_ ?_ <;> walk_at "q")
 | ((with_reducible show PE _ _ (tE _ _ (mTup _))); refine me_tup ?_ <;> walk_at "q")
 | ((with_reducible show PE _ _ (tE _ _ (mNew _))); refine me_new ?_ <;> walk_at "q")
 | ((with_reducible show PE _ _ (tL _ _ (lLst _))); refine ml_lst ?_ <;> walk_at "q")
 | ((with_reducible show PE _ _ (tE _ _ (mBin opEq _ _))); refine me_cmp (oEq rfl hu) ?_ ?_ <;> walk_at "q")
 | ((with_reducible show PE _ _ (tE _ _ (mBin opNe _ _))); refine me_cmp (oNe rfl hu) ?_ ?_ <;> walk_at "q")
 | ((with_reducible show PE _ _ (tE _ _ (mBin opLt _ _))); refine me_cmp (oLt) ?_ ?_ <;> walk_at "q")
 | ((with_reducible show PE _ _ (tE _ _ (mBin opGt _ _))); refine me_cmp (oGt) ?_ ?_ <;> walk_at "q")
 | ((with_reducible show PE _ _ (tE _ _ (mBin opGe _ _))); refine me_cmp (oGe) ?_ ?_ <;> walk_at "q")
 | ((with_reducible show PE _ _ (tE _ _ (mBin opIsN _ _))); refine me_cmp (oIsN) ?_ ?_ <;> walk_at "q")
 | ((with_reducible show PE _ _ (tE _ _ (mBin opIsntN _ _))); refine me_cmp (oIsntN) ?_ ?_ <;> walk_at "q")
 | ((with_reducible show PT _ _ (tC' _ _ (cB (mBin opEq _ _)))); refine pt_cmp' (oEq rfl hu) ?_ ?_ <;> walk_at "q")
 | ((with_reducible show PT _ _ (tC' _ _ (cB (mBin opNe _ _)))); refine pt_cmp' (oNe rfl hu) ?_ ?_ <;> walk_at "q")
 | ((with_reducible show PT _ _ (tC' _ _ (cB (mBin opLt _ _)))); refine pt_cmp' (oLt) ?_ ?_ <;> walk_at "q")
 | ((with_reducible show PT _ _ (tC' _ _ (cB (mBin opGt _ _)))); refine pt_cmp' (oGt) ?_ ?_ <;> walk_at "q")
 | ((with_reducible show PT _ _ (tC' _ _ (cB (mBin opGe _ _)))); refine pt_cmp' (oGe) ?_ ?_ <;> walk_at "q")
 | ((with_reducible show PT _ _ (tC' _ _ (cB (mBin opIsN _ _)))); refine pt_cmp' (oIsN) ?_ ?_ <;> walk_at "q")
 | ((with_reducible show PT _ _ (tC' _ _ (cB (mBin opIsntN _ _)))); refine pt_cmp' (oIsntN) ?_ ?_ <;> walk_at "q")
 | ((with_reducible show PT _ _ (tC' _ _ (cB (mChain opLt opLt _ _ _)))); refine pt_chain' oLt oLt ?_ ?_ ?_ <;> walk_at "q")
 | ((with_reducible refine pt_gc ?_) <;> walk_at "q")
 | ((with_reducible refine pt_not' ?_) <;> walk_at "q")
 | ((with_reducible refine PW.pt (pw_and' ?_ ?_)) <;> walk_at "q")
 | ((with_reducible refine PW.pt (pw_or' ?_ ?_)) <;> walk_at "q")
 | ((with_reducible refine pw_and' ?_ ?_) <;> walk_at "q")
 | ((with_reducible refine pw_or' ?_ ?_) <;> walk_at "q")
 | ((with_reducible refine pw_and1' ?_) <;> walk_at "q")
 | ((with_reducible refine pw_or1' ?_) <;> walk_at "q")
 | ((with_reducible show PT _ _ (tC' _ _ (cT _))); refine pt_t rfl ?_ <;> walk_at "q")
 | ((with_reducible refine me_not ?_) <;> walk_at "q")
 | ((with_reducible show PE _ _ (tE _ _ (mUn opNeg _))); refine me_un oNeg ?_ <;> walk_at "q")
 | ((with_reducible refine me_and ?_ ?_) <;> walk_at "q")
 | ((with_reducible show PE _ _ (tE _ _ (mIf _ _ _))); refine me_if ?_ ?_ ?_ <;> walk_at "q")
 | ((with_reducible show PE _ _ (tE _ _ (mDisp _))); (with_reducible refine me_disp ?hh ?ha ?hb ?hc ?hd); (case ha => rfl); (case hb => rfl); (case hc => exact List.cons_ne_nil _ _); (case hd => decide); walk_at "q")
 | ((with_reducible refine mps_cons ?_ ?_ ?_) <;> walk_at "q")
 | ((with_reducible exact mps_nil))
 | ((with_reducible show PE _ _ (tE _ _ (mSl _ _ _))); refine me_sl rfl ?_ ?_ ?_ <;> walk_at "q")
 | ((with_reducible exact po_none'))
 | ((with_reducible refine po_some' ?_) <;> walk_at "q")
 | ((with_reducible refine me_gc ?_) <;> walk_at "q")
 | ((with_reducible refine me_gcM ?_) <;> walk_at "q")
 | ((with_reducible refine ml_take ?_) <;> walk_at "q")
 | ((with_reducible refine mq_its ?_) <;> walk_at "q")
 | ((with_reducible show PE _ _ (tL _ _ (gMet "str" opSplit _ _))); refine mg_met rfl PySem.F.plainAttrs_str PySem.F.slot_str_split PySem.F.type_str_split dSplit ?_ ?_ <;> walk_at "q")
 | ((with_reducible show PE _ _ (tE _ _ (mMet "list" opAppend _ _))); refine me_met rfl PySem.F.plainAttrs_list PySem.F.slot_list_append PySem.F.type_list_append dAppend ?_ ?_ <;> walk_at "q")
 | ((with_reducible show PE _ _ (tE _ _ (mMet "list" opPop _ _))); refine me_met rfl PySem.F.plainAttrs_list PySem.F.slot_list_pop PySem.F.type_list_pop dPop ?_ ?_ <;> walk_at "q")
 | ((with_reducible show PE _ _ (tE _ _ (mMet "list" opCount _ _))); refine me_met rfl PySem.F.plainAttrs_list PySem.F.slot_list_count PySem.F.type_list_count dCount ?_ ?_ <;> walk_at "q")
 | ((with_reducible show PE _ _ (tE _ _ (mOp opLen _))); refine me_B (cLen rfl) (by with_reducible assumption : mg _ = none) PySem.boot_len ?_ <;> walk_at "q")
 | ((with_reducible show PE _ _ (tE _ _ (mOp opAbs _))); refine me_B (cAbs) (by with_reducible assumption : mg _ = none) Ro.boot_abs ?_ <;> walk_at "q")
 | ((with_reducible show PE _ _ (tE _ _ (mOp opMin _))); refine me_B (cMin rfl) (by with_reducible assumption : mg _ = none) boot_min ?_ <;> walk_at "q")
 | ((with_reducible show PE _ _ (tE _ _ (mOp opMax _))); refine me_B (cMax rfl) (by with_reducible assumption : mg _ = none) boot_max ?_ <;> walk_at "q")
 | ((with_reducible show PE _ _ (tE _ _ (mOp opDivmod _))); refine me_B (cDivmod) (by with_reducible assumption : mg _ = none) Ro.boot_divmod ?_ <;> walk_at "q")
 | ((with_reducible show PE _ _ (tE _ _ (mOp opInt _))); refine me_T cInt (by with_reducible assumption : mg _ = none) Ro.boot_int ?_ <;> walk_at "q")
 | ((with_reducible show PE _ _ (tE _ _ (gOp qAll _))); refine mg_BL (cAll rfl) (by with_reducible assumption : mg _ = none) Ro.boot_all ?_ <;> walk_at "q")
 | ((with_reducible show PE _ _ (tL _ _ (gOp qList _))); refine mg_T (cList rfl) (by with_reducible assumption : mg _ = none) Ro.boot_list ?_ <;> walk_at "q")
 | ((with_reducible show PE _ _ (tE _ _ (gOp qTuple _))); refine mg_T (cTuple rfl) (by with_reducible assumption : mg _ = none) Ro.boot_tuple ?_ <;> walk_at "q")
 | ((with_reducible show PE _ _ (tE _ _ (mUn (opIsi _) _))); refine me_isi rfl (by decide) (by with_reducible assumption : mg _ = none) (by with_reducible assumption : mg _ = none) (by first | exact Ro.boot_int | exact Ro.boot_bool | exact Ro.boot_list | exact Ro.boot_tuple | exact Ro.boot_str) ?_ <;> walk_at "q")
 | ((with_reducible show PE _ _ (tL _ _ (lComp _ _ _ _ _))); refine ml_comp _ (CompScope.of rfl (by decide +kernel) (by decide +kernel) (by decide +kernel) (by repeat (first | exact trivial | refine ⟨⟨rfl, rfl, by first | exact .inl rfl | exact .inr rfl⟩, ?_⟩))) rfl ?_ (fun _ _ _ _ _ => ?_) (fun _ _ _ _ _ => ?_) (fun _ _ _ _ _ => ?_) <;> walk_at "q")
 | ((with_reducible show PI _ _ _ (tWG _ _ (srcV' _))); refine mi_vG rfl ?_ <;> walk_at "q")
 | ((with_reducible show PE _ _ (tL _ _ (gSetN _))); refine ml_setN (by with_reducible assumption : mg _ = none) (by with_reducible assumption : mg _ = none) ?_ <;> walk_at "q")
 | ((with_reducible show PE _ _ (tL _ _ (gSetV _))); refine ml_setV (by with_reducible assumption : mg _ = none) (by with_reducible assumption : mg _ = none) ?_ <;> walk_at "q")
 | ((with_reducible show PE _ _ (tL _ _ (gSetC _ _ _ _ _))); refine ml_setC (by with_reducible assumption : mg _ = none) _ (CompScope.of rfl (by decide +kernel) (by decide +kernel) (by decide +kernel) (by repeat (first | exact trivial | refine ⟨⟨rfl, rfl, by first | exact .inl rfl | exact .inr rfl⟩, ?_⟩))) rfl ?_ (fun _ _ _ _ _ => ?_) (fun _ _ _ _ _ => ?_) (fun _ _ _ _ _ => ?_) <;> walk_at "q")
 | ((with_reducible exact pif_nil'))
 | ((with_reducible refine pif_one' ?_) <;> walk_at "q")
 | ((with_reducible refine mq_new ?_) <;> walk_at "q")
 | ((with_reducible show PI _ _ _ (tW _ _ (srcR (pCons _ pNil)))); refine mi_r1 (by with_reducible assumption : mg _ = none) ?_ <;> walk_at "q")
 | ((with_reducible show PI _ _ _ (tW _ _ (srcZ _ _))); refine mi_zip rfl (by with_reducible assumption : mg _ = none) ?_ ?_ <;> walk_at "q")
 | ((with_reducible show PI _ _ _ (tW _ _ (srcL _))); refine mi_l rfl ?_ <;> walk_at "q")
 | ((with_reducible show PI _ _ _ (tW _ _ (srcV' _))); refine mi_v rfl ?_ <;> walk_at "q")
 | ((with_reducible show PG _ _ (tT _ _ (gN _))); exact mg_name (by first | exact nd | (show List.Nodup (_ :: _); decide +kernel)))
 | ((with_reducible show PG _ _ (tT _ _ (gT _ _))); refine mg_tup rfl rfl ?_ <;> walk_at "q")
 | ((with_reducible show PG _ _ (tT _ _ (gSubL _ _))); refine mg_subL ?_ ?_ <;> walk_at "q")
 | ((with_reducible show PGs _ (_ :: _) _); refine mgs_cons ?_ ?_ <;> walk_at "q")
 | ((with_reducible exact mgs_nil))
 | ((with_reducible exact on_name))
 | ((with_reducible exact on_nil))
 | ((with_reducible exact on_subL))
 | ((with_reducible refine on_cons ?_ ?_) <;> walk_at "q")
 | ((with_reducible refine on_tup ?_) <;> walk_at "q")
 | ((with_reducible show PS _ _ (tS _ _ (sSet _ (mNew (lComp _ _ _ _ _))))); refine ms_setComp _ (CompScope.of rfl (by decide +kernel) (by decide +kernel) (by decide +kernel) (by repeat (first | exact trivial | refine ⟨⟨rfl, rfl, by first | exact .inl rfl | exact .inr rfl⟩, ?_⟩))) rfl nd ?_ (fun _ _ _ _ _ => ?_) (fun _ _ _ _ _ => ?_) (fun _ _ _ _ _ => ?_) <;> walk_at "q")
 | ((with_reducible show PS _ _ (tS _ _ (sSet _ (mNew (lComp2 _ _ _ _ _ _ _ _))))); refine ms_setComp2 _ (CompScope.of rfl (by decide +kernel) (by decide +kernel) (by decide +kernel) (by repeat (first | exact trivial | refine ⟨⟨rfl, rfl, by first | exact .inl rfl | exact .inr rfl⟩, ?_⟩))) rfl nd ?_ (fun _ _ _ _ _ => ?_) (fun _ _ _ _ _ => ?_) (fun _ _ _ _ _ => ?_) (fun _ _ _ _ _ => ?_) (fun _ _ _ _ _ => ?_) (fun _ _ _ _ _ => ?_) <;> walk_at "q")
 | ((with_reducible show PS _ _ (tS _ _ (sSet _ (mDisp _)))); (with_reducible refine ms_setD ?hN ?_ ?hi ?hx ?hf); (case hN => exact nd); (case hi => rfl); (case hx => exact Or.inl rfl); (case hf => exact Or.inl rfl); walk_at "q")
 | ((with_reducible show PS _ _ (tS _ _ (sSet _ _))); refine ms_set nd ?_ <;> walk_at "q")
 | ((with_reducible show PS _ _ (tS _ _ (sRet _))); refine ms_ret ?_ <;> walk_at "q")
 | ((with_reducible show PS _ _ (tS _ _ (sIf _ _ _))); refine ms_if ?_ ?_ ?_ <;> walk_at "q")
 | ((with_reducible show PS _ _ (tS _ _ (sExpr _))); refine ms_expr ?_ <;> walk_at "q")
 | ((with_reducible show PS _ _ (tS _ _ (sFor _ _ _))); refine ms_for PassesOwn.never rfl ?_ ?_ ?_ <;> walk_at "q")
 | ((with_reducible show PS _ _ (tS _ _ (sPar _ _ _))); refine ms_par rfl nd ?_ <;> walk_at "q")
 | ((with_reducible show PS _ _ (tS _ _ (sAsg _ _))); refine ms_asg ?_ ?_ ?_ <;> walk_at "q")
 | ((with_reducible show PS _ _ (tS _ _ (sDput _ _ _))); refine ms_dput hu1 ?_ ?_ ?_ <;> walk_at "q")
 | ((with_reducible show PS _ _ (tS _ _ (sWhl _ _ _))); refine ms_whl _ PassesOwn.never ?_ ?_ <;> walk_at "q")
 | ((with_reducible show PSs _ _ (tS _ _ (sSeq _ _))); refine mss_cons ?_ ?_ <;> walk_at "q")
 | ((with_reducible show PSs _ _ (tS _ _ sSkip)); exact mss_nil)
 | (refine mss_one ?_ <;> walk_at "q"))
local macro_rules | `(tactic| walk_at "b") => `(tactic| (intro _ _ _ _ _ _ us hl; first
 | (match us, hl with | [], _ => rfl) | (match us, hl with | [_], _ => rfl) | (match us, hl with | [_, _], _ => rfl) | (match us, hl with | [_, _, _], _ => rfl) | (match us, hl with | [_, _, _, _], _ => rfl)
 | (match us, hl with | [_, _, _, _, _], _ => rfl) | (match us, hl with | [_, _, _, _, _, _], _ => rfl)))
set_option hygiene false in
local macro_rules | `(tactic| walk_at "g") => `(tactic| (intro hr nd; have hu1 := hu_of hr; have hu := hu30 hr; walk_at "q"))
section
variable {P : Program} {w : World} {T : Tx} {mg : Str -> Option Value} {base : Heap}
variable (z_abs : mg "abs" = none)
variable (z_all : mg "all" = none)
variable (z_bool : mg "bool" = none)
variable (z_divmod : mg "divmod" = none)
variable (z_int : mg "int" = none)
variable (z_isinstance : mg "isinstance" = none)
variable (z_len : mg "len" = none)
variable (z_list : mg "list" = none)
variable (z_max : mg "max" = none)
variable (z_min : mg "min" = none)
variable (z_range : mg "range" = none)
variable (z_set : mg "set" = none)
variable (z_sorted : mg "sorted" = none)
variable (z_str : mg "str" = none)
variable (z_tuple : mg "tuple" = none)
variable (z_zip : mg "zip" = none)
variable (h_unit_stretches : Fk P w T mg base "unit_stretches" 3 1 f_unit_stretches)
variable (h__law_begin : Fk P w T mg base "_law_begin" 1 1 f__law_begin)
variable (h__law_take : Fk P w T mg base "_law_take" 2 1 f__law_take)
variable (h__law_same : Fk P w T mg base "_law_same" 2 10 (f__law_same 9))
variable (h__law_lowest : Fk P w T mg base "_law_lowest" 2 1 f__law_lowest)
variable (h__law_names : Fk P w T mg base "_law_names" 2 2 f__law_names)
variable (h__law_part : Fk P w T mg base "_law_part" 1 2 f__law_part)
variable (h__law_row : Fk P w T mg base "_law_row" 3 3 f__law_row)
variable (h__law_rows : Fk P w T mg base "_law_rows" 3 4 f__law_rows)
variable (h__law_some_rows : Fk P w T mg base "_law_some_rows" 1 5 f__law_some_rows)
variable (h__law_stepped : Fk P w T mg base "_law_stepped" 1 3 f__law_stepped)
variable (h__law_uptos : Fk P w T mg base "_law_uptos" 1 1 f__law_uptos)
variable (h__law_due : Fk P w T mg base "_law_due" 3 2 f__law_due)
include z_sorted z_zip in
theorem ok_unit_stretches (_ : Df T mg "unit_stretches" (top 1)) : Fk P w T mg base "unit_stretches" 3 1 f_unit_stretches := by
  unfold f_unit_stretches b_unit_stretches
  refine fk_of ["rows", "first", "many", "behind", "uptos", "cuts"] (by with_reducible assumption) ⟨rfl, rfl, rfl, by decide +kernel, rfl, by decide +kernel, by decide +kernel⟩ (by walk_at "b") rfl fun _ _ _ _ _ _ _ => ?_
  walk_at "g"
include z_list in
theorem ok__law_begin (_ : Df T mg "_law_begin" (top 3)) : Fk P w T mg base "_law_begin" 1 1 f__law_begin := by
  unfold f__law_begin b__law_begin
  refine fk_of ["_law_script", "_law_cells"] (by with_reducible assumption) ⟨rfl, rfl, rfl, by decide +kernel, rfl, by decide +kernel, by decide +kernel⟩ (by walk_at "b") rfl fun _ _ _ _ _ _ _ => ?_
  walk_at "g"
include z_divmod z_len in
theorem ok__law_take (_ : Df T mg "_law_take" (top 4)) : Fk P w T mg base "_law_take" 2 1 f__law_take := by
  unfold f__law_take b__law_take
  refine fk_of ["_law_state", "_law_many", "_law_turn", "_law_place", "_law_cell", "_law_mixed", "_law_digit"] (by with_reducible assumption) ⟨rfl, rfl, rfl, by decide +kernel, rfl, by decide +kernel, by decide +kernel⟩ (by walk_at "b") rfl fun _ _ _ _ _ _ _ => ?_
  walk_at "g"
include z_all z_bool z_int z_isinstance z_len z_list z_str z_tuple z_zip in
theorem ok__law_same (_ : Df T mg "_law_same" (top 5)) : ∀ n : Nat, Fk P w T mg base "_law_same" 2 (n + 1) (f__law_same n) := by
  intro n; induction n with
  | zero => exact fk_bad ["_law_found", "_law_due_here"] (by with_reducible assumption) rfl (by walk_at "b")
  | succ n ih =>
    unfold f__law_same b__law_same
    refine fk_of (k := n + 1) ["_law_found", "_law_due_here"] (by with_reducible assumption) ⟨rfl, rfl, rfl, by decide +kernel, rfl, by decide +kernel, by decide +kernel⟩ (by walk_at "b") rfl fun _ _ _ _ _ _ _ => ?_
    walk_at "g"
include z_abs in
theorem ok__law_lowest (_ : Df T mg "_law_lowest" (top 6)) : Fk P w T mg base "_law_lowest" 2 1 f__law_lowest := by
  unfold f__law_lowest b__law_lowest
  refine fk_of ["_law_top", "_law_below", "_law_sign", "_law_one", "_law_other"] (by with_reducible assumption) ⟨rfl, rfl, rfl, by decide +kernel, rfl, by decide +kernel, by decide +kernel⟩ (by walk_at "b") rfl fun _ _ _ _ _ _ _ => ?_
  walk_at "g"
include z_len z_range h__law_take in
theorem ok__law_names (_ : Df T mg "_law_names" (top 7)) : Fk P w T mg base "_law_names" 2 2 f__law_names := by
  unfold f__law_names b__law_names
  refine fk_of ["_law_state", "_law_many", "_law_some"] (by with_reducible assumption) ⟨rfl, rfl, rfl, by decide +kernel, rfl, by decide +kernel, by decide +kernel⟩ (by walk_at "b") rfl fun _ _ _ _ _ _ _ => ?_
  walk_at "g"
include h__law_take h__law_lowest in
theorem ok__law_part (_ : Df T mg "_law_part" (top 8)) : Fk P w T mg base "_law_part" 1 2 f__law_part := by
  unfold f__law_part b__law_part
  refine fk_of ["_law_state", "_law_below"] (by with_reducible assumption) ⟨rfl, rfl, rfl, by decide +kernel, rfl, by decide +kernel, by decide +kernel⟩ (by walk_at "b") rfl fun _ _ _ _ _ _ _ => ?_
  walk_at "g"
include z_min z_range z_tuple h__law_take h__law_lowest h__law_part in
theorem ok__law_row (_ : Df T mg "_law_row" (top 9)) : Fk P w T mg base "_law_row" 3 3 f__law_row := by
  unfold f__law_row b__law_row
  refine fk_of ["_law_state", "_law_name", "_law_room", "_law_way", "_law_most", "_law_rates", "_law_upto", "_law_turn"] (by with_reducible assumption) ⟨rfl, rfl, rfl, by decide +kernel, rfl, by decide +kernel, by decide +kernel⟩ (by walk_at "b") rfl fun _ _ _ _ _ _ _ => ?_
  walk_at "g"
include z_int z_len z_range z_tuple h__law_take h__law_row in
theorem ok__law_rows (_ : Df T mg "_law_rows" (top 10)) : Fk P w T mg base "_law_rows" 3 4 f__law_rows := by
  unfold f__law_rows b__law_rows
  refine fk_of ["_law_state", "_law_names_here", "_law_many", "_law_room", "_law_found", "_law_turn", "_law_row_here", "_law_taken"] (by with_reducible assumption) ⟨rfl, rfl, rfl, by decide +kernel, rfl, by decide +kernel, by decide +kernel⟩ (by walk_at "b") rfl fun _ _ _ _ _ _ _ => ?_
  walk_at "g"
include z_int h__law_take h__law_names h__law_rows in
theorem ok__law_some_rows (_ : Df T mg "_law_some_rows" (top 11)) : Fk P w T mg base "_law_some_rows" 1 5 f__law_some_rows := by
  unfold f__law_some_rows b__law_some_rows
  refine fk_of ["_law_state", "_law_many"] (by with_reducible assumption) ⟨rfl, rfl, rfl, by decide +kernel, rfl, by decide +kernel, by decide +kernel⟩ (by walk_at "b") rfl fun _ _ _ _ _ _ _ => ?_
  walk_at "g"
include z_range z_set z_sorted z_tuple h__law_take h__law_lowest h__law_names in
theorem ok__law_stepped (_ : Df T mg "_law_stepped" (top 12)) : Fk P w T mg base "_law_stepped" 1 3 f__law_stepped := by
  unfold f__law_stepped b__law_stepped
  refine fk_of ["_law_state", "_law_rows_here", "_law_turn", "_law_far", "_law_uptos_here", "_law_rates"] (by with_reducible assumption) ⟨rfl, rfl, rfl, by decide +kernel, rfl, by decide +kernel, by decide +kernel⟩ (by walk_at "b") rfl fun _ _ _ _ _ _ _ => ?_
  walk_at "g"
include z_set z_sorted in
theorem ok__law_uptos (_ : Df T mg "_law_uptos" (top 13)) : Fk P w T mg base "_law_uptos" 1 1 f__law_uptos := by
  unfold f__law_uptos b__law_uptos
  refine fk_of ["_law_rows_here", "_law_found", "_law_row_here"] (by with_reducible assumption) ⟨rfl, rfl, rfl, by decide +kernel, rfl, by decide +kernel, by decide +kernel⟩ (by walk_at "b") rfl fun _ _ _ _ _ _ _ => ?_
  walk_at "g"
include z_zip h__law_uptos in
theorem ok__law_due (_ : Df T mg "_law_due" (top 14)) : Fk P w T mg base "_law_due" 3 2 f__law_due := by
  unfold f__law_due b__law_due
  refine fk_of ["_law_rows_here", "_law_first", "_law_many", "_law_inner", "_law_spots"] (by with_reducible assumption) ⟨rfl, rfl, rfl, by decide +kernel, rfl, by decide +kernel, by decide +kernel⟩ (by walk_at "b") rfl fun _ _ _ _ _ _ _ => ?_
  walk_at "g"
include z_len z_max z_range h_unit_stretches h__law_begin h__law_take h__law_same h__law_some_rows h__law_stepped h__law_uptos h__law_due in
theorem ok_law {f : Addr} {fd : FuncData} (F : Fun T.K "law" "law" (top 15) f fd) : FnOk P w T.K mg base CX0 11 f fd ["_law_script"] (spOf T 1 f_law) := by
  unfold f_law b_law
  have S : FnScope ["_law_script", "_law_state", "_law_turn", "_law_rows_here", "_law_uptos_here", "_law_again", "_law_near", "_law_first", "_law_end", "_law_many", "_law_due_here", "_law_found"] ["_law_script"] (defScope (top 15)) := ⟨rfl, rfl, rfl, by decide +kernel, rfl, by decide +kernel, by decide +kernel⟩
  refine fn_ok (k := 10) F S fun _ _ _ _ _ _ hr => ?_
  have nd := S.nd
  revert nd hr
  walk_at "g"
end
theorem all_ok {P : Program} {w : World} {T : Tx} {mg : Str -> Option Value} {base : Heap} (z_abs : mg "abs" = none) (z_all : mg "all" = none) (z_bool : mg "bool" = none) (z_divmod : mg "divmod" = none) (z_int : mg "int" = none) (z_isinstance : mg "isinstance" = none) (z_len : mg "len" = none) (z_list : mg "list" = none) (z_max : mg "max" = none) (z_min : mg "min" = none) (z_range : mg "range" = none) (z_set : mg "set" = none) (z_sorted : mg "sorted" = none) (z_str : mg "str" = none) (z_tuple : mg "tuple" = none) (z_zip : mg "zip" = none) (d0 : Df T mg "unit_stretches" (top 1)) (d1 : Df T mg "_law_begin" (top 3)) (d2 : Df T mg "_law_take" (top 4)) (d3 : Df T mg "_law_same" (top 5)) (d4 : Df T mg "_law_lowest" (top 6)) (d5 : Df T mg "_law_names" (top 7)) (d6 : Df T mg "_law_part" (top 8)) (d7 : Df T mg "_law_row" (top 9)) (d8 : Df T mg "_law_rows" (top 10)) (d9 : Df T mg "_law_some_rows" (top 11)) (d10 : Df T mg "_law_stepped" (top 12)) (d11 : Df T mg "_law_uptos" (top 13)) (d12 : Df T mg "_law_due" (top 14)) (d13 : Df T mg "law" (top 15)) {f : Addr} {fd : FuncData} (F : Fun T.K "law" "law" (top 15) f fd) :
    FnOk P w T.K mg base CX0 11 f fd ["_law_script"] (spOf T 1 f_law) := by
  have h_unit_stretches := ok_unit_stretches (P := P) (w := w) (base := base) z_sorted z_zip d0
  have h__law_begin := ok__law_begin (P := P) (w := w) (base := base) z_list d1
  have h__law_take := ok__law_take (P := P) (w := w) (base := base) z_divmod z_len d2
  have h__law_same := ok__law_same (P := P) (w := w) (base := base) z_all z_bool z_int z_isinstance z_len z_list z_str z_tuple z_zip d3 9
  have h__law_lowest := ok__law_lowest (P := P) (w := w) (base := base) z_abs d4
  have h__law_names := ok__law_names (P := P) (w := w) (base := base) z_len z_range h__law_take d5
  have h__law_part := ok__law_part (P := P) (w := w) (base := base) h__law_take h__law_lowest d6
  have h__law_row := ok__law_row (P := P) (w := w) (base := base) z_min z_range z_tuple h__law_take h__law_lowest h__law_part d7
  have h__law_rows := ok__law_rows (P := P) (w := w) (base := base) z_int z_len z_range z_tuple h__law_take h__law_row d8
  have h__law_some_rows := ok__law_some_rows (P := P) (w := w) (base := base) z_int h__law_take h__law_names h__law_rows d9
  have h__law_stepped := ok__law_stepped (P := P) (w := w) (base := base) z_range z_set z_sorted z_tuple h__law_take h__law_lowest h__law_names d10
  have h__law_uptos := ok__law_uptos (P := P) (w := w) (base := base) z_set z_sorted d11
  have h__law_due := ok__law_due (P := P) (w := w) (base := base) z_zip h__law_uptos d12
  exact ok_law z_len z_max z_range h_unit_stretches h__law_begin h__law_take h__law_same h__law_some_rows h__law_stepped h__law_uptos h__law_due F
theorem fin_mk {l : PySem.W.OpenLaw} {w : World} {K : PySem.W.Frag} {h : Heap} {mg : Str -> Option Value} {fa : Addr} (X : K.In h) (G : h.Ns mainGlobals mg) (hfa : mg "law" = some (.ref fa)) (z_abs : PySem.W.nsIn K mainGlobals "abs" = some none) (z_all : PySem.W.nsIn K mainGlobals "all" = some none) (z_bool : PySem.W.nsIn K mainGlobals "bool" = some none) (z_divmod : PySem.W.nsIn K mainGlobals "divmod" = some none) (z_int : PySem.W.nsIn K mainGlobals "int" = some none) (z_isinstance : PySem.W.nsIn K mainGlobals "isinstance" = some none) (z_len : PySem.W.nsIn K mainGlobals "len" = some none) (z_list : PySem.W.nsIn K mainGlobals "list" = some none) (z_max : PySem.W.nsIn K mainGlobals "max" = some none) (z_min : PySem.W.nsIn K mainGlobals "min" = some none) (z_range : PySem.W.nsIn K mainGlobals "range" = some none) (z_set : PySem.W.nsIn K mainGlobals "set" = some none) (z_sorted : PySem.W.nsIn K mainGlobals "sorted" = some none) (z_str : PySem.W.nsIn K mainGlobals "str" = some none) (z_tuple : PySem.W.nsIn K mainGlobals "tuple" = some none) (z_zip : PySem.W.nsIn K mainGlobals "zip" = some none) (d0 : Df (TK K) mg "unit_stretches" (top 1)) (d1 : Df (TK K) mg "_law_begin" (top 3)) (d2 : Df (TK K) mg "_law_take" (top 4)) (d3 : Df (TK K) mg "_law_same" (top 5)) (d4 : Df (TK K) mg "_law_lowest" (top 6)) (d5 : Df (TK K) mg "_law_names" (top 7)) (d6 : Df (TK K) mg "_law_part" (top 8)) (d7 : Df (TK K) mg "_law_row" (top 9)) (d8 : Df (TK K) mg "_law_rows" (top 10)) (d9 : Df (TK K) mg "_law_some_rows" (top 11)) (d10 : Df (TK K) mg "_law_stepped" (top 12)) (d11 : Df (TK K) mg "_law_uptos" (top 13)) (d12 : Df (TK K) mg "_law_due" (top 14)) (d13 : Df (TK K) mg "law" (top 15)) : ∃ fd : FuncData, (∀ (s : Shared) (v : Value), BindsTo s fd ⟨[v], []⟩ [("_law_script", v)]) /\ ∀ base : Heap, K.In base -> base.Ns mainGlobals mg -> FnOk l.prog w K mg base CX0 11 fa fd ["_law_script"] (spOf (TK K) 1 f_law) :=
  fin_of (h := h) hfa d13 (fun _ _ _ _ _ _ _ _ => .of_eq rfl) fun base f fd F => all_ok (PySem.W.mg_none_of X G z_abs) (PySem.W.mg_none_of X G z_all) (PySem.W.mg_none_of X G z_bool) (PySem.W.mg_none_of X G z_divmod) (PySem.W.mg_none_of X G z_int) (PySem.W.mg_none_of X G z_isinstance) (PySem.W.mg_none_of X G z_len) (PySem.W.mg_none_of X G z_list) (PySem.W.mg_none_of X G z_max) (PySem.W.mg_none_of X G z_min) (PySem.W.mg_none_of X G z_range) (PySem.W.mg_none_of X G z_set) (PySem.W.mg_none_of X G z_sorted) (PySem.W.mg_none_of X G z_str) (PySem.W.mg_none_of X G z_tuple) (PySem.W.mg_none_of X G z_zip) d0 d1 d2 d3 d4 d5 d6 d7 d8 d9 d10 d11 d12 d13 F
end Ro
namespace Ro
open PySem L2
end Ro
namespace L2
open PySem PySem.Spec PyProof.Rows
end L2
namespace Ro
open PySem L2
end Ro
namespace Ro
open PySem L2
abbrev Fs := List (Int × Int)
def den : Fs -> Int
  | [] => 1
  | f :: r => f.2 * den r
def num : Fs -> Int
  | [] => 0
  | f :: r => f.1 * den r + f.2 * num r
def Pos1 (fs : Fs) : Prop := ∀ f ∈ fs, 1 <= f.2
theorem den_pos : ∀ {fs : Fs}, Pos1 fs -> 1 <= den fs
  | [], _ => by decide
  | f :: r, h => by
    have h1 : 1 <= f.2 := h f List.mem_cons_self
    have h2 := den_pos (fs := r) fun g hg => h g (List.mem_cons_of_mem _ hg)
    show 1 <= f.2 * den r
    have := Int.mul_pos (show 0 < f.2 by omega) (show 0 < den r by omega)
    omega
end Ro
namespace Ro
open PySem L2
abbrev ig (a b : Int) : Int := ((Int.gcd a b : Nat) : Int)
end Ro
namespace Ro
open PySem L2 Mm
def fq (q : Rat) : AV := .tup [.int q.num, .int q.den]
theorem rat_cop (q : Rat) : Int.gcd q.num (q.den : Int) = 1 := q.reduced
theorem rat_den (q : Rat) : (1 : Int) <= (q.den : Int) := by have := q.den_pos; omega
theorem fr_rat {t b : Int} (h : b ≠ 0) : fr t b = ((Rat.divInt t b).num, ((Rat.divInt t b).den : Int)) := by
  refine fr_uniq h (rat_den _) (rat_cop _) ?_
  have e := Rat.num_divInt_den (Rat.divInt t b)
  have := (Rat.divInt_eq_divInt_iff (by have := (Rat.divInt t b).den_pos; omega) h).mp e
  exact this
structure Sz (n : Nat) (q : Rat) : Prop where
  a : Fit n q.num
  b : Fit n (q.den : Int)
theorem fr_sz {t b : Int} {n : Nat} (h : b ≠ 0) (ft : Fit n t) (fb : Fit n b) : Sz n (Rat.divInt t b) := by
  have e := fr_rat (t := t) h
  have e1 : (fr t b).1 = (Rat.divInt t b).num := by rw [e]
  have e2 : (fr t b).2 = ((Rat.divInt t b).den : Int) := by rw [e]
  have g := gsg_ne (t := t) h
  refine ⟨?_, ?_⟩
  · rw [← e1]
    have h1 := fr_l t b
    refine ft.le ?_
    have : t.natAbs = (fr t b).1.natAbs * (gsg t b).natAbs := by rw [← Int.natAbs_mul, h1]
    rw [this]
    exact Nat.le_mul_of_pos_right _ (by omega)
  · rw [← e2]
    have h1 := fr_r t b
    refine fb.le ?_
    have : b.natAbs = (fr t b).2.natAbs * (gsg t b).natAbs := by rw [← Int.natAbs_mul, h1]
    rw [this]
    exact Nat.le_mul_of_pos_right _ (by omega)
theorem big_of {n : Nat} {i : Int} (h : Fit n i) (k : n <= 60000000) : Big i := ⟨h.mono k⟩
theorem mid_of {n : Nat} {i : Int} (h : Fit n i) (k : n <= 9000) : Mid i := ⟨h.mono k⟩
theorem fmod_nn {x y : Int} (hx : 0 <= x) (hy : 0 < y) : 0 <= x.fmod y /\ x.fmod y < y := by
  rw [Int.fmod_eq_emod_of_nonneg _ (by omega)]
  exact ⟨Int.emod_nonneg _ (by omega), Int.emod_lt_of_pos _ hy⟩
theorem ig_fmod {x y : Int} (hy : 0 < y) : ig y (x.fmod y) = ig x y := by
  rw [Int.fmod_eq_emod_of_nonneg _ (by omega)]
  show ((Int.gcd y (x % y) : Nat) : Int) = ((Int.gcd x y : Nat) : Int)
  congr 1
  rw [Int.gcd_comm]
  have h1 := Int.emod_def x y
  rw [h1, Int.gcd_sub_mul_left_left]
theorem ig_abs (a b : Int) : ig (if a < 0 then -a else a) (if b < 0 then -b else b) = ig a b := by
  show ((Int.gcd _ _ : Nat) : Int) = ((Int.gcd a b : Nat) : Int)
  congr 1
  split <;> split <;> simp [Int.gcd_neg, Int.neg_gcd]
theorem ig_ne {a b : Int} (h : b ≠ 0) : ig a b ≠ 0 := by have := gcd_pos (t := a) h; show ((Int.gcd a b : Nat) : Int) ≠ 0; omega
theorem fit_ig_r {a b : Int} {n : Nat} (h : b ≠ 0) (f : Fit n b) : Fit n (ig a b) := f.le (by
  show ((Int.gcd a b : Nat) : Int).natAbs <= _
  rw [Int.natAbs_natCast]
  exact Nat.le_of_dvd (by omega) (Int.gcd_dvd_natAbs_right a b))
def sumQ : List Rat -> Rat
  | [] => 0
  | q :: r => q + sumQ r
inductive Wlk (s : S) : AV -> List AV -> Gd -> Prop
  | tup (xs : List AV) : Wlk s (.tup xs) xs []
  | ref {i : Nat} {xs : List AV} (h : lstO s i = some xs) : Wlk s (.ref i) xs [(i, xs)]
theorem Wlk.src {s : S} {v : AV} {xs : List AV} {gs : Gd} (h : Wlk s v xs gs) : walkO v s = .ok (xs, gs) s := by
  cases h with
  | tup => rfl
  | ref h => show need (lstO s _) _ = _; rw [h]; rfl
inductive Rw where
  | of (n : Str) (q : Rat) | steps (n : Str) (us : List (Int × Rat)) (z : Rat) | left (n : Str) (q : Rat) | len (n : Str) (k : Int)
def stE (p : Int × Rat) : AV := .tup [.int p.1, fq p.2]
def rv : Rw -> AV
  | .of n q => .tup [.str "of", .str n, fq q]
  | .steps n us z => .tup [.str "steps", .str n, .tup (us.map stE ++ [.tup [.non, fq z]])]
  | .left n q => .tup [.str "left", .str n, fq q]
  | .len n k => .tup [.str "length", .str n, .int k]
def stAt (u : Int) (z : Rat) : List (Int × Rat) -> Rat
  | [] => z
  | p :: r => if u < p.1 then p.2 else stAt u z r
def wholeSh (u : Int) : List Rw -> List (Str × Rat)
  | [] => []
  | .of n q :: r => (n, q) :: wholeSh u r
  | .steps n us z :: r => (n, stAt u z us) :: wholeSh u r
  | .left _ _ :: r => wholeSh u r
  | .len _ _ :: r => wholeSh u r
theorem SD : ((("steps" : Str) = "of") = False) /\ ((("left" : Str) = "of") = False) /\ ((("length" : Str) = "of") = False) /\
    ((("of" : Str) = "steps") = False) /\ ((("left" : Str) = "steps") = False) /\ ((("length" : Str) = "steps") = False) /\
    ((("of" : Str) = "left") = False) /\ ((("steps" : Str) = "left") = False) /\ ((("length" : Str) = "left") = False) /\
    ((("of" : Str) = "length") = False) /\ ((("steps" : Str) = "length") = False) /\ ((("left" : Str) = "length") = False) := by
  refine ⟨?_, ?_, ?_, ?_, ?_, ?_, ?_, ?_, ?_, ?_, ?_, ?_⟩ <;> exact eq_false (by decide +kernel)
theorem cutA_last {α : Type} (xs : List α) (z : α) : cutA (xs ++ [z]) none (some (-1)) = xs := by
  unfold cutA
  have h1 : HT.sIx (xs ++ [z]).length 0 none = 0 := rfl
  have h2 : HT.sIx (xs ++ [z]).length (xs ++ [z]).length (some (-1)) = xs.length := by
    unfold HT.sIx
    simp
    try omega
  rw [h1, h2]
  simp
theorem lst_new (s : S) (xs : List AV) : lstO (s ++ [.lst xs]) s.length = some xs := by
  unfold lstO; simp
theorem set_new (s : S) (a b : AO) : (s ++ [a]).set s.length b = s ++ [b] := by simp
theorem append_new {s : S} {xs : List AV} {v : AV} (h : xs.length < sizeLine) : opAppend (.ref s.length) [v] (s ++ [.lst xs]) = .ok .non (s ++ [.lst (xs ++ [v])]) := by
  unfold opAppend
  simp only [lst_new, need_some, if_pos h, set_new]
theorem isL_new (s : S) (xs : List AV) : (isTy "list" (.ref s.length) (s ++ [.lst xs])).isSome = true := by
  show ((lstO (s ++ [.lst xs]) s.length).map fun _ => ()).isSome = true
  rw [lst_new]; rfl
theorem intsO_map : ∀ l : List Int, intsO (l.map AV.int) = some l
  | [] => rfl
  | i :: r => by show (intsO (r.map AV.int)).map (i :: ·) = _; rw [intsO_map r]; rfl
theorem gok1 {s : S} {i : Nat} {xs : List AV} (h : lstO s i = some xs) : gOk [(i, xs)] s := by
  intro p hp; cases hp with
  | head => exact h
  | tail _ hp => cases hp
end Ro
namespace Mm
open PySem L2
mutual
theorem AV.low.mono {b c : Nat} (h : b <= c) : ∀ {v : AV}, v.low b = true -> v.low c = true
  | .ref i, k => by simp only [AV.low, decide_eq_true_eq] at k ⊢; omega
  | .tup xs, k => by simp only [AV.low] at k ⊢; exact lowL.mono h k
  | .sq xs, k => by simp only [AV.low] at k ⊢; exact lowL.mono h k
  | .non, _ => by simp only [AV.low]
  | .bl _, _ => by simp only [AV.low]
  | .int _, _ => by simp only [AV.low]
  | .str _, _ => by simp only [AV.low]
theorem lowL.mono {b c : Nat} (h : b <= c) : ∀ {l : List AV}, lowL b l = true -> lowL c l = true
  | [], _ => by simp only [lowL]
  | v :: r, k => by
    simp only [lowL, Bool.and_eq_true] at k ⊢
    exact ⟨AV.low.mono h k.1, lowL.mono h k.2⟩
end
theorem AO.low.mono {b c : Nat} (h : b <= c) {o : AO} (k : o.low b = true) : o.low c = true := by
  cases o <;> first | exact lowL.mono h k | rfl
def Cl (s : S) : Prop := s.all (AO.low s.length) = true
theorem Cl.add {s e : S} (h : Cl s) (k : e.all (AO.low (s.length + e.length)) = true) : Cl (s ++ e) := by
  unfold Cl at *
  rw [List.all_append, List.length_append, k, Bool.and_true]
  rw [List.all_eq_true] at h ⊢
  exact fun o ho => AO.low.mono (by omega) (h o ho)
theorem Cl.set {s : S} {i : Nat} {o : AO} (h : Cl s) (k : o.low s.length = true) : Cl (s.set i o) := by
  unfold Cl at *
  rw [List.length_set]
  rw [List.all_eq_true] at h ⊢
  intro x hx
  rcases List.mem_or_eq_of_mem_set hx with hx | rfl
  · exact h x hx
  · exact k
theorem lstO_app {s e : S} {k : Nat} {xs : List AV} (h : lstO s k = some xs) : lstO (s ++ e) k = some xs := by
  have := lstO_inv h
  refine lstO_of ?_
  have hk : k < s.length := (List.getElem?_eq_some_iff.mp this).1
  rw [List.getElem?_append_left hk]; exact this
theorem lst_at (s e : S) (k : Nat) : lstO (s ++ e) (s.length + k) = lstO e k := by
  unfold lstO
  rw [List.getElem?_append_right (by omega), show s.length + k - s.length = k by omega]
theorem cat_eq {st : S} {i j : Nat} {xs ys : List AV} (h1 : lstO st i = some xs) (h2 : lstO st j = some ys) (hl : xs.length + ys.length <= sizeLine) : opAdd (.ref i) (.ref j) st = .ok (.ref st.length) (st ++ [.lst (xs ++ ys)]) := by
  show (need (lstO st i) fun xs => need (lstO st j) fun ys => if xs.length + ys.length <= sizeLine then R.ok (AV.ref st.length) (st ++ [.lst (xs ++ ys)]) else .bad) = _
  rw [h1, need_some, h2, need_some, if_pos hl]
end Mm
namespace Ro
open PySem L2 Mm
theorem low_fq (b : Nat) (q : Rat) : (fq q).low b = true := by simp [fq, AV.low, lowL]
end Ro
namespace Mm
open PySem L2
end Mm
namespace Ro
open PySem L2 Mm
theorem low_loop (A B C : Option AV) : ∀ (n : Nat) (x y : Int) (s : S), 0 <= x -> 0 <= y -> y.natAbs < n ->
    whl (cB (mBin opGt (mv 4) (mc (.int 0)))) (sPar 3 4 (pCons (mv 4) (pCons (mBin opMod (mv 3) (mv 4)) pNil))) n [A, B, C, some (.int x), some (.int y)] s = .nx [A, B, C, some (.int (ig x y)), some (.int 0)] s
  | 0, _, _, _, _, _, h => absurd h (Nat.not_lt_zero _)
  | n + 1, x, y, s, hx, hy, h => by
    unfold whl
    have e : cB (mBin opGt (mv 4) (mc (.int 0))) [A, B, C, some (.int x), some (.int y)] s = .ok (decide (0 < y)) s := rfl
    rw [e, bindS_ok]
    by_cases h0 : y = 0
    · subst h0
      rw [if_neg (by simp)]
      rw [show ig x 0 = x by show ((Int.gcd x 0 : Nat) : Int) = x; rw [Int.gcd_zero_right]; omega]
    · have hy1 : 0 < y := by omega
      obtain ⟨m1, m2⟩ := fmod_nn hx hy1
      rw [if_pos (by simpa using hy1)]
      have e2 : sPar 3 4 (pCons (mv 4) (pCons (mBin opMod (mv 3) (mv 4)) pNil)) [A, B, C, some (.int x), some (.int y)] s = .nx [A, B, C, some (.int y), some (.int (x.fmod y))] s := by
        have e3 : opMod (.int x) (.int y) s = .ok (.int (x.fmod y)) s := if_pos h0
        show ((opMod (.int x) (.int y) s).bind _ |>.bind _).bindS _ = _
        rw [e3]; rfl
      rw [e2]
      show whl _ _ n _ s = _
      rw [low_loop A B C n y (x.fmod y) s hy m1 (by omega), ig_fmod hy1]
theorem fuelL_eq (A B C X : Option AV) (y : Int) : fuelL [A, B, C, X, some (.int y)] = y.natAbs + 1 := rfl
theorem lowest_eq {a b : Int} (s : S) (h : b ≠ 0) (fb : Fit 9000 b) (fa : Fit 60000000 a) : f__law_lowest [.int a, .int b] s = .ok (fq (Rat.divInt a b)) s := by
  have e := (low_fr a b h).trans (fr_rat (t := a) h)
  have e1 : ((if b < 0 then -1 else 1) * a).fdiv (ig a b) = (Rat.divInt a b).num := congrArg Prod.fst e
  have e2 : ((if b < 0 then -1 else 1) * b).fdiv (ig a b) = ((Rat.divInt a b).den : Int) := congrArg Prod.snd e
  have g := ig_ne (a := a) h
  have fg : Mid (ig a b) := mid_of (fit_ig_r h fb) (Nat.le_refl _)
  have bs : ∀ c : Prop, [Decidable c] -> Big (if c then -1 else 1) := fun c _ => by
    split
    · exact big_of (n := 1) (by show (-1 : Int).natAbs < 2 ^ 1; decide) (by decide)
    · exact big_of (n := 1) (by show (1 : Int).natAbs < 2 ^ 1; decide) (by decide)
  have bb : Big b := ⟨fb.mono (by decide)⟩
  have ba : Big a := ⟨fa⟩
  apply R.wp.eq
  unfold f__law_lowest b__law_lowest
  simp only [↓WS, ↓WE, ↓WV, Lq, len_sz, UU, Nat.reduceSub, ↓reduceIte, ↓wp_whl, fuelL_eq]
  rw [wpeS (low_loop _ _ _ _ _ _ s (by split <;> omega) (by split <;> omega) (Nat.lt_succ_self _)), ig_abs]
  walk_at "w"
  by_cases c : b < 0
  · simp only [c, if_true] at e1 e2 ⊢
    have b1 := bs True
    rw [if_pos trivial] at b1
    refine ⟨⟨b1, ba⟩, ⟨g, fg⟩, ⟨b1, bb⟩, ⟨g, fg⟩, ?_⟩
    rw [e1, e2]; rfl
  · simp only [c, if_false] at e1 e2 ⊢
    have b1 := bs False
    rw [if_neg (fun z => z)] at b1
    refine ⟨⟨b1, ba⟩, ⟨g, fg⟩, ⟨b1, bb⟩, ⟨g, fg⟩, ?_⟩
    rw [e1, e2]; rfl
end Ro
namespace Mm
open PySem L2
theorem wp_gCons (a : Mt) (r : Mts) (v : AV) (w : List AV) (env : En) (s : S) (N : En -> S -> Prop) (T : AV -> S -> Prop) : (gCons' a r (v :: w) env s).wp N T = (a v env s).wp (fun e s1 => (r w e s1).wp N T) T := by
  show (match a v env s with | .nx e s1 => r w e s1 | q => q).wp N _ = _
  cases a v env s <;> rfl
theorem wp_gSubL (o i : Ev) (v : AV) (env : En) (s : S) (N : En -> S -> Prop) (T : AV -> S -> Prop) : (gSubL o i v env s).wp N T = (o env s).wp fun a s1 => (i env s1).wp fun b s2 => (match a, b with
  | .ref k, .int j => match lstO s2 k with
    | some xs => match ixN xs.length j with
      | some n => RS.nx env (s2.set k (.lst (xs.set n v)))
      | none => .bad
    | none => .bad
  | _, _ => .bad).wp N T := by
  unfold gSubL; rw [wp_bindS]; congr 1; funext a s1; rw [wp_bindS]
  try rfl
end Mm
namespace Ro
open PySem L2 Mm
theorem kneA : ¬ ((.inr "cells" : Key) = .inr "turn") := fun z => kne (Sum.inr.inj z)
def drD (c : Nat) (t : Int) : List (Key × AV) := [(.inr "cells", .ref c), (.inr "turn", .int t)]
theorem dr_cells (c : Nat) (t : Int) : valA (drD c t) (.inr "cells") = some (.ref c) := if_pos rfl
theorem dr_turn (c : Nat) (t : Int) : valA (drD c t) (.inr "turn") = some (.int t) := by
  unfold drD valA
  rw [if_neg kneA]
  exact if_pos rfl
theorem dr_put (c : Nat) (t u : Int) : putA (drD c t) (.inr "turn") (.int u) = drD c u := by
  unfold putA drD
  rw [if_pos (by simp)]
  simp only [List.map_cons, List.map_nil, if_neg kneA, if_true]
structure Dr (c d n : Nat) (s : S) : Prop where
  ex : ∃ (t : Int) (cells : List Int), s[d]? = some (.dK (drD c t)) /\ s[c]? = some (.lst (cells.map AV.int)) /\ cells ≠ [] /\ 0 <= t /\ t <= n
  cl : Cl s
structure Kp (c d : Nat) (s s' : S) : Prop where
  len : s'.length = s.length
  get : ∀ i, i ≠ c -> i ≠ d -> s'[i]? = s[i]?
theorem Kp.refl (c d : Nat) (s : S) : Kp c d s s := ⟨rfl, fun _ _ _ => rfl⟩
theorem Kp.trans {c d : Nat} {s s' s'' : S} (h : Kp c d s s') (k : Kp c d s' s'') : Kp c d s s'' := ⟨k.len.trans h.len, fun i h1 h2 => (k.get i h1 h2).trans (h.get i h1 h2)⟩
theorem Dr.mono {c d n m : Nat} {s : S} (h : Dr c d n s) (k : n <= m) : Dr c d m s := by
  obtain ⟨⟨t, cells, h1, h2, h3, h4, h5⟩, cl⟩ := h
  exact ⟨⟨t, cells, h1, h2, h3, h4, by omega⟩, cl⟩
theorem Dr.ne {c d n : Nat} {s : S} (h : Dr c d n s) : c ≠ d := by
  obtain ⟨⟨t, cells, h1, h2, _⟩, _⟩ := h
  rintro rfl
  rw [h1] at h2; cases h2
theorem Dr.ltc {c d n : Nat} {s : S} (h : Dr c d n s) : c < s.length := by
  obtain ⟨⟨t, cells, h1, h2, _⟩, _⟩ := h
  exact (List.getElem?_eq_some_iff.mp h2).1
theorem Dr.ltd {c d n : Nat} {s : S} (h : Dr c d n s) : d < s.length := by
  obtain ⟨⟨t, cells, h1, h2, _⟩, _⟩ := h
  exact (List.getElem?_eq_some_iff.mp h1).1
theorem Dr.app {c d n : Nat} {s e : S} (h : Dr c d n s) (k : Cl (s ++ e)) : Dr c d n (s ++ e) := by
  have l1 := h.ltc
  have l2 := h.ltd
  obtain ⟨⟨t, cells, h1, h2, h3⟩, cl⟩ := h
  exact ⟨⟨t, cells, by rw [List.getElem?_append_left l2]; exact h1, by rw [List.getElem?_append_left l1]; exact h2, h3⟩, k⟩
theorem Dr.set {c d n i : Nat} {s : S} {o : AO} (h : Dr c d n s) (h1 : i ≠ c) (h2 : i ≠ d) (k : o.low s.length = true) : Dr c d n (s.set i o) := by
  obtain ⟨⟨t, cells, k1, k2, k3⟩, cl⟩ := h
  exact ⟨⟨t, cells, by rw [List.getElem?_set_ne h2]; exact k1, by rw [List.getElem?_set_ne h1]; exact k2, k3⟩, cl.set k⟩
theorem low_ints (b : Nat) : ∀ l : List Int, lowL b (l.map AV.int) = true
  | [] => by simp [lowL]
  | i :: r => by simp only [List.map_cons, lowL, low_ints b r]; simp [AV.low]
theorem fitm {x m : Int} (h : 0 < m) (k : m <= 2147483648) : Fit 31 (x.fmod m) := by
  have h1 := Int.fmod_nonneg_of_pos x h
  have h2 := Int.fmod_lt_of_pos x h
  exact fit_of_lt (by omega) (by omega)
theorem fitI {n : Nat} {i : Int} (h : 0 <= i) (k : i < 2 ^ n) : Fit n i := fit_of_lt (by omega) k
theorem take_wp {c d n : Nat} {s : S} (D : Dr c d n s) (hn : n <= 1000000000) {k : Int} (hk : 0 < k) (fk : Fit 9000 k) :
    (f__law_take [.ref d, .int k] s).wp fun v s' => ∃ r, v = .int r /\ 0 <= r /\ r < k /\ Dr c d (n + 1) s' /\ Kp c d s s' := by
  have lc := D.ltc
  have ld := D.ltd
  have ne := D.ne
  obtain ⟨⟨t, cells, h1, h2, h3, h4, h5⟩, cl⟩ := D
  have e0 : dKO s d = some (drD c t) := by unfold dKO; rw [h1]
  have g1 : opDget (.ref d) (.str "turn") s = .ok (.int t) s := by
    show (need (dKO s d) fun kvs => need (keyO (.str "turn")) fun k => need (valA kvs k) fun v => R.ok v s) = _
    rw [e0, need_some]
    rw [show keyO (.str "turn") = some (.inr "turn") from rfl, need_some, dr_turn]; rfl
  let s1 := s.set d (.dK (drD c (t + 1)))
  have p1 : ∀ env, putD (.int (t + 1)) (.ref d) (.str "turn") env s = .nx env s1 := fun env => by
    show (match dKO s d, keyO (.str "turn") with
      | some kvs, some k => if kvs.length < sizeLine then RS.nx env (s.set d (.dK (putA kvs k (.int (t + 1))))) else .bad
      | _, _ => .bad) = _
    rw [e0]
    show (if (drD c t).length < sizeLine then RS.nx env (s.set d (.dK (putA (drD c t) (.inr "turn") (.int (t + 1))))) else .bad) = _
    rw [if_pos (small1000 (by show (2 : Nat) <= 1000; omega)), dr_put]
  have e1 : s1[d]? = some (.dK (drD c (t + 1))) := List.getElem?_set_self ld
  have e2 : s1[c]? = some (.lst (cells.map AV.int)) := by show (s.set d _)[c]? = _; rw [List.getElem?_set_ne (Ne.symm ne)]; exact h2
  have l1 : lstO s1 c = some (cells.map AV.int) := lstO_of e2
  have cl1 : Cl s1 := cl.set (by simp [AO.low, drD, lowL, AV.low, lc])
  have kp1 : Kp c d s s1 := ⟨List.length_set, fun i _ hi => List.getElem?_set_ne (Ne.symm hi)⟩
  have g2 : opDget (.ref d) (.str "cells") s1 = .ok (.ref c) s1 := by
    show (need (dKO s1 d) fun kvs => need (keyO (.str "cells")) fun k => need (valA kvs k) fun v => R.ok v s1) = _
    rw [show dKO s1 d = some (drD c (t + 1)) by unfold dKO; rw [e1], need_some]
    rw [show keyO (.str "cells") = some (.inr "cells") from rfl, need_some, dr_cells]; rfl
  have hl0 : 0 < cells.length := List.length_pos_iff.mpr h3
  have lenE : opLen [.ref c] s1 = .ok (.int cells.length) s1 := by
    show (need (lstO s1 c) fun xs => R.ok (AV.int xs.length) s1) = _
    rw [l1, need_some, List.length_map]
  have hl1 : (0 : Int) < cells.length := by omega
  have j0 := Int.fmod_nonneg_of_pos (t + 1) hl1
  have j1 := Int.fmod_lt_of_pos (t + 1) hl1
  obtain ⟨j, ej⟩ : ∃ j : Nat, (t + 1).fmod cells.length = j := ⟨((t + 1).fmod cells.length).toNat, by omega⟩
  have hj : j < cells.length := by omega
  have ix : atI (cells.map AV.int) (j : Int) = some (.int cells[j]) := atI_nat (by rw [List.getElem?_map, List.getElem?_eq_getElem hj]; rfl)
  have ixn : ixN (cells.map AV.int).length (j : Int) = some j := by
    unfold ixN
    rw [List.length_map, if_pos (by omega), if_pos (by omega)]; rfl
  unfold f__law_take b__law_take
  have gE : opIx (.ref c) (.int j) s1 = .ok (.int cells[j]) s1 := by
    show (need (lstO s1 c) fun xs => need (atI xs j) fun v => R.ok v s1) = _
    rw [l1, need_some, ix]; rfl
  have hpow : (10 : Int) ^ (18 : Int).toNat = 1000000000000000000 := pw18
  have T1 : Fit 31 (t + 1) := fitI (by omega) (by omega)
  simp only [↓WS, ↓WE, ↓WV, Lq, len_sz, UU, Nat.reduceSub, ↓reduceIte, ↓wpe g1, ↓wpeS (p1 _), ↓wpe g2, ↓wpe lenE, ej, ↓wpe gE, hpow]
  refine ⟨by omega, ⟨by omega, by omega, by decide⟩, ?_⟩
  split
  · simp only [↓WS, ↓WE, ↓WV, Lq, len_sz, UU, Nat.reduceSub, ↓reduceIte, ↓wp_gCons, ↓wp_gSubL, ↓wpe g2, l1, ixn]
    refine ⟨⟨hk, ⟨fk⟩⟩, _, rfl, Int.emod_nonneg _ (by omega), Int.emod_lt_of_pos _ hk, ⟨⟨t + 1, cells.set j (cells[j] / k), ?_, ?_, ?_, by omega, by omega⟩, ?_⟩, ?_⟩
    · rw [List.getElem?_set_ne ne]; exact e1
    · rw [List.getElem?_set_self (by show c < s1.length; rw [kp1.len]; exact lc), List.map_set]
    · intro z
      have := congrArg List.length z
      rw [List.length_set, List.length_nil] at this; omega
    · refine cl1.set ?_
      rw [← List.map_set]
      exact low_ints _ _
    · exact ⟨by rw [List.length_set]; exact kp1.len, fun i q1 q2 => by rw [List.getElem?_set_ne (Ne.symm q1)]; exact kp1.get i q1 q2⟩
  · have F1 : Fit 31 (cells[j].fmod 2147483629) := fitm (by omega) (by omega)
    have c79 : Fit 13 (7919 : Int) := fitI (by omega) (by omega)
    have c48 : Fit 16 (48271 : Int) := fitI (by omega) (by omega)
    have c10 : Fit 17 (104729 : Int) := fitI (by omega) (by omega)
    have c39 : Fit 16 (39373 : Int) := fitI (by omega) (by omega)
    have F2 := T1.mul T1
    have F3 := F2.mul c79
    have F4 : Fit 76 (cells[j].fmod 2147483629 + (t + 1) * (t + 1) * 7919) := Fit.add (n := 75) (F1.mono (by omega)) (F3.mono (by omega))
    have F5 : Fit 77 (cells[j].fmod 2147483629 + (t + 1) * (t + 1) * 7919 + 11) := Fit.add F4 (fitI (by omega) (by omega))
    have F6 : ∀ x : Int, Fit 49 (x.fmod 2147483587 + (t + 1) * 104729) := fun x => Fit.add (n := 48) ((fitm (by omega) (by omega)).mono (by omega)) ((T1.mul c10).mono (by omega))
    have bg : ∀ {n : Nat} {i : Int}, Fit n i -> n <= 100 -> Big i := fun h k => big_of h (by omega)
    refine ⟨by decide, ⟨bg T1 (by omega), bg T1 (by omega)⟩, ⟨bg F2 (by omega), bg c79 (by omega)⟩, ⟨bg F5 (by omega), bg c48 (by omega)⟩, by decide, ⟨bg (fitm (by omega) (by omega)) (by omega), bg (fitm (by omega) (by omega)) (by omega)⟩, by decide, ⟨bg T1 (by omega), bg c10 (by omega)⟩, ⟨bg (F6 _) (by omega), bg c39 (by omega)⟩, by decide, ⟨by decide, mid_of (n := 7) (fitI (by omega) (by omega)) (by omega)⟩, by omega, _, rfl, Int.fmod_nonneg_of_pos _ hk, Int.fmod_lt_of_pos _ hk, ⟨⟨t + 1, cells, e1, e2, h3, by omega, by omega⟩, cl1⟩, kp1⟩
theorem flat_toD {s : S} {n : Nat} : ∀ {v : AV}, flatA v = true -> ∃ d, toD n s v = some d /\ d.dep = 0
  | .non, _ => ⟨.non, by unfold toD; rfl, by simp [Dt.dep]⟩
  | .bl b, _ => ⟨.bl b, by unfold toD; rfl, by simp [Dt.dep]⟩
  | .int b, _ => ⟨.int b, by unfold toD; rfl, by simp [Dt.dep]⟩
  | .str b, _ => ⟨.str b, by unfold toD; rfl, by simp [Dt.dep]⟩
theorem flats_toD {s : S} {n : Nat} : ∀ {l : List AV}, l.all flatA = true -> ∃ ds, l.mapM (toD n s) = some ds /\ ds.length = l.length /\ depL ds = 0
  | [], _ => ⟨[], rfl, rfl, by simp [depL]⟩
  | v :: r, h => by
    rw [List.all_cons, Bool.and_eq_true] at h
    obtain ⟨d, e1, e2⟩ := flat_toD (s := s) (n := n) h.1
    obtain ⟨ds, e3, e4, e5⟩ := flats_toD (s := s) (n := n) h.2
    exact ⟨d :: ds, by rw [List.mapM_cons, e1, e3]; rfl, by simp [e4], by simp [depL, e2, e5]⟩
theorem eqAV_nil {s : S} {i j : Nat} {xs : List AV} (h1 : lstO s i = some xs) (h2 : lstO s j = some []) (hf : xs.all flatA = true) : eqAV s (.ref i) (.ref j) = some xs.isEmpty := by
  obtain ⟨ds, e1, e2, e3⟩ := flats_toD (s := s) (n := 19) hf
  have t1 : toD 20 s (.ref i) = some (.lst ds) := by
    simp only [toD, h1, Option.bind_some, e1, Option.map_some]
  have t2 : toD 20 s (.ref j) = some (.lst []) := by
    simp only [toD, h2, Option.bind_some, List.mapM_nil]; rfl
  unfold eqAV
  simp only
  rw [t1, t2]
  dsimp only
  rw [if_pos (by omega)]
  congr 1
  cases xs with
  | nil => cases ds with
    | nil => simp [eqDL]
    | cons => cases e2
  | cons => cases ds with
    | nil => cases e2
    | cons => simp [eqDL]
theorem flat_ints : ∀ l : List Int, (l.map AV.int).all flatA = true
  | [] => rfl
  | i :: r => by rw [List.map_cons, List.all_cons, flat_ints r]; rfl
theorem begin_wp (ns : List Int) : (f__law_begin [.sq (ns.map AV.int)] []).wp fun v s' => ∃ c d, v = .ref d /\ Dr c d 0 s' := by
  obtain ⟨ms, em⟩ : ∃ ms : List Int, cutA (ns.map AV.int) none (some 63) = ms.map AV.int := by
    refine ⟨cutA ns none (some 63), ?_⟩
    unfold cutA; rw [List.length_map, ← List.map_drop, ← List.map_take]
  have e1 : opSl (.sq (ns.map AV.int)) none (some 63) [] = .ok (.ref 0) [.lst (ms.map AV.int)] := by
    show R.ok _ ([] ++ [AO.lst (cutA (ns.map AV.int) none (some 63))]) = _
    rw [em]; rfl
  have e2 : items (.ref 0) [.lst (ms.map AV.int)] = some (ms.map AV.int) := rfl
  have e3 : opEq (.ref 1) (.ref 2) [.lst (ms.map AV.int), .lst (ms.map AV.int), .lst []] = .ok (.bl (ms.map AV.int).isEmpty) [.lst (ms.map AV.int), .lst (ms.map AV.int), .lst []] := by
    unfold opEq; rw [eqAV_nil (xs := ms.map AV.int) rfl rfl (flat_ints ms)]; rfl
  have ed : ∀ (env : En) (s : S) (k : Nat) (x : Option AV), mDisp [((mc (.str "cells")), (mv 1)), ((mc (.str "turn")), (mc (.int 0)))] [x, some (.ref k)] s = .ok (.ref s.length) (s ++ [.dK (drD k 0)]) := by
    intro env s k x
    unfold mDisp prs prs prs
    simp only [mc, mv, bind_ok, Lq, keysO, keyO, Option.bind_some, Option.map_some, need_some]
    rw [if_pos (by show (2 : Nat) <= 15; omega)]
    congr 1
  unfold f__law_begin b__law_begin
  simp only [↓WS, ↓WE, ↓WV, Lq, len_sz, UU, Nat.reduceSub, ↓reduceIte, ↓wpe e1, e2, qList, List.length_cons, List.length_nil, Nat.reduceAdd, List.cons_append, List.nil_append, ↓wpe e3, List.take_succ_cons, List.take_zero, Nat.zero_le, show (1 <= sizeLine) = True from eq_true (szl (by omega))]
  cases ms with
  | nil =>
    simp only [List.map_nil, List.isEmpty_nil, if_true, ↓wpe (ed [] _ _ _)]
    refine ⟨2, _, rfl, ⟨⟨0, [7], rfl, rfl, by simp, by omega, by omega⟩, rfl⟩⟩
  | cons m r =>
    simp only [List.map_cons, List.isEmpty_cons, Bool.false_eq_true, if_false, ↓wpe (ed [] _ _ _)]
    refine ⟨1, _, rfl, ⟨⟨0, m :: r, rfl, rfl, by simp, by omega, by omega⟩, ?_⟩⟩
    simp [Cl, AO.low, lowL, AV.low, low_ints, drD]
theorem fit9 {k : Int} (h : 0 < k) (l : k < 1048576) : Fit 9000 k := (fitI (n := 20) (by omega) (by omega)).mono (by omega)
theorem wp_srcR (m : Ev) (env : En) (s : S) (Q : List AV × Gd -> S -> Prop) : (srcR (pCons m pNil) env s).wp Q = (m env s).wp fun v s1 => match v with | .int j => (-(2 ^ 62) <= j /\ j < 2 ^ 62) /\ Q (rngA 0 j.toNat, []) s1 | _ => False := by
  unfold srcR pCons pNil
  simp only [wp_bind, wp_ok]
  congr 1
  funext v s1
  cases v <;> first | rfl | exact wp_if _ _ _
structure Gk (c d : Nat) (s s' : S) : Prop where
  len : s.length <= s'.length
  get : ∀ i, i < s.length -> i ≠ c -> i ≠ d -> s'[i]? = s[i]?
theorem Kp.gk {c d : Nat} {s s' : S} (h : Kp c d s s') : Gk c d s s' := ⟨by rw [h.len]; exact Nat.le_refl _, fun i _ h1 h2 => h.get i h1 h2⟩
theorem Gk.app (c d : Nat) (s e : S) : Gk c d s (s ++ e) := ⟨by simp, fun i hi _ _ => List.getElem?_append_left hi⟩
theorem Gk.trans {c d : Nat} {s s' s'' : S} (h : Gk c d s s') (k : Gk c d s' s'') : Gk c d s s'' := ⟨Nat.le_trans h.len k.len, fun i hi h1 h2 => (k.get i (Nat.lt_of_lt_of_le hi h.len) h1 h2).trans (h.get i hi h1 h2)⟩
theorem Gk.lst {c d n i : Nat} {s s' : S} {xs : List AV} (h : Gk c d s s') (h1 : i ≠ c) (h2 : i ≠ d) (k : lstO s i = some xs) : lstO s' i = some xs := by
  have e := lstO_inv k
  exact lstO_of ((h.get i (List.getElem?_eq_some_iff.mp e).1 h1 h2).trans e)
theorem Gk.set {c d i : Nat} {s s' : S} {o : AO} (h : Gk c d s s') (hi : s.length <= i) : Gk c d s (s'.set i o) := ⟨by rw [List.length_set]; exact h.len, fun j hj h1 h2 => by rw [List.getElem?_set_ne (by omega)]; exact h.get j hj h1 h2⟩
theorem Gk.cut {c d n m : Nat} {s s' : S} (h : Gk c d s s') (D : Dr c d n s) (D' : Dr c d m s') : Dr c d m (s'.take s.length) /\ Kp c d s (s'.take s.length) /\ (s'.take s.length).all (AO.low s.length) = true := by
  have lc := D.ltc
  have ld := D.ltd
  have el : (s'.take s.length).length = s.length := by rw [List.length_take]; have := h.len; omega
  have eg : ∀ i, i < s.length -> (s'.take s.length)[i]? = s'[i]? := fun i hi => List.getElem?_take_of_lt hi
  have cl := D.cl
  obtain ⟨⟨t, cells, h1, h2, h3, h4, h5⟩, cl'⟩ := D'
  have all : (s'.take s.length).all (AO.low s.length) = true := by
    rw [List.all_eq_true]
    intro o ho
    obtain ⟨i, hi, e⟩ := List.mem_iff_getElem.mp ho
    rw [el] at hi
    have e' : (s'.take s.length)[i]? = some o := by rw [List.getElem?_eq_getElem (by rw [el]; exact hi)]; rw [e]
    rw [eg i hi] at e'
    by_cases c1 : i = c
    · subst c1; rw [h2] at e'; cases e'; exact low_ints _ _
    by_cases c2 : i = d
    · subst c2; rw [h1] at e'; cases e'; simp [AO.low, drD, lowL, AV.low, lc]
    rw [h.get i hi c1 c2] at e'
    have := List.all_eq_true.mp (show s.all (AO.low s.length) = true from cl) o (List.mem_of_getElem? e')
    exact this
  refine ⟨⟨⟨t, cells, by rw [eg d ld]; exact h1, by rw [eg c lc]; exact h2, h3, h4, h5⟩, ?_⟩, ⟨el, fun i c1 c2 => ?_⟩, all⟩
  · unfold Cl; rw [el]; exact all
  · by_cases hi : i < s.length
    · rw [eg i hi]; exact h.get i hi c1 c2
    · rw [List.getElem?_eq_none (by rw [el]; omega), List.getElem?_eq_none (by omega)]
theorem ix_at {s : S} {i : Nat} {xs : List AV} {j : Int} (h : lstO s i = some xs) (h0 : 0 <= j) (h1 : j < xs.length) : ∃ v, v ∈ xs /\ opIx (.ref i) (.int j) s = .ok v s := by
  obtain ⟨n, rfl⟩ : ∃ n : Nat, j = n := ⟨j.toNat, by omega⟩
  have hn : n < xs.length := by omega
  refine ⟨xs[n], List.getElem_mem hn, ?_⟩
  show (need (lstO s i) fun xs => need (atI xs n) fun v => R.ok v s) = _
  rw [h, need_some, atI_nat (List.getElem?_eq_getElem hn)]; rfl
theorem sz6 {j b : Int} (h1 : 0 <= j) (h2 : j <= 60) (h3 : 0 < b) (h4 : b <= 60) : Sz 6 (Rat.divInt j b) := fr_sz (by omega) (fitI (by omega) (by omega)) (fitI (by omega) (by omega))
theorem div_nn {j b : Int} (h1 : 0 <= j) (h3 : 0 < b) : 0 <= Rat.divInt j b := (Rat.divInt_nonneg_iff_of_pos_right h3).mpr h1
theorem div_add {a c b : Int} (h : b ≠ 0) : Rat.divInt a b + Rat.divInt c b = Rat.divInt (a + c) b := by
  rw [Rat.divInt_add_divInt _ _ h h, ← Int.add_mul, Rat.divInt_mul_right h]
theorem div_le1 {j b : Int} (h1 : j <= b) (h3 : 0 < b) : Rat.divInt j b <= 1 := by
  have : 0 <= Rat.divInt (b - j) b := div_nn (by omega) h3
  have e : Rat.divInt (b - j) b + Rat.divInt j b = 1 := by
    rw [div_add (by omega), show b - j + j = b by omega, Rat.divInt_self' (by omega)]
  grind
theorem lowest60 {a b : Int} (s : S) (h1 : 0 <= a) (h2 : a <= 1000) (h3 : 0 < b) (h4 : b <= 1000) : f__law_lowest [.int a, .int b] s = .ok (fq (Rat.divInt a b)) s := lowest_eq s (by omega) ((fitI (n := 20) (by omega) (by omega)).mono (by omega)) ((fitI (n := 20) (by omega) (by omega)).mono (by omega))
theorem part_wp {c d n : Nat} {s : S} (D : Dr c d n s) (hn : n <= 900001000) : (f__law_part [.ref d] s).wp fun v s' => ∃ q, v = fq q /\ 0 <= q /\ q <= 1 /\ Sz 6 q /\ Dr c d (n + 3) s' /\ Kp c d s s' := by
  unfold f__law_part b__law_part
  walk_at "w"
  refine (take_wp D (by omega) (by omega) (fit9 (by omega) (by omega))).mono ?_
  rintro _ s1 ⟨r, rfl, h0, h1, D1, K1⟩
  walk_at "w"
  have D1' := D1.app (e := [.lst [.int 2, .int 3, .int 4, .int 5, .int 10, .int (1 + r)]]) (D1.cl.add (by simp [AO.low, lowL, AV.low]))
  refine (take_wp D1' (by omega) (by omega) (fit9 (by omega) (by omega))).mono ?_
  rintro _ s2 ⟨j, rfl, j0, j1, D2, K2⟩
  obtain ⟨v, hv, ev⟩ := ix_at (s := s2) (i := s1.length) (j := j) (K2.gk.lst (n := 0) (by have := D1.ltc; omega) (by have := D1.ltd; omega) (lst_new s1 _)) j0 j1
  obtain ⟨b, rfl, b0, b1⟩ : ∃ b, v = .int b /\ 1 <= b /\ b <= 60 := by
    simp only [List.mem_cons, List.not_mem_nil, or_false] at hv
    rcases hv with rfl | rfl | rfl | rfl | rfl | rfl <;> exact ⟨_, rfl, by omega, by omega⟩
  have G := (K1.gk.trans (Gk.app c d s1 _)).trans K2.gk
  obtain ⟨D3, K3, al⟩ := G.cut D D2
  simp only [↓WS, ↓WE, ↓WV, Lq, len_sz, UU, Nat.reduceSub, ↓reduceIte, ↓wpe ev, al, show AV.low s.length (.int b) = true by simp [AV.low]]
  refine (take_wp D3 (by omega) (by omega) (fit9 (by omega) (by omega))).mono ?_
  rintro _ s3 ⟨i, rfl, i0, i1, D4, K4⟩
  simp only [↓WS, ↓WE, ↓WV, Lq, len_sz, UU, Nat.reduceSub, ↓reduceIte, ↓wpe (lowest60 (a := 1 + i) (b := b) _ (by omega) (by omega) (by omega) (by omega))]
  exact ⟨_, rfl, div_nn (by omega) (by omega), div_le1 (by omega) (by omega), sz6 (by omega) (by omega) (by omega) (by omega), D4, K3.trans K4⟩
def IsP (w : Int) (q : Rat) : Prop := ∃ j, 1 <= j /\ j <= w /\ q = Rat.divInt j 60
def RwOk (w : Int) : Rw -> Prop
  | .of _ q => 1 <= w /\ w <= 60 /\ IsP w q
  | .steps _ us z => 1 <= w /\ w <= 60 /\ us.length <= 3 /\ (∀ p ∈ us, IsP w p.2) /\ IsP w z
  | .left _ q => w = 0 /\ 0 <= q /\ q <= 1 /\ Sz 6 q
  | .len _ k => w = 0 /\ 1 <= k /\ k <= 1000
theorem low_st (b : Nat) : ∀ l : List (Int × Rat), lowL b (l.map stE) = true
  | [] => by simp [lowL]
  | p :: r => by simp only [List.map_cons, lowL, low_st b r]; simp [stE, fq, AV.low, lowL]
theorem lowL_app (b : Nat) : ∀ (l m : List AV), lowL b (l ++ m) = (lowL b l && lowL b m)
  | [], m => by simp [lowL]
  | v :: r, m => by rw [List.cons_append]; simp only [lowL, lowL_app b r m, Bool.and_assoc]
theorem low_rv (b : Nat) : ∀ r : Rw, (rv r).low b = true
  | .of n q => by simp [rv, AV.low, lowL, low_fq]
  | .left n q => by simp [rv, AV.low, lowL, low_fq]
  | .len n q => by simp [rv, AV.low, lowL]
  | .steps n us z => by simp [rv, AV.low, lowL, lowL_app, low_st, low_fq]
theorem pick_wp {c d n : Nat} {s : S} (D : Dr c d n s) (hn : n <= 900001000) {xs : List AV} {m : Int} (hm : m = xs.length) (hm0 : 0 < m) (hm1 : m <= 10) {P : Int -> Prop} (hx : ∀ v ∈ xs, ∃ b, v = .int b /\ P b) :
    (f__law_take [.ref d, .int m] (s ++ [.lst xs])).wp fun v s2 => ∃ b, opIx (.ref s.length) v s2 = .ok (.int b) s2 /\ P b /\ (s2.take s.length).all (AO.low s.length) = true /\ Dr c d (n + 1) (s2.take s.length) /\ Kp c d s (s2.take s.length) := by
  have lx : ∀ b, lowL b xs = true := fun b => by
    clear hm hm0 hm1
    induction xs with
    | nil => simp [lowL]
    | cons v r ih =>
      obtain ⟨i, rfl, _⟩ := hx v (.head _)
      simp only [lowL, ih fun v hv => hx v (.tail _ hv)]; simp [AV.low]
  have D1' := D.app (e := [.lst xs]) (D.cl.add (by simp [AO.low, lx]))
  refine (take_wp D1' (by omega) (by omega) (fit9 (by omega) (by omega))).mono ?_
  rintro _ s2 ⟨j, rfl, j0, j1, D2, K2⟩
  obtain ⟨v, hv, ev⟩ := ix_at (s := s2) (i := s.length) (j := j) (K2.gk.lst (n := 0) (by have := D.ltc; omega) (by have := D.ltd; omega) (lst_new s _)) j0 (by omega)
  obtain ⟨b, rfl, hb⟩ := hx v hv
  obtain ⟨D3, K3, al⟩ := ((Gk.app c d s _).trans K2.gk).cut D D2
  exact ⟨b, ev, hb, al, D3, K3⟩
theorem append_at {s : S} {i : Nat} {xs : List AV} {v : AV} (h : lstO s i = some xs) (hl : xs.length < sizeLine) : opAppend (.ref i) [v] s = .ok .non (s.set i (.lst (xs ++ [v]))) := by
  unfold opAppend
  simp only [h, need_some, if_pos hl]
theorem isL_at {s : S} {i : Nat} {xs : List AV} (h : lstO s i = some xs) : (isTy "list" (.ref i) s).isSome = true := by
  show ((lstO s i).map fun _ => ()).isSome = true
  rw [h]; rfl
theorem lst_set {s : S} {i : Nat} {xs ys : List AV} (h : lstO s i = some xs) : lstO (s.set i (.lst ys)) i = some ys := by
  refine lstO_of (List.getElem?_set_self ?_)
  exact (List.getElem?_eq_some_iff.mp (lstO_inv h)).1
theorem row_wp {c d n : Nat} {s : S} (D : Dr c d n s) (hn : n <= 900000000) (nm : Str) {room : Int} (r0 : 0 <= room) (r1 : room <= 60) : (f__law_row [.ref d, .str nm, .int room] s).wp fun v s' => ∃ r w, v = .tup [rv r, .int w] /\ RwOk w r /\ 0 <= w /\ w <= room /\ Dr c d (n + 20) s' /\ Gk c d s s' := by
  unfold f__law_row b__law_row
  walk_at "w"
  refine (take_wp D (by omega) (by omega) (fit9 (by omega) (by omega))).mono ?_
  rintro _ s1 ⟨k, rfl, k0, k1, D1, K1⟩
  walk_at "w"
  split
  · -- length
    rename_i c1
    have D1' := D1.app (e := [.lst [.int 5, .int 1000]]) (D1.cl.add (by simp [AO.low, lowL, AV.low]))
    refine (take_wp D1' (by omega) (by omega) (fit9 (by omega) (by omega))).mono ?_
    rintro _ s2 ⟨j, rfl, j0, j1, D2, K2⟩
    obtain ⟨v, hv, ev⟩ := ix_at (s := s2) (i := s1.length) (j := j) (K2.gk.lst (n := 0) (by have := D1.ltc; omega) (by have := D1.ltd; omega) (lst_new s1 _)) j0 j1
    obtain ⟨b, rfl, b0, b1⟩ : ∃ b, v = .int b /\ 1 <= b /\ b <= 1000 := by
      simp only [List.mem_cons, List.not_mem_nil, or_false] at hv
      rcases hv with rfl | rfl <;> exact ⟨_, rfl, by omega, by omega⟩
    obtain ⟨D3, K3, al⟩ := ((Gk.app c d s1 _).trans K2.gk).cut D1 D2
    simp only [↓WS, ↓WE, ↓WV, Lq, len_sz, UU, Nat.reduceSub, ↓reduceIte, ↓wpe ev, al, show AV.low s1.length (.int b) = true by simp [AV.low]]
    refine (take_wp D3 (by omega) (by omega) (fit9 (by omega) (by omega))).mono ?_
    rintro _ s3 ⟨i, rfl, i0, i1, D4, K4⟩
    walk_at "w"
    exact ⟨.len nm (1 + i), 0, rfl, ⟨rfl, by omega, by omega⟩, by omega, r0, D4.mono (by omega), K1.gk.trans (K3.gk.trans K4.gk)⟩
  · split
    · refine (part_wp D1 (by omega)).mono ?_
      rintro _ s2 ⟨q, rfl, q0, q1, q2, D2, K2⟩
      exact ⟨.left nm q, 0, rfl, ⟨rfl, q0, q1, q2⟩, by omega, r0, D2.mono (by omega), K1.gk.trans K2.gk⟩
    split
    · refine (part_wp D1 (by omega)).mono ?_
      rintro _ s2 ⟨q, rfl, q0, q1, q2, D2, K2⟩
      exact ⟨.left nm q, 0, rfl, ⟨rfl, q0, q1, q2⟩, by omega, r0, D2.mono (by omega), K1.gk.trans K2.gk⟩
    rename_i c1 c2 c3
    have D1' := D1.app (e := [.lst [.int 12, .int 60]]) (D1.cl.add (by simp [AO.low, lowL, AV.low]))
    refine (take_wp D1' (by omega) (by omega) (fit9 (by omega) (by omega))).mono ?_
    rintro _ s2 ⟨j, rfl, j0, j1, D2, K2⟩
    have hj : j.fdiv 2 = j / 2 := Int.fdiv_eq_ediv_of_nonneg _ (by omega)
    obtain ⟨v, hv, ev⟩ := ix_at (s := s2) (i := s1.length) (j := j.fdiv 2) (K2.gk.lst (n := 0) (by have := D1.ltc; omega) (by have := D1.ltd; omega) (lst_new s1 _)) (by rw [hj]; omega) (by rw [hj]; show j / 2 < (2 : Int); omega)
    obtain ⟨b, rfl, b0, b1⟩ : ∃ b, v = .int b /\ 1 <= b /\ b <= 60 := by
      simp only [List.mem_cons, List.not_mem_nil, or_false] at hv
      rcases hv with rfl | rfl <;> exact ⟨_, rfl, by omega, by omega⟩
    obtain ⟨D3, K3, al⟩ := ((Gk.app c d s1 _).trans K2.gk).cut D1 D2
    simp only [↓WS, ↓WE, ↓WV, Lq, len_sz, UU, Nat.reduceSub, ↓reduceIte, ↓wpe ev, al, show AV.low s1.length (.int b) = true by simp [AV.low]]
    refine ⟨⟨by decide, mid_of (n := 7) (fitI (by omega) (by omega)) (by omega)⟩, ?_⟩
    obtain ⟨m, em, m0, m1⟩ : ∃ m, (if b < room then b else room) = m /\ 1 <= m /\ m <= room := ⟨_, rfl, by split <;> omega, by split <;> omega⟩
    rw [em]
    refine (take_wp D3 (by omega) (by omega) (fit9 (by omega) (by omega))).mono ?_
    rintro _ s3 ⟨i, rfl, i0, i1, D4, K4⟩
    have G4 : Gk c d s s3 := K1.gk.trans (K3.gk.trans K4.gk)
    walk_at "w"
    split
    · simp only [↓WS, ↓WE, ↓WV, Lq, len_sz, UU, Nat.reduceSub, ↓reduceIte, ↓wpe (lowest60 (a := 1 + i) (b := 60) _ (by omega) (by omega) (by omega) (by omega))]
      exact ⟨.of nm _, 1 + i, rfl, ⟨by omega, by omega, 1 + i, by omega, by omega, rfl⟩, by omega, by omega, D4.mono (by omega), G4⟩
    · -- steps
      have D5 := D4.app (e := [.lst []]) (D4.cl.add (by simp [AO.low, lowL]))
      simp only [↓WS, ↓WE, ↓WV, Lq, len_sz, UU, Nat.reduceSub, ↓reduceIte, ↓wp_srcR]
      refine (take_wp D5 (by omega) (by omega) (fit9 (by omega) (by omega))).mono ?_
      rintro _ s4 ⟨j2, rfl, a0, a1, D6, K6⟩
      walk_at "w"
      refine ⟨⟨by omega, by omega⟩, ?_⟩
      have lc := D4.ltc
      have ld := D4.ltd
      have L6 : lstO s4 s3.length = some [] := K6.gk.lst (n := 0) (by omega) (by omega) (lst_new s3 _)
      refine for_wp (fun xs env st => ∃ us up x z, xs.length + z = 3 /\ us.length <= z /\ lstO st s3.length = some (us.map stE) /\ (∀ p ∈ us, IsP (1 + i) p.2) /\ env = [some (AV.ref d), some (.str nm), some (.int room), some (.int k), some (.int (1 + i)), some (.ref s3.length), some (.int up), x] /\ Dr c d (n + 5 + 3 * z) st /\ Gk c d s3 st) ?_ ?_ ?_ _ _ _ ⟨[], 0, none, 3 - (1 + j2).toNat, by simp [rngA]; omega, Nat.zero_le _, L6, (fun _ h => nomatch h), rfl, D6.mono (by omega), (Gk.app c d s3 _).trans K6.gk⟩
      · rintro _ _ st _ p hp; cases hp
      · rintro env st ⟨us, up, x, z, z0, z1, l1, l2, rfl, D7, G7⟩
        have z0 : 0 + z = 3 := z0
        simp only [↓WS, ↓WE, ↓WV, Lq, len_sz, UU, Nat.reduceSub, ↓reduceIte, isL_at l1]
        refine (take_wp D7 (by omega) (by omega) (fit9 (by omega) (by omega))).mono ?_
        rintro _ s5 ⟨j3, rfl, b0, b1, D8, K8⟩
        have l5 := K8.gk.lst (n := 0) (by omega) (by omega) l1
        have l6 := lst_set (ys := us.map stE ++ [AV.tup [.non, fq (Rat.divInt (1 + j3) 60)]]) l5
        simp only [↓WS, ↓WE, ↓WV, Lq, len_sz, UU, Nat.reduceSub, ↓reduceIte, ↓wpe (lowest60 (a := 1 + j3) (b := 60) _ (by omega) (by omega) (by omega) (by omega)), ↓wpe (append_at l5 (small1000 (by simp; omega))), items, l6, qTuple]
        refine ⟨.steps nm us (Rat.divInt (1 + j3) 60), 1 + i, rfl, ⟨by omega, by omega, by omega, l2, 1 + j3, by omega, by omega, rfl⟩, by omega, by omega, ?_, G4.trans ((G7.trans K8.gk).set (Nat.le_refl _))⟩
        exact (D8.mono (by omega)).set (by omega) (by omega) (by simp [AO.low, lowL_app, low_st, lowL, AV.low, low_fq])
      · rintro v r env st ⟨us, up, x, z, z0, z1, l1, l2, rfl, D7, G7⟩
        have z0 : r.length + 1 + z = 3 := z0
        simp only [↓WS, ↓WE, ↓WV, Lq, len_sz, UU, Nat.reduceSub, ↓reduceIte, show (10 : Int) ^ (5 : Int).toNat = 100000 by decide, show CPow 10 5 = True from eq_true (by decide)]
        refine (pick_wp (m := 3) (xs := [.int 3, .int 9, .int 100000]) D7 (by omega) (by rfl) (by omega) (by omega) (P := fun b => 1 <= b /\ b <= 100000) (by
          intro v hv
          simp only [List.mem_cons, List.not_mem_nil, or_false] at hv
          rcases hv with rfl | rfl | rfl <;> exact ⟨_, rfl, by omega, by omega⟩)).mono ?_
        rintro _ s5 ⟨b, ev, ⟨b0, b1⟩, al, D8, K8⟩
        rw [wpe ev]
        refine ⟨⟨al, by simp [AV.low]⟩, ?_⟩
        refine (take_wp D8 (by omega) (by omega) (fit9 (by omega) (by omega))).mono ?_
        rintro _ s6 ⟨j3, rfl, b2, b3, D9, K9⟩
        have l6 := (K8.trans K9).gk.lst (n := 0) (by omega) (by omega) l1
        simp only [↓WS, ↓WE, ↓WV, Lq, len_sz, UU, Nat.reduceSub, ↓reduceIte, isL_at l6]
        refine (take_wp D9 (by omega) (by omega) (fit9 (by omega) (by omega))).mono ?_
        rintro _ s7 ⟨j4, rfl, b4, b5, D10, K10⟩
        have l7 := K10.gk.lst (n := 0) (by omega) (by omega) l6
        simp only [↓WS, ↓WE, ↓WV, Lq, len_sz, UU, Nat.reduceSub, ↓reduceIte, ↓wpe (lowest60 (a := 1 + j4) (b := 60) _ (by omega) (by omega) (by omega) (by omega)), ↓wpe (append_at l7 (small1000 (by simp; omega)))]
        refine ⟨us ++ [(up + 1 + j3, Rat.divInt (1 + j4) 60)], _, _, z + 1, by omega, by simp; omega, ?_, ?_, rfl, ?_, (((G7.trans K8.gk).trans K9.gk).trans K10.gk).set (Nat.le_refl _)⟩
        · rw [lst_set l7, List.map_append]; rfl
        · intro p hp
          rcases List.mem_append.mp hp with hp | hp
          · exact l2 p hp
          · simp only [List.mem_singleton] at hp
            subst hp
            exact ⟨1 + j4, by omega, by omega, rfl⟩
        · exact (D10.mono (by omega)).set (by omega) (by omega) (by simp [AO.low, lowL_app, low_st, lowL, AV.low, low_fq])
def txt24 : Str := "b aa zebra c quartzes ab m knows d mm likes z ba abcdefgh y zz e x f g hh jj kk pave"
open PySem.Builtin.Str in
def nm24 : List Str := partsBetween txt24 (occurrences txt24 " " 0 txt24.length (txt24.length + 1)) (" " : Str).length
theorem nm24_len : nm24.length = 24 := by decide +kernel
open PySem.Builtin.Str in
theorem nm24_ok : (decide (txt24.length < (" " : Str).length) || decide (PySem.Builtin.Str.strKind txt24 < PySem.Builtin.Str.strKind (" " : Str))) = false /\ ((" " : Str).length == 0) = false /\ (occurrences txt24 " " 0 txt24.length (txt24.length + 1)).isEmpty = false /\ txt24.length <= 1000 /\ (partsBetween txt24 (occurrences txt24 " " 0 txt24.length (txt24.length + 1)) (" " : Str).length).length <= 1000 := by decide +kernel
theorem split24 (s : S) : opSplit (.str "b aa zebra c quartzes ab m knows d mm likes z ba abcdefgh y zz e x f g hh jj kk pave") [.str " "] s = .ok (nm24.map AV.str) s := if_pos nm24_ok
theorem low_strs (b : Nat) : ∀ l : List Str, lowL b (l.map AV.str) = true
  | [] => by simp [lowL]
  | i :: r => by simp only [List.map_cons, lowL, low_strs b r]; simp [AV.low]
theorem len_at {s : S} {i : Nat} {xs : List AV} (h : lstO s i = some xs) : opLen [.ref i] s = .ok (.int xs.length) s := by
  show (need (lstO s i) fun xs => R.ok (AV.int xs.length) s) = _
  rw [h]; rfl
theorem er_map {α β : Type} (f : α -> β) : ∀ (l : List α) (m : Nat), (l.map f).eraseIdx m = (l.eraseIdx m).map f
  | [], _ => rfl
  | a :: r, 0 => rfl
  | a :: r, m + 1 => by show f a :: (r.map f).eraseIdx m = f a :: (r.eraseIdx m).map f; rw [er_map f r m]
theorem names_wp {c d n : Nat} {s : S} (D : Dr c d n s) (hn : n <= 900000000) {k : Int} (k0 : 0 <= k) (k1 : k <= 5) : (f__law_names [.ref d, .int k] s).wp fun v s' => ∃ (j : Nat) (zs : List Str), v = .ref j /\ s.length <= j /\ lstO s' j = some (zs.map AV.str) /\ (zs.length : Int) = k /\ Dr c d (n + 5) s' /\ Gk c d s s' := by
  have lc := D.ltc
  have ld := D.ltd
  unfold f__law_names b__law_names
  simp only [↓WS, ↓WE, ↓WV, Lq, len_sz, UU, Nat.reduceSub, ↓reduceIte, ↓wp_srcR, ↓wpe (split24 _), show ∀ s : S, (isTy "str" (.str "b aa zebra c quartzes ab m knows d mm likes z ba abcdefgh y zz e x f g hh jj kk pave") s).isSome = true from fun _ => rfl]
  refine ⟨⟨by omega, by omega⟩, szl (by simp [rngA]; omega), ?_⟩
  refine comp_wp (fun xs acc env st => ∃ (ys zs : List Str) (x : Option AV), acc = zs.map AV.str /\ lstO st s.length = some (ys.map AV.str) /\ (xs.length : Int) + zs.length = k /\ ys.length + zs.length = 24 /\ env = [x, some (.ref s.length), some (.ref d)] /\ Dr c d (n + zs.length) st /\ Gk c d s st) ?_ ?_ ?_ _ _ _ _ ⟨nm24, [], none, rfl, lst_new _ _, by simp [rngA]; omega, by rw [nm24_len]; rfl, rfl, D.app (D.cl.add (by simp [AO.low, low_strs])), Gk.app c d s _⟩
  · rintro _ _ _ st _ p hp; cases hp
  · rintro acc env st ⟨ys, zs, x, rfl, l1, l2, l3, rfl, D1, G1⟩
    refine ⟨st.length, zs, rfl, G1.len, lst_new _ _, by simpa using l2, ?_, G1.trans (Gk.app c d st _)⟩
    have l2 : ((0 : Nat) : Int) + zs.length = k := l2
    exact (D1.app (D1.cl.add (by simp [AO.low, low_strs]))).mono (by omega)
  · rintro v r acc env st ⟨ys, zs, x, rfl, l1, l2, l3, rfl, D1, G1⟩
    have l2 : ((r.length + 1 : Nat) : Int) + zs.length = k := l2
    simp only [↓WS, ↓WE, ↓WV, Lq, len_sz, UU, Nat.reduceSub, ↓reduceIte, isL_at l1, ↓wpe (len_at l1), List.length_map]
    refine (take_wp D1 (by omega) (by omega) (fit9 (by omega) (by omega))).mono ?_
    rintro _ s1 ⟨j, rfl, j0, j1, D2, K2⟩
    have l4 := K2.gk.lst (n := 0) (by omega) (by omega) l1
    obtain ⟨m, rfl⟩ : ∃ m : Nat, j = m := ⟨j.toNat, by omega⟩
    have hm : m < ys.length := by omega
    have ep : opPop (.ref s.length) [.int m] s1 = .ok (.str ys[m]) (s1.set s.length (.lst ((ys.eraseIdx m).map AV.str))) := by
      show (need (lstO s1 s.length) fun xs => if 0 <= (m : Int) /\ (m : Int) < xs.length then need xs[(m : Int).toNat]? fun y => R.ok y (s1.set s.length (.lst (xs.eraseIdx (m : Int).toNat))) else .bad) = _
      rw [l4, need_some, if_pos ⟨by omega, by rw [List.length_map]; omega⟩]
      show (need (ys.map AV.str)[m]? fun y => R.ok y (s1.set s.length (.lst ((ys.map AV.str).eraseIdx m)))) = _
      rw [List.getElem?_map, List.getElem?_eq_getElem hm]
      show R.ok (AV.str ys[m]) _ = _
      rw [er_map]
    rw [wpe ep]
    refine ⟨ys.eraseIdx m, zs ++ [ys[m]], _, by simp, lst_set l4, by simp; omega, ?_, rfl, ?_, (G1.trans K2.gk).set (Nat.le_refl _)⟩
    · rw [List.length_eraseIdx_of_lt hm]; simp; omega
    · exact (D2.mono (by simp; omega)).set (by omega) (by omega) (low_strs _ _)
def nL : List Rw -> Nat
  | [] => 0
  | .left _ _ :: r => nL r + 1
  | .of _ _ :: r => nL r
  | .steps _ _ _ :: r => nL r
  | .len _ _ :: r => nL r
def kdE : Rw -> AV
  | .left _ _ => .str "left"
  | .of _ _ => .str "of"
  | .steps _ _ _ => .str "steps"
  | .len _ _ => .str "length"
theorem kd_left : eqV (toV (.str "left")) (toV (.str "left")) = true := by decide +kernel
theorem kd_of : eqV (toV (.str "of")) (toV (.str "left")) = false := by decide +kernel
theorem kd_steps : eqV (toV (.str "steps")) (toV (.str "left")) = false := by decide +kernel
theorem kd_len : eqV (toV (.str "length")) (toV (.str "left")) = false := by decide +kernel
theorem nL_eq : ∀ rs : List Rw, (rs.map kdE).countP (fun z => eqV (toV z) (toV (.str "left"))) = nL rs
  | [] => rfl
  | r :: rs => by
    rw [List.map_cons, List.countP_cons, nL_eq rs]
    cases r
    · show _ + (if eqV (toV (.str "of")) (toV (.str "left")) = true then 1 else 0) = nL rs; rw [kd_of]; rfl
    · show _ + (if eqV (toV (.str "steps")) (toV (.str "left")) = true then 1 else 0) = nL rs; rw [kd_steps]; rfl
    · show _ + (if eqV (toV (.str "left")) (toV (.str "left")) = true then 1 else 0) = nL rs + 1; rw [kd_left]; rfl
    · show _ + (if eqV (toV (.str "length")) (toV (.str "left")) = true then 1 else 0) = nL rs; rw [kd_len]; rfl
theorem nL_app : ∀ (a b : List Rw), nL (a ++ b) = nL a + nL b
  | [], b => by simp [nL]
  | r :: a, b => by rw [List.cons_append]; have ih := nL_app a b; cases r <;> (simp only [nL, ih]; try omega)
theorem whole_app (u : Int) : ∀ (a b : List Rw), wholeSh u (a ++ b) = wholeSh u a ++ wholeSh u b
  | [], b => by simp [wholeSh]
  | r :: a, b => by rw [List.cons_append]; have ih := whole_app u a b; cases r <;> (simp only [wholeSh, ih, List.cons_append])
theorem sumQ_app : ∀ (a b : List Rat), sumQ (a ++ b) = sumQ a + sumQ b
  | [], b => by show sumQ b = 0 + sumQ b; grind
  | q :: a, b => by show q + sumQ (a ++ b) = q + sumQ a + sumQ b; rw [sumQ_app a b]; grind
structure RsOk (rs : List Rw) (room : Int) : Prop where
  a : ∀ r ∈ rs, ∃ w, RwOk w r
  s : ∀ u, sumQ ((wholeSh u rs).map (·.2)) <= Rat.divInt (60 - room) 60
theorem isP_le {w : Int} {q : Rat} (h : IsP w q) : 0 <= q /\ q <= Rat.divInt w 60 /\ q <= 1 ∨ 60 < w := by
  obtain ⟨j, h1, h2, rfl⟩ := h
  by_cases c : 60 < w
  · exact .inr c
  refine .inl ⟨div_nn (by omega) (by omega), ?_, div_le1 (by omega) (by omega)⟩
  have e : Rat.divInt (w - j) 60 + Rat.divInt j 60 = Rat.divInt w 60 := by rw [div_add (by omega), show w - j + j = w by omega]
  have : 0 <= Rat.divInt (w - j) 60 := div_nn (by omega) (by omega)
  grind
theorem stAt_P {w u : Int} {z : Rat} (hz : IsP w z) : ∀ us : List (Int × Rat), (∀ p ∈ us, IsP w p.2) -> IsP w (stAt u z us)
  | [], _ => hz
  | p :: r, h => by
    unfold stAt
    split
    · exact h p (.head _)
    · exact stAt_P hz r fun p hp => h p (.tail _ hp)
theorem RwOk.sum {w : Int} {r : Rw} (h : RwOk w r) (u : Int) : sumQ ((wholeSh u [r]).map (·.2)) <= Rat.divInt w 60 := by
  have one : ∀ {n : Str} {q : Rat}, IsP w q -> w <= 60 -> sumQ ([(n, q)].map (·.2)) <= Rat.divInt w 60 := fun {n q} hq hw => by
    rcases isP_le hq with ⟨_, h2, _⟩ | h2
    · show q + 0 <= _; grind
    · omega
  cases r with
  | of n q => exact one h.2.2 h.2.1
  | steps n us z => exact one (n := n) (q := stAt u z us) (stAt_P h.2.2.2.2 us h.2.2.2.1) h.2.1
  | left n q => show (0 : Rat) <= _; exact div_nn (by have := h.1; omega) (by omega)
  | len n q => show (0 : Rat) <= _; exact div_nn (by have := h.1; omega) (by omega)
theorem RsOk.snoc {rs : List Rw} {room w : Int} {r : Rw} (h : RsOk rs room) (k : RwOk w r) : RsOk (rs ++ [r]) (room - w) := by
  refine ⟨fun x hx => ?_, fun u => ?_⟩
  · rcases List.mem_append.mp hx with hx | hx
    · exact h.a x hx
    · simp only [List.mem_singleton] at hx; subst hx; exact ⟨w, k⟩
  · rw [whole_app, List.map_append, sumQ_app]
    have h1 := h.s u
    have h2 := k.sum u
    have e : Rat.divInt (60 - room) 60 + Rat.divInt w 60 = Rat.divInt (60 - (room - w)) 60 := by rw [div_add (by omega), show 60 - room + w = 60 - (room - w) by omega]
    grind
theorem ne_nil {s : S} {i j : Nat} {xs : List AV} (h1 : lstO s i = some xs) (h2 : lstO s j = some []) (hf : xs.all flatA = true) (hx : xs ≠ []) : opNe (.ref i) (.ref j) s = .ok (.bl true) s := by
  unfold opNe
  rw [eqAV_nil h1 h2 hf]
  cases xs with
  | nil => exact (hx rfl).elim
  | cons => rfl
theorem flat_strs : ∀ l : List Str, (l.map AV.str).all flatA = true
  | [] => rfl
  | i :: r => by rw [List.map_cons, List.all_cons, flat_strs r]; rfl
theorem flat_kd : ∀ l : List Rw, (l.map kdE).all flatA = true
  | [] => rfl
  | r :: l => by rw [List.map_cons, List.all_cons, flat_kd l]; cases r <;> rfl
theorem rv_kd (r : Rw) (s : S) : opIx (rv r) (.int 0) s = .ok (kdE r) s := by
  cases r <;> rfl
theorem low_rvs (b : Nat) : ∀ l : List Rw, lowL b (l.map rv) = true
  | [] => by simp [lowL]
  | r :: l => by simp only [List.map_cons, lowL, low_rvs b l, low_rv]; rfl
theorem kd_comp (rs : List Rw) (st : S) (L : Nat) (h : lstO st L = some (rs.map rv)) (Q : List AV -> S -> Prop) : (compL (gN 0) cYes (mBin opIx (mv 0) (mc (.int 0))) [(L, rs.map rv)] (rs.map rv) [none] st []).wp Q = Q (rs.map kdE) st := by
  refine wpe (R.wp.eq (comp_wp (fun xs acc env s => s = st /\ ∃ r x, xs = r.map rv /\ env = [x] /\ acc ++ r.map kdE = rs.map kdE) ?_ ?_ ?_ _ _ _ _ ⟨rfl, rs, none, rfl, rfl, rfl⟩)) Q
  · rintro _ _ _ st ⟨rfl, _⟩; exact gok1 h
  · rintro acc env st ⟨rfl, r, x, e, rfl, h⟩
    cases r with
    | cons => cases e
    | nil => exact ⟨by rw [← h]; simp, rfl⟩
  · rintro v r acc env st ⟨rfl, r', x, e, rfl, h⟩
    cases r' with
    | nil => cases e
    | cons p r' =>
      cases e
      simp only [↓WS, ↓WE, ↓WV, Lq, len_sz, UU, Nat.reduceSub, ↓reduceIte, ↓wpe (rv_kd p _)]
      exact ⟨r', _, rfl, rfl, by rw [← h]; simp⟩
theorem count_new (rs : List Rw) (st : S) : opCount (.ref st.length) [.str "left"] (st ++ [.lst (rs.map kdE)]) = .ok (.int (nL rs)) (st ++ [.lst (rs.map kdE)]) := by
  show (need (lstO (st ++ [.lst (rs.map kdE)]) st.length) fun xs => if flatA (.str "left") = true /\ xs.all flatA = true then R.ok (AV.int ((xs.countP fun z => eqV (toV z) (toV (.str "left")) : Nat) : Int)) (st ++ [.lst (rs.map kdE)]) else .bad) = _
  rw [lst_new, need_some, if_pos ⟨rfl, flat_kd rs⟩, nL_eq]
theorem rows_wp {c d n J : Nat} {s : S} (D : Dr c d n s) (hn : n <= 800000000) {zs : List Str} (hJ : lstO s J = some (zs.map AV.str)) (hz : zs ≠ []) (jc : J ≠ c) (jd : J ≠ d) (hz2 : zs.length <= 99) {k : Int} (k0 : 0 <= k) (k1 : k <= 8) :
    (f__law_rows [.ref d, .ref J, .int k] s).wp fun v s' => ∃ rs room, v = .tup (rs.map rv) /\ RsOk rs room /\ 0 <= room /\ rs.length <= 8 /\ nL rs <= 3 /\ Dr c d (n + 200) s' /\ Gk c d s s' := by
  have lc := D.ltc
  have ld := D.ltd
  have hJl : J < s.length := (List.getElem?_eq_some_iff.mp (lstO_inv hJ)).1
  have hzl : 0 < zs.length := List.length_pos_iff.mpr hz
  unfold f__law_rows b__law_rows
  have eN : opNe (.ref J) (.ref (s ++ [AO.lst []]).length) ((s ++ [AO.lst []]) ++ [.lst []]) = .ok (.bl true) ((s ++ [AO.lst []]) ++ [.lst []]) := ne_nil (lstO_app (lstO_app hJ)) (lst_new _ _) (flat_strs zs) (by simpa using hz)
  have D0 := D.app (e := [.lst []]) (D.cl.add (by simp [AO.low, lowL]))
  simp only [↓WS, ↓WE, ↓WV, Lq, len_sz, UU, Nat.reduceSub, ↓reduceIte, ↓wp_srcR, ↓wpe eN, List.take_left, show ∀ b, AV.low b (.bl true) = true from fun _ => by simp [AV.low], Int.mul_one]
  refine ⟨⟨big_of (n := 7) (fitI k0 (by omega)) (by omega), big_of (n := 7) (fitI (by omega) (by omega)) (by omega)⟩, ⟨by omega, by omega⟩, ?_⟩
  refine for_wp (fun xs env st => ∃ (rs : List Rw) (room : Int) (x y w : Option AV) (z : Nat), (xs.length : Int) + z = k /\ rs.length <= z /\ nL rs <= 3 /\ RsOk rs room /\ 0 <= room /\ room <= 60 /\ lstO st s.length = some (rs.map rv) /\ lstO st J = some (zs.map AV.str) /\ env = [some (AV.ref d), some (.ref J), some (.int k), some (.int room), some (.ref s.length), x, y, w] /\ Dr c d (n + 22 * z) st /\ Gk c d s st) ?_ ?_ ?_ _ _ _ ⟨[], 60, none, none, none, 0, by simp [rngA]; omega, Nat.le_refl _, by simp [nL], ⟨(fun _ h => nomatch h), fun u => by show (0 : Rat) <= Rat.divInt 0 60; rw [Rat.zero_divInt]; grind⟩, by omega, by omega, lst_new _ _, lstO_app hJ, rfl, D0, Gk.app c d s _⟩
  · rintro _ _ st _ p hp; cases hp
  · rintro env st ⟨rs, room, x, y, w, z, z0, z1, z2, z3, z4, z5, l1, l2, rfl, D1, G1⟩
    have z0 : ((0 : Nat) : Int) + z = k := z0
    simp only [↓WS, ↓WE, ↓WV, Lq, len_sz, UU, Nat.reduceSub, ↓reduceIte, items, l1, qTuple]
    exact ⟨rs, room, rfl, z3, z4, by omega, z2, D1.mono (by omega), G1⟩
  · rintro v r env st ⟨rs, room, x, y, w, z, z0, z1, z2, z3, z4, z5, l1, l2, rfl, D1, G1⟩
    have z0 : ((r.length + 1 : Nat) : Int) + z = k := z0
    simp only [↓WS, ↓WE, ↓WV, Lq, len_sz, UU, Nat.reduceSub, ↓reduceIte, ↓wpe (len_at l2), List.length_map]
    refine (take_wp D1 (by omega) (by omega) (fit9 (by omega) (by omega))).mono ?_
    rintro _ s1 ⟨j, rfl, j0, j1, D2, K2⟩
    obtain ⟨v', hv, ev⟩ := ix_at (K2.gk.lst (n := 0) jc jd l2) j0 (by rw [List.length_map]; exact j1)
    obtain ⟨nm, _, rfl⟩ := List.mem_map.mp hv
    simp only [↓WS, ↓WE, ↓WV, Lq, len_sz, UU, Nat.reduceSub, ↓reduceIte, ↓wpe ev]
    refine (row_wp D2 (by omega) nm z4 z5).mono ?_
    rintro _ s2 ⟨q, w', rfl, h1, h2, h3, D3, G3⟩
    have l3 := G3.lst (n := 0) (by omega) (by omega) (K2.gk.lst (n := 0) (by omega) (by omega) l1)
    have l4 := G3.lst (n := 0) jc jd (K2.gk.lst (n := 0) jc jd l2)
    have G4 := (G1.trans K2.gk).trans G3
    have app : ∀ env', (∃ (x y w : Option AV), env' = [some (AV.ref d), some (.ref J), some (.int k), some (.int (room - w')), some (.ref s.length), x, y, w]) -> nL (rs ++ [q]) <= 3 -> (opAppend (.ref s.length) [rv q] s2).wp (fun _ s1 => ∃ (rs : List Rw) (room : Int) (x y w : Option AV) (z : Nat), (r.length : Int) + z = k /\ rs.length <= z /\ nL rs <= 3 /\ RsOk rs room /\ 0 <= room /\ room <= 60 /\ lstO s1 s.length = some (rs.map rv) /\ lstO s1 J = some (zs.map AV.str) /\ env' = [some (AV.ref d), some (.ref J), some (.int k), some (.int room), some (.ref s.length), x, y, w] /\ Dr c d (n + 22 * z) s1 /\ Gk c d s s1) := by
      rintro env' ⟨x', y', w2, rfl⟩ hnl
      rw [wpe (append_at l3 (small1000 (by simp; omega)))]
      refine ⟨rs ++ [q], room - w', x', y', w2, z + 1, by omega, by simp; omega, hnl, z3.snoc h1, by omega, by omega, ?_, ?_, rfl, ?_, G4.set (Nat.le_refl _)⟩
      · rw [lst_set l3, List.map_append]; rfl
      · rw [show lstO (s2.set s.length _) J = lstO s2 J by unfold lstO; rw [List.getElem?_set_ne (by omega)]]; exact l4
      · exact (D3.mono (by omega)).set (by omega) (by omega) (by simp [AO.low, lowL_app, low_rvs, lowL, low_rv])
    simp only [↓WS, ↓WE, ↓WV, Lq, len_sz, UU, Nat.reduceSub, ↓reduceIte, ↓wpe (rv_kd q _)]
    cases q with
    | of nm' q' =>
      rw [show kdE (.of nm' q') = .str "of" from rfl]
      simp only [↓WS, ↓WE, ↓WV, Lq, len_sz, UU, Nat.reduceSub, ↓reduceIte, SD, isL_at l3]
      exact app _ ⟨_, _, _, rfl⟩ (by rw [nL_app]; simp [nL]; omega)
    | steps nm' us q' =>
      rw [show kdE (.steps nm' us q') = .str "steps" from rfl]
      simp only [↓WS, ↓WE, ↓WV, Lq, len_sz, UU, Nat.reduceSub, ↓reduceIte, SD, isL_at l3]
      exact app _ ⟨_, _, _, rfl⟩ (by rw [nL_app]; simp [nL]; omega)
    | len nm' q' =>
      rw [show kdE (.len nm' q') = .str "length" from rfl]
      simp only [↓WS, ↓WE, ↓WV, Lq, len_sz, UU, Nat.reduceSub, ↓reduceIte, SD, isL_at l3]
      exact app _ ⟨_, _, _, rfl⟩ (by rw [nL_app]; simp [nL]; omega)
    | left nm' q' =>
      rw [show kdE (.left nm' q') = .str "left" from rfl]
      have w3 : walkO (.ref s.length) s2 = _ := (Wlk.ref l3).src
      simp only [↓WS, ↓WE, ↓WV, Lq, len_sz, UU, Nat.reduceSub, ↓reduceIte, eq_self, isL_at l3, ↓wpe w3, ↓kd_comp rs s2 _ l3, isL_new, ↓wpe (count_new _ _), List.take_left, show ∀ b i, AV.low b (.int i) = true from fun _ _ => by simp [AV.low]]
      refine ⟨szl (by rw [List.length_map]; omega), ?_⟩
      split
      · rename_i cc
        exact app _ ⟨_, _, _, rfl⟩ (by rw [nL_app]; simp [nL]; omega)
      · refine ⟨rs, room - w', _, _, _, z + 1, by omega, by omega, z2, ?_, by omega, by omega, l3, l4, rfl, D3.mono (by omega), G4⟩
        have : w' = 0 := h1.1
        rw [this, Int.sub_zero]; exact z3
structure Good (rs : List Rw) : Prop where
  a : ∀ r ∈ rs, ∃ w, RwOk w r
  s : ∀ u, sumQ ((wholeSh u rs).map (·.2)) <= 1
  l : rs.length <= 8
  n : nL rs <= 3
theorem some_rows_wp {c d n : Nat} {s : S} (D : Dr c d n s) (hn : n <= 700000000) : (f__law_some_rows [.ref d] s).wp fun v s' => ∃ rs, v = .tup (rs.map rv) /\ Good rs /\ Dr c d (n + 220) s' /\ Kp c d s s' := by
  have lc := D.ltc
  have ld := D.ltd
  unfold f__law_some_rows b__law_some_rows
  walk_at "w"
  refine (take_wp D (by omega) (by omega) (fit9 (by omega) (by omega))).mono ?_
  rintro _ s1 ⟨a, rfl, a0, a1, D1, K1⟩
  refine (take_wp D1 (by omega) (by omega) (fit9 (by omega) (by omega))).mono ?_
  rintro _ s2 ⟨b, rfl, b0, b1, D2, K2⟩
  have D2' := D2.app (e := [.lst [.int a, .int b]]) (D2.cl.add (by simp [AO.low, lowL, AV.low]))
  refine (take_wp D2' (by omega) (by omega) (fit9 (by omega) (by omega))).mono ?_
  rintro _ s3 ⟨e, rfl, e0, e1, D3, K3⟩
  walk_at "w"
  have l2 := D2.ltc
  have l3 := D2.ltd
  obtain ⟨v, hv, ev⟩ := ix_at (s := s3) (i := s2.length) (j := (if e = 0 then 1 else 0)) (K3.gk.lst (n := 0) (by omega) (by omega) (lst_new s2 _)) (by split <;> omega) (by show _ < (2 : Int); split <;> omega)
  obtain ⟨k, rfl, k0, k1⟩ : ∃ k, v = .int k /\ 0 <= k /\ k <= 8 := by
    simp only [List.mem_cons, List.not_mem_nil, or_false] at hv
    rcases hv with rfl | rfl <;> exact ⟨_, rfl, by omega, by omega⟩
  obtain ⟨D4, K4, al⟩ := (((K1.trans K2).gk.trans (Gk.app c d s2 _)).trans K3.gk).cut D D3
  rw [wpe (show (need (lstO s3 s2.length) fun xs => need (atI xs (if e = 0 then 1 else 0)) fun v => R.ok v s3) = _ from ev)]
  refine ⟨⟨al, by simp [AV.low]⟩, ?_⟩
  revert D4 K4
  generalize s3.take s.length = s4
  intro D4 K4
  refine (take_wp D4 (by omega) (by omega) (fit9 (by omega) (by omega))).mono ?_
  rintro _ s5 ⟨g, rfl, g0, g1, D5, K5⟩
  walk_at "w"
  refine (names_wp D5 (by omega) (by omega) (by omega)).mono ?_
  rintro _ s6 ⟨j, zs, rfl, j0, j1, j2, D6, G6⟩
  obtain ⟨D7, K7, al7⟩ := (K5.gk.trans G6).cut D4 D6
  have hj : s4.length <= j := by rw [← K5.len]; exact j0
  simp only [↓WS, ↓WE, ↓WV, Lq, len_sz, UU, Nat.reduceSub, ↓reduceIte, j1, ↓wp_if, al7, low_strs, hj]
  revert D7 K7 al7
  generalize s6.take s4.length = s7
  intro D7 K7 al7
  have hz : zs ≠ [] := by rintro rfl; have : ((0 : Nat) : Int) = 1 + g := j2; omega
  have D7' := D7.app (e := [.lst (zs.map AV.str)]) (D7.cl.add (by simp [AO.low, low_strs]))
  have l4 := D7.ltc
  have l5 := D7.ltd
  refine (rows_wp D7' (by omega) (lst_new s7 _) hz (by omega) (by omega) (by omega) k0 k1).mono ?_
  rintro _ s8 ⟨rs, room, rfl, h1, h2, h3, h4, D8, G8⟩
  obtain ⟨D9, K9, al9⟩ := (K7.gk.trans ((Gk.app c d s7 _).trans G8)).cut D4 D8
  refine ⟨⟨al9, by simp [AV.low, low_rvs]⟩, rs, rfl, ⟨h1.a, fun u => ?_, h3, h4⟩, D9.mono (by omega), K4.trans K9⟩
  have e1 := h1.s u
  have e2 : Rat.divInt (60 - room) 60 <= 1 := div_le1 (by omega) (by omega)
  grind
theorem TG : (isTag "int" "list" = false) /\ (isTag "int" "tuple" = false) /\ (isTag "int" "str" = false) /\ (isTag "int" "int" = true) /\ (isTag "int" "bool" = false) /\
    (isTag "str" "list" = false) /\ (isTag "str" "tuple" = false) /\ (isTag "str" "str" = true) /\
    (isTag "tuple" "list" = false) /\ (isTag "tuple" "tuple" = true) /\ (isTag "list" "list" = true) /\ (isTag "list" "tuple" = false) := by
  refine ⟨?_, ?_, ?_, ?_, ?_, ?_, ?_, ?_, ?_, ?_, ?_, ?_⟩ <;> decide +kernel
theorem isi_int (n : String) (i : Int) (s : S) (Q : AV -> S -> Prop) : (opIsi n (.int i) s).wp Q = Q (.bl (isTag "int" n)) s := rfl
theorem isi_tup (n : String) (i : List AV) (s : S) (Q : AV -> S -> Prop) : (opIsi n (.tup i) s).wp Q = Q (.bl (isTag "tuple" n)) s := rfl
theorem isi_lst {n : String} {i : Nat} {xs : List AV} {s : S} (h : lstO s i = some xs) : opIsi n (.ref i) s = .ok (.bl (isTag "list" n)) s := by
  have e := lstO_inv h
  unfold opIsi
  rw [show tagOf (.ref i) s = some "list" by simp only [tagOf, e]]; rfl
theorem tr_bl (b : Bool) (s : S) : truth (.bl b) s = some b := rfl
theorem ne_bl (a b : Bool) (s : S) (Q : AV -> S -> Prop) : (opNe (.bl a) (.bl b) s).wp Q = Q (.bl (!decide (a = b))) s := rfl
theorem wp_srcZ (a b : Ev) (env : En) (s : S) (Q : List AV × Gd -> S -> Prop) : (srcZ a b env s).wp Q = (a env s).wp fun v s1 => (b env s1).wp fun w s2 => (need (zipO v w s2) fun r => .ok r s2).wp Q := by
  unfold srcZ; rw [wp_bind]; congr 1; funext v s1; rw [wp_bind]
theorem same_int (n : Nat) (i : Int) (s : S) : f__law_same (n + 1) [.int i, .int i] s = .ok (.bl true) s := by
  apply R.wp.eq
  unfold f__law_same b__law_same
  simp only [↓WS, ↓WE, ↓WV, Lq, len_sz, UU, Nat.reduceSub, ↓reduceIte, isNon, ↓isi_int, TG, tr_bl, Bool.not_false, decide_true]
theorem zip_self : ∀ xs : List AV, zipA xs xs = xs.map fun x => .tup [x, x]
  | [] => rfl
  | x :: r => by have := zip_self r; unfold zipA at this ⊢; rw [List.zip_cons_cons, List.map_cons, this]; rfl
theorem bls_rep : ∀ n : Nat, blsO (List.replicate n (.bl true)) = some (List.replicate n true)
  | 0 => rfl
  | n + 1 => by rw [List.replicate_succ]; show (blsO (List.replicate n (.bl true))).map (true :: ·) = _; rw [bls_rep n]; rfl
theorem same_comp {n : Nat} {xs : List AV} {gs : Gd} {s : S} (hg : gOk gs s) (h : ∀ x ∈ xs, f__law_same n [x, x] s = .ok (.bl true) s) (Q : List AV -> S -> Prop) (k : ∀ m, Q (List.replicate m (.bl true)) s) :
    (compL (gT 2 (gCons' (gN 0) (gCons' (gN 1) gNil'))) cYes (mCall 2 (f__law_same n) (pCons (mv 0) (pCons (mv 1) pNil))) gs (zipA xs xs) [none, none] s []).wp Q := by
  rw [zip_self]
  refine comp_wp (fun ys acc env st => st = s /\ ∃ r x y m, (∀ x ∈ r, x ∈ xs) /\ ys = (r.map fun x => AV.tup [x, x]) /\ env = [x, y] /\ acc = List.replicate m (.bl true)) ?_ ?_ ?_ _ _ _ _ ⟨rfl, xs, none, none, 0, fun _ h => h, rfl, rfl, rfl⟩
  · rintro _ _ _ st ⟨rfl, _⟩; exact hg
  · rintro acc env st ⟨rfl, r, x, y, m, _, e, rfl, rfl⟩; exact k m
  · rintro v r acc env st ⟨rfl, r', x, y, m, hr, e, rfl, rfl⟩
    cases r' with
    | nil => cases e
    | cons p r' =>
      cases e
      simp only [↓WS, ↓WE, ↓WV, Lq, len_sz, UU, Nat.reduceSub, ↓reduceIte, ↓wpe (h p (hr p (.head _)))]
      exact ⟨r', _, _, m + 1, fun x hx => hr x (.tail _ hx), rfl, rfl, by rw [List.replicate_succ']⟩
theorem all_rep (m : Nat) : (List.replicate m true).all id = true := by
  rw [List.all_eq_true]; intro b hb; rw [(List.mem_replicate.mp hb).2]; rfl
theorem len_tup (xs : List AV) (s : S) : opLen [.tup xs] s = .ok (.int xs.length) s := rfl
theorem same_tup {n : Nat} {xs : List AV} {s : S} (hl : xs.length <= sizeLine) (h : ∀ x ∈ xs, f__law_same n [x, x] s = .ok (.bl true) s) : f__law_same (n + 1) [.tup xs, .tup xs] s = .ok (.bl true) s := by
  apply R.wp.eq
  unfold f__law_same b__law_same
  simp only [↓WS, ↓WE, ↓WV, Lq, len_sz, UU, Nat.reduceSub, ↓reduceIte, isNon, ↓isi_tup, TG, tr_bl, Bool.not_false, decide_true, ↓ne_bl, Bool.not_true, ↓wpe (len_tup _ _), ↓wp_srcZ, zipO, seqK]
  refine ⟨?_, ?_⟩
  · rw [zip_self, List.length_map]; exact hl
  refine same_comp (by intro p hp; cases hp) h _ fun m => ?_
  unfold qAll
  rw [bls_rep]
  simp only [↓WS, ↓WE, ↓WV, Lq, len_sz, UU, Nat.reduceSub, ↓reduceIte, all_rep]
theorem same_lst {n i j : Nat} {xs : List AV} {s : S} (hl : xs.length <= sizeLine) (h1 : lstO s i = some xs) (h2 : lstO s j = some xs) (h : ∀ x ∈ xs, f__law_same n [x, x] s = .ok (.bl true) s) : f__law_same (n + 1) [.ref i, .ref j] s = .ok (.bl true) s := by
  apply R.wp.eq
  unfold f__law_same b__law_same
  simp only [↓WS, ↓WE, ↓WV, Lq, len_sz, UU, Nat.reduceSub, ↓reduceIte, isNon, ↓wpe (isi_lst h1), ↓wpe (isi_lst h2), TG, tr_bl, Bool.not_false, decide_true, ↓ne_bl, Bool.not_true, ↓wpe (len_at h1), ↓wpe (len_at h2), ↓wp_srcZ, zipO, seqK, h1, h2, Option.map_some]
  refine ⟨?_, ?_⟩
  · rw [zip_self, List.length_map]; exact hl
  refine same_comp ?_ h _ fun m => ?_
  · intro p hp
    simp only [List.cons_append, List.nil_append, List.mem_cons, List.not_mem_nil, or_false] at hp
    rcases hp with rfl | rfl
    · exact h1
    · exact h2
  unfold qAll
  rw [bls_rep]
  simp only [↓WS, ↓WE, ↓WV, Lq, len_sz, UU, Nat.reduceSub, ↓reduceIte, all_rep]
end Ro
namespace Mm
open PySem L2 Sx
theorem wp_comp2 (l : Lc) (src : Src) (tgt : Mt) (test : Eb) (src1 : Src) (tgt1 : Mt) (test1 : Eb) (elt : Ev) (env : En) (s : S) (Q : List AV -> S -> Prop) :
    (lComp2 l src tgt test src1 tgt1 test1 elt env s).wp Q = (src env s).wp fun p s1 => (compL2 tgt test src1 tgt1 test1 elt p.2 p.1 (srcE l env) s1 []).wp Q := by unfold lComp2; rw [wp_bind]
theorem wp_setC (l : Lc) (src : Src) (tgt : Mt) (test : Eb) (elt : Ev) (env : En) (s : S) (Q : List AV -> S -> Prop) :
    (gSetC l src tgt test elt env s).wp Q = (src env s).wp fun p s1 => p.1.length < 64 /\ (compS tgt test elt p.2 p.1 (srcE l env) s1 []).wp fun ns s2 => Q ((sortI ns).map .int) s2 := by
  unfold gSetC
  rw [wp_bind]
  congr 1
  funext p s1
  rw [wp_if, wp_bind]
  rfl
theorem wp_setSort (ns : List Int) (s : S) (Q : List AV -> S -> Prop) : (setSort (ns.map AV.int) s).wp Q = (ns.length < 64 /\ Q ((sortI (uniq ns)).map .int) s) := by
  unfold setSort
  rw [intsO_map, wp_need, wp_if]
  rfl
theorem wp_setN (m : Evs) (env : En) (s : S) (Q : List AV -> S -> Prop) : (gSetN m env s).wp Q = (m env s).wp fun vs s1 => (setSort vs s1).wp Q := by unfold gSetN; rw [wp_bind]
theorem c2_nil {tgt : Mt} {test : Eb} {src1 : Src} {tgt1 : Mt} {test1 : Eb} {elt : Ev} {env : En} {s : S} {acc : List AV} {Q : List AV -> S -> Prop} (h : Q acc s) : (compL2 tgt test src1 tgt1 test1 elt [] [] env s acc).wp Q := by
  unfold compL2
  rw [if_pos (by intro p hp; cases hp)]
  exact h
theorem c2_cons {tgt : Mt} {test : Eb} {src1 : Src} {tgt1 : Mt} {test1 : Eb} {elt : Ev} {v : AV} {r : List AV} {env : En} {s : S} {acc : List AV} {Q : List AV -> S -> Prop}
    (h : (tgt v env s).wp (fun e1 s1 => (test e1 s1).wp fun b s2 => if b = true then (src1 e1 s2).wp fun p s3 => (compE tgt1 test1 elt p.2 p.1 e1 s3 acc).wp fun q s4 => (compL2 tgt test src1 tgt1 test1 elt [] r q.2 s4 q.1).wp Q else (compL2 tgt test src1 tgt1 test1 elt [] r e1 s2 acc).wp Q) (fun _ _ => False)) :
    (compL2 tgt test src1 tgt1 test1 elt [] (v :: r) env s acc).wp Q := by
  unfold compL2
  rw [if_pos (by intro p hp; cases hp)]
  cases e : tgt v env s with
  | nx e1 s1 =>
    rw [e, wp_nx] at h
    simp only [wp_bind, wp_calm]
    refine h.mono fun b s2 k => ?_
    cases b with
    | true => rw [if_pos rfl] at k ⊢; simp only [wp_bind, wp_calm]; exact k
    | false => rw [if_neg (by decide)] at k ⊢; exact k
  | _ => rw [e] at h; exact h.elim
theorem cE_nil {tgt : Mt} {test : Eb} {elt : Ev} {env : En} {s : S} {acc : List AV} {Q : List AV × En -> S -> Prop} (h : Q (acc, env) s) : (compE tgt test elt [] [] env s acc).wp Q := by
  unfold compE
  rw [if_pos (by intro p hp; cases hp)]
  exact h
theorem cE_cons {tgt : Mt} {test : Eb} {elt : Ev} {v : AV} {r : List AV} {env : En} {s : S} {acc : List AV} {Q : List AV × En -> S -> Prop}
    (h : (tgt v env s).wp (fun e1 s1 => (test e1 s1).wp fun b s2 => if b = true then (elt e1 s2).wp fun x s3 => acc.length < 1000 /\ (compE tgt test elt [] r e1 s3 (acc ++ [x])).wp Q else (compE tgt test elt [] r e1 s2 acc).wp Q) (fun _ _ => False)) :
    (compE tgt test elt [] (v :: r) env s acc).wp Q := by
  unfold compE
  rw [if_pos (by intro p hp; cases hp)]
  cases e : tgt v env s with
  | nx e1 s1 =>
    rw [e, wp_nx] at h
    simp only [wp_bind, wp_calm]
    refine h.mono fun b s2 k => ?_
    cases b with
    | true => rw [if_pos rfl] at k ⊢; simp only [wp_bind, wp_calm]; exact k.mono fun x s3 q => by rw [if_pos q.1]; exact q.2
    | false => rw [if_neg (by decide)] at k ⊢; exact k
  | _ => rw [e] at h; exact h.elim
theorem cS_nil {tgt : Mt} {test : Eb} {elt : Ev} {gs : Gd} {env : En} {s : S} {acc : List Int} {Q : List Int -> S -> Prop} (hg : gOk gs s) (h : Q acc s) : (compS tgt test elt gs [] env s acc).wp Q := by
  unfold compS
  rw [if_pos hg]
  exact h
theorem cS_cons {tgt : Mt} {test : Eb} {elt : Ev} {gs : Gd} {v : AV} {r : List AV} {env : En} {s : S} {acc : List Int} {Q : List Int -> S -> Prop} (hg : gOk gs s)
    (h : (tgt v env s).wp (fun e1 s1 => (test e1 s1).wp fun b s2 => if b = true then (elt e1 s2).wp fun x s3 => ∃ n, x = .int n /\ (compS tgt test elt gs r e1 s3 (insK acc n)).wp Q else (compS tgt test elt gs r e1 s2 acc).wp Q) (fun _ _ => False)) :
    (compS tgt test elt gs (v :: r) env s acc).wp Q := by
  unfold compS
  rw [if_pos hg]
  cases e : tgt v env s with
  | nx e1 s1 =>
    rw [e, wp_nx] at h
    simp only [wp_bind, wp_calm]
    refine h.mono fun b s2 k => ?_
    cases b with
    | true => rw [if_pos rfl] at k ⊢; simp only [wp_bind, wp_calm]; exact k.mono fun x s3 ⟨n, e, q⟩ => by subst e; exact q
    | false => rw [if_neg (by decide)] at k ⊢; exact k
  | _ => rw [e] at h; exact h.elim
theorem wp_chain (o1 o2 : AV -> AV -> S -> R AV) (a b c : Ev) (env : En) (s : S) (Q : AV -> S -> Prop) :
    (mChain o1 o2 a b c env s).wp Q = (a env s).wp fun v s1 => (b env s1).wp fun w s2 => (o1 v w s2).wp fun r s3 => match r with | .bl true => (c env s3).wp fun x s4 => (o2 w x s4).wp Q | .bl false => Q (.bl false) s3 | _ => False := by
  unfold mChain
  simp only [wp_bind]
  congr 1; funext v s1; congr 1; funext w s2; congr 1; funext r s3
  cases r with
  | bl k => cases k <;> simp only [wp_bind, wp_ok]
  | _ => rfl
end Mm
namespace Ro
open PySem L2 Mm Sx
def upR : List Rw -> List Int
  | [] => []
  | .steps _ us _ :: r => us.map (·.1) ++ upR r
  | .of _ _ :: r => upR r
  | .left _ _ :: r => upR r
  | .len _ _ :: r => upR r
theorem env5 {env : En} (h : env.length = 5) : ∃ a b c d e, env = [a, b, c, d, e] := by
  match env, h with
  | [a, b, c, d, e], _ => exact ⟨a, b, c, d, e, rfl⟩
theorem cE_st : ∀ (us : List (Int × Rat)) (env : En) (s : S) (acc : List AV) (Q : List AV × En -> S -> Prop), env.length = 5 -> acc.length + us.length <= 1000 -> (∀ env', env'.length = 5 -> Q (acc ++ us.map fun p => .int p.1, env') s) ->
    (compE (gT 2 (gCons' (gN 3) (gCons' (gN 4) gNil'))) cYes (mv 3) [] (us.map stE) env s acc).wp Q
  | [], env, s, acc, Q, he, hl, h => cE_nil (by have := h env he; simpa using this)
  | p :: us, env, s, acc, Q, he, hl, h => by
    obtain ⟨a, b, c, d, e, rfl⟩ := env5 he
    rw [List.map_cons]
    refine cE_cons ?_
    rw [show stE p = .tup [.int p.1, fq p.2] from rfl]
    simp only [List.length_cons] at hl
    walk_at "w"
    refine ⟨by omega, cE_st us _ s _ Q rfl (by simp; omega) fun env' k => ?_⟩
    have := h env' k
    simpa using this
theorem c2_rows : ∀ (rows : List Rw) (env : En) (s : S) (acc : List AV) (Q : List AV -> S -> Prop), env.length = 5 -> acc.length + (upR rows).length <= 1000 -> Q (acc ++ (upR rows).map AV.int) s ->
    (compL2 (gT 3 (gCons' (gN 0) (gCons' (gN 1) (gCons' (gN 2) gNil')))) (cB (mBin opEq (mv 0) (mc (.str "steps")))) (srcV' (mSl (mv 2) oN (oS (mUn opNeg (mc (.int 1)))))) (gT 2 (gCons' (gN 3) (gCons' (gN 4) gNil'))) cYes (mv 3) [] (rows.map rv) env s acc).wp Q
  | [], env, s, acc, Q, he, hl, h => c2_nil (by simpa [upR] using h)
  | r :: rows, env, s, acc, Q, he, hl, h => by
    obtain ⟨a, b, c, d, e, rfl⟩ := env5 he
    rw [List.map_cons]
    refine c2_cons ?_
    cases r with
    | steps n us z =>
      unfold upR at hl h
      simp only [List.length_append, List.length_map] at hl
      rw [show rv (.steps n us z) = .tup [.str "steps", .str n, .tup (us.map stE ++ [.tup [.non, fq z]])] from rfl]
      simp only [↓WS, ↓WE, ↓WV, Lq, len_sz, UU, Nat.reduceSub, ↓reduceIte, eq_self]
      rw [show (opSl (.tup (us.map stE ++ [.tup [.non, fq z]])) none (some (-1)) s) = .ok (.tup (us.map stE)) s by show R.ok _ _ = _; rw [cutA_last]]
      walk_at "w"
      refine cE_st us _ s acc _ rfl (by omega) fun env' k => c2_rows rows env' s _ Q k (by simp; omega) ?_
      rw [List.map_append, List.map_map, ← List.append_assoc] at h
      exact h
    | of n q =>
      unfold upR at hl h
      rw [show rv (.of n q) = .tup [.str "of", .str n, fq q] from rfl]
      simp only [↓WS, ↓WE, ↓WV, Lq, len_sz, UU, Nat.reduceSub, ↓reduceIte, SD]
      exact c2_rows rows _ s _ Q rfl hl h
    | left n q =>
      unfold upR at hl h
      rw [show rv (.left n q) = .tup [.str "left", .str n, fq q] from rfl]
      simp only [↓WS, ↓WE, ↓WV, Lq, len_sz, UU, Nat.reduceSub, ↓reduceIte, SD]
      exact c2_rows rows _ s _ Q rfl hl h
    | len n q =>
      unfold upR at hl h
      rw [show rv (.len n q) = .tup [.str "length", .str n, .int q] from rfl]
      simp only [↓WS, ↓WE, ↓WV, Lq, len_sz, UU, Nat.reduceSub, ↓reduceIte, SD]
      exact c2_rows rows _ s _ Q rfl hl h
end Ro
namespace Ro
open PySem L2 Mm Sx
def btw (lo hi u : Int) : Bool := decide (lo < u) && decide (u < hi)
theorem cS_ints {gs : Gd} {lo hi : Int} {s : S} (hg : gOk gs s) : ∀ (us : List Int) (x : Option AV) (acc : List Int) (Q : List Int -> S -> Prop), Q ((us.filter (btw lo hi)).foldl insK acc) s ->
    (compS (gN 0) (cB (mChain opLt opLt (mv 1) (mv 0) (mv 2))) (mv 0) gs (us.map AV.int) [x, some (.int lo), some (.int hi)] s acc).wp Q
  | [], x, acc, Q, h => cS_nil hg h
  | u :: us, x, acc, Q, h => by
    rw [List.map_cons]
    refine cS_cons hg ?_
    simp only [↓WS, ↓WE, ↓WV, Lq, len_sz, UU, Nat.reduceSub, ↓reduceIte, ↓wp_chain]
    rw [List.filter_cons] at h
    by_cases h1 : lo < u
    · by_cases h2 : u < hi
      · rw [show btw lo hi u = true by simp [btw, h1, h2], if_pos rfl] at h
        simp only [h1, decide_true, h2]
        walk_at "w"
        exact ⟨u, rfl, cS_ints hg us _ _ Q h⟩
      · rw [show btw lo hi u = false by simp [btw, h2], if_neg (by decide)] at h
        simp only [h1, decide_true, h2, decide_false]
        walk_at "w"
        exact cS_ints hg us _ _ Q h
    · rw [show btw lo hi u = false by simp [btw, h1], if_neg (by decide)] at h
      simp only [h1, decide_false]
      try walk_at "w"
      exact cS_ints hg us _ _ Q h
def prs (a b : List Int) : List AV := (a.zip b).map fun p => .tup [.int p.1, .int (p.2 - p.1)]
theorem zip_ints (a b : List Int) : zipA (a.map AV.int) (b.map AV.int) = (a.zip b).map fun p => .tup [.int p.1, .int p.2] := by
  unfold zipA
  rw [List.zip_map, List.map_map]
  rfl
theorem zip_comp {gs : Gd} {s : S} (hg : gOk gs s) (a b : List Int) (Q : List AV -> S -> Prop) :
    (compL (gT 2 (gCons' (gN 0) (gCons' (gN 1) gNil'))) cYes (mTup (pCons (mv 0) (pCons (mBin opSub (mv 1) (mv 0)) pNil))) gs (zipA (a.map AV.int) (b.map AV.int)) [none, none] s []).wp Q = Q (prs a b) s := by
  rw [zip_ints]
  refine wpe (R.wp.eq (comp_wp (fun ys acc env st => st = s /\ ∃ (r : List (Int × Int)) (x y : Option AV), ys = (r.map fun p => AV.tup [.int p.1, .int p.2]) /\ env = [x, y] /\ acc ++ (r.map fun p => AV.tup [.int p.1, .int (p.2 - p.1)]) = prs a b) ?_ ?_ ?_ _ _ _ _ ⟨rfl, a.zip b, none, none, rfl, rfl, rfl⟩)) Q
  · rintro _ _ _ st ⟨rfl, _⟩; exact hg
  · rintro acc env st ⟨rfl, r, x, y, e, rfl, h⟩
    cases r with
    | nil => exact ⟨by rw [← h]; simp, rfl⟩
    | cons => cases e
  · rintro v r acc env st ⟨rfl, r', x, y, e, rfl, h⟩
    cases r' with
    | nil => cases e
    | cons p r' =>
      cases e
      walk_at "w"
      exact ⟨r', _, _, rfl, rfl, by rw [← h]; simp⟩
def cutsR (rows : List Rw) (f m : Int) : List Int := sortI (uniq ((upR rows).filter (btw f (f + m))))
def usX (rows : List Rw) (f m : Int) : S := [.lst ((upR rows).map .int), .lst ((cutsR rows f m).map .int), .lst [.int f], .lst ((f :: cutsR rows f m).map .int), .lst [.int (f + m)], .lst ((cutsR rows f m ++ [f + m]).map .int), .lst (prs (f :: cutsR rows f m) (cutsR rows f m ++ [f + m]))]
theorem cuts_len (rows : List Rw) (f m : Int) : (cutsR rows f m).length <= (upR rows).length := by
  unfold cutsR uniq
  rw [(sortI_perm _).length_eq]
  have h1 := fold_len ((upR rows).filter (btw f (f + m))) []
  have h2 := List.length_filter_le (btw f (f + m)) (upR rows)
  simp only [List.length_nil] at h1
  omega
theorem us_eq {rows : List Rw} (hl : (upR rows).length < 64) (f m : Int) (s : S) : f_unit_stretches [.tup (rows.map rv), .int f, .int m] s = .ok (.ref (s.length + 6)) (s ++ usX rows f m) := by
  have hc := cuts_len rows f m
  apply R.wp.eq
  unfold f_unit_stretches b_unit_stretches
  simp only [↓WS, ↓WE, ↓WV, Lq, len_sz, UU, Nat.reduceSub, ↓reduceIte, ↓wp_comp2]
  refine c2_rows rows _ s [] _ rfl (by simp; omega) ?_
  simp only [↓WS, ↓WE, ↓WV, Lq, len_sz, UU, Nat.reduceSub, ↓reduceIte, ↓wp_setC, List.nil_append]
  rw [show walkO (.ref s.length) (s ++ [.lst ((upR rows).map AV.int)]) = .ok ((upR rows).map AV.int, [(s.length, (upR rows).map AV.int)]) (s ++ [.lst ((upR rows).map AV.int)]) by show (need (lstO _ _) _) = _; rw [lst_new]; rfl]
  walk_at "w"
  refine ⟨by rw [List.length_map]; exact hl, ?_⟩
  refine cS_ints (by rw [gOk_one]; exact lst_new _ _) _ _ _ _ ?_
  rw [show (List.filter (btw f (f + m)) (upR rows)).foldl insK [] = uniq ((upR rows).filter (btw f (f + m))) from rfl]
  rw [show sortI (uniq ((upR rows).filter (btw f (f + m)))) = cutsR rows f m from rfl]
  have e0 : (s ++ [AO.lst ((upR rows).map AV.int)]).length = s.length + 1 := by simp
  generalize hs1 : s ++ [AO.lst ((upR rows).map AV.int)] = s1 at e0 ⊢
  generalize hC : cutsR rows f m = C at hc ⊢
  simp only [↓WS, ↓WE, ↓WV, Lq, len_sz, UU, Nat.reduceSub, ↓reduceIte, ↓wp_srcZ]
  have l1 : lstO (s1 ++ [.lst (C.map AV.int)]) s1.length = some (C.map AV.int) := lst_new _ _
  generalize hs2 : s1 ++ [.lst (C.map AV.int)] = s2 at l1 ⊢
  have e1 : s2.length = s.length + 2 := by rw [← hs2]; simp [e0]
  rw [wpe (cat_eq (lst_new s2 _) (lstO_app l1) (szl (by simp; omega)))]
  try walk_at "w"
  have l2 := lst_new (s2 ++ [AO.lst [.int f]]) ([.int f] ++ C.map AV.int)
  have l1' : lstO ((s2 ++ [AO.lst [.int f]]) ++ [.lst ([.int f] ++ C.map AV.int)]) s1.length = some (C.map AV.int) := lstO_app (lstO_app l1)
  have e2 : (s2 ++ [AO.lst [.int f]]).length = s.length + 3 := by simp [e1]
  generalize hs3 : (s2 ++ [AO.lst [.int f]]) ++ [.lst ([.int f] ++ C.map AV.int)] = s3 at l2 l1' ⊢
  have e3 : s3.length = s.length + 4 := by rw [← hs3]; simp [e1]
  rw [wpe (cat_eq (lstO_app l1') (lst_new s3 _) (szl (by simp; omega)))]
  have l3 := lst_new (s3 ++ [AO.lst [.int (f + m)]]) (C.map AV.int ++ [.int (f + m)])
  have l2' : lstO ((s3 ++ [AO.lst [.int (f + m)]]) ++ [.lst (C.map AV.int ++ [.int (f + m)])]) (s2 ++ [AO.lst [.int f]]).length = some ((f :: C).map AV.int) := lstO_app (lstO_app l2)
  have l3' : lstO ((s3 ++ [AO.lst [.int (f + m)]]) ++ [.lst (C.map AV.int ++ [.int (f + m)])]) (s3 ++ [AO.lst [.int (f + m)]]).length = some ((C ++ [f + m]).map AV.int) := by rw [l3]; simp
  simp only [↓WS, ↓WE, ↓WV, Lq, len_sz, UU, Nat.reduceSub, ↓reduceIte, zipO, seqK, l2', l3', Option.map_some]
  refine ⟨szl ?_, ?_⟩
  · unfold zipA
    simp
    omega
  rw [show AV.int f :: C.map AV.int = (f :: C).map AV.int from rfl, zip_comp ?_]
  · refine ⟨?_, ?_⟩
    · simp [e3]
    · rw [← hs3, ← hs2, ← hs1]
      unfold usX
      rw [hC]
      simp
  · intro p hp
    simp only [List.cons_append, List.nil_append, List.mem_cons, List.not_mem_nil, or_false] at hp
    rcases hp with rfl | rfl
    · exact l2'
    · exact l3'
end Ro
namespace Mm
open PySem L2 Sx
theorem wp_setV (m : Ev) (env : En) (s : S) (Q : List AV -> S -> Prop) : (gSetV m env s).wp Q = (m env s).wp fun v s1 => match v with | .ref i => (need (lstO s1 i) fun l => setSort l s1).wp Q | _ => False := by
  unfold gSetV
  rw [wp_bind]
  congr 1
  funext v s1
  cases v <;> rfl
theorem ins_filter {K : Type} [DecidableEq K] (p : K -> Bool) (acc : List K) (a : K) : (insK acc a).filter p = if p a = true then insK (acc.filter p) a else acc.filter p := by
  unfold insK
  by_cases h : a ∈ acc
  · rw [if_pos h]
    by_cases hp : p a = true
    · rw [if_pos hp, if_pos (List.mem_filter.mpr ⟨h, hp⟩)]
    · rw [if_neg hp]
  · rw [if_neg h, List.filter_append]
    by_cases hp : p a = true
    · rw [if_pos hp, if_neg (fun z => h (List.mem_filter.mp z).1)]
      simp [hp]
    · rw [if_neg hp]
      simp [hp]
theorem uniq_filter {K : Type} [DecidableEq K] (p : K -> Bool) : ∀ (l acc : List K), (l.foldl insK acc).filter p = (l.filter p).foldl insK (acc.filter p)
  | [], acc => rfl
  | a :: l, acc => by
    rw [List.foldl_cons, uniq_filter p l, ins_filter, List.filter_cons]
    by_cases hp : p a = true
    · rw [if_pos hp, if_pos hp, List.foldl_cons]
    · rw [if_neg hp, if_neg hp]
theorem sort_filter (p : Int -> Bool) (l : List Int) : (sortI (uniq l)).filter p = sortI (uniq (l.filter p)) := by
  refine sortI_uniq ?_ ((sortI_sorted _).filter _)
  have h := uniq_filter p l []
  unfold uniq
  rw [List.filter_nil] at h
  rw [← h]
  exact (sortI_perm _).filter _
theorem cut1 {α : Type} (x : α) (xs : List α) : cutA (x :: xs) (some 1) none = xs := by
  unfold cutA
  have h1 : HT.sIx (x :: xs).length 0 (some 1) = 1 := by unfold HT.sIx; simp
  have h2 : HT.sIx (x :: xs).length (x :: xs).length none = (x :: xs).length := rfl
  rw [h1, h2]
  simp
theorem zip_last (g : Int) : ∀ (C : List Int) (a : Int), (a :: (C ++ [g])).zip (C ++ [g]) = (a :: C).zip (C ++ [g])
  | [], a => rfl
  | c :: C, a => by
    have := zip_last g C c
    show (a, c) :: (c :: (C ++ [g])).zip (C ++ [g]) = (a, c) :: (c :: C).zip (C ++ [g])
    rw [this]
end Mm
namespace Ro
open PySem L2 Mm Sx
theorem up_comp (us : List (Int × Rat)) (z : Rat) (s : S) (Q : List AV -> S -> Prop) :
    (compL (gT 2 (gCons' (gN 0) (gCons' (gN 1) gNil'))) (cB (mBin opIsntN (mv 0) (mc .non))) (mv 0) [] (us.map stE ++ [.tup [.non, fq z]]) [none, none] s []).wp Q = Q ((us.map (·.1)).map AV.int) s := by
  refine wpe (R.wp.eq (comp_wp (fun ys acc env st => st = s /\ ∃ (x y : Option AV), env = [x, y] /\ ((∃ r : List (Int × Rat), ys = r.map stE ++ [.tup [.non, fq z]] /\ acc ++ (r.map (·.1)).map AV.int = (us.map (·.1)).map AV.int) ∨ (ys = [] /\ acc = (us.map (·.1)).map AV.int))) ?_ ?_ ?_ _ _ _ _ ⟨rfl, none, none, rfl, .inl ⟨us, rfl, rfl⟩⟩)) Q
  · rintro _ _ _ st _ p hp; cases hp
  · rintro acc env st ⟨rfl, x, y, rfl, ⟨r, e, _⟩ | ⟨_, h⟩⟩
    · cases r <;> cases e
    · exact ⟨h, rfl⟩
  · rintro v r acc env st ⟨rfl, x, y, rfl, ⟨r', e, h⟩ | ⟨e, _⟩⟩
    · cases r' with
      | nil =>
        cases e
        simp only [↓WS, ↓WE, ↓WV, Lq, len_sz, UU, Nat.reduceSub, ↓reduceIte, isNon, Bool.not_true]
        exact ⟨_, _, rfl, .inr (by simpa using h)⟩
      | cons p r' =>
        cases e
        rw [show stE p = .tup [.int p.1, fq p.2] from rfl]
        simp only [↓WS, ↓WE, ↓WV, Lq, len_sz, UU, Nat.reduceSub, ↓reduceIte, isNon, Bool.not_false]
        exact ⟨_, _, rfl, .inl ⟨r', rfl, by rw [← h]; simp⟩⟩
    · cases e
theorem uptos_wp {rows : List Rw} (hl : (upR rows).length < 64) (s : S) : (f__law_uptos [.tup (rows.map rv)] s).wp fun v s' => ∃ j e, v = .ref j /\ s' = s ++ e /\ s.length <= j /\ lstO s' j = some ((sortI (uniq (upR rows))).map AV.int) := by
  unfold f__law_uptos b__law_uptos
  walk_at "w"
  refine for_wp (fun xs env st => ∃ (r : List Rw) (us : List Int) (j : Nat) (x : Option AV) (e : S), xs = r.map rv /\ us ++ upR r = upR rows /\ lstO st j = some (us.map AV.int) /\ s.length <= j /\ st = s ++ e /\ env = [some (.tup (rows.map rv)), some (.ref j), x]) ?_ ?_ ?_ _ _ _ ⟨rows, [], s.length, none, _, rfl, rfl, lst_new _ _, Nat.le_refl _, rfl, rfl⟩
  · rintro _ _ st _ p hp; cases hp
  · rintro env st ⟨r, us, j, x, e, e1, e2, e3, e4, rfl, rfl⟩
    cases r with
    | cons => cases e1
    | nil =>
      have e2 : us = upR rows := by simpa [upR] using e2
      subst e2
      simp only [↓WS, ↓WE, ↓WV, Lq, len_sz, UU, Nat.reduceSub, ↓reduceIte, ↓wp_setV, e3, ↓wp_setSort]
      exact ⟨hl, _, e ++ [AO.lst ((sortI (uniq (upR rows))).map AV.int)], rfl, by rw [List.append_assoc], by simp, lst_new _ _⟩
  · rintro v r env st ⟨r', us, j, x, e, e1, e2, e3, e4, rfl, rfl⟩
    cases r' with
    | nil => cases e1
    | cons p r' =>
      cases e1
      cases p with
      | steps n ps z =>
        have e2 : us ++ (ps.map (·.1) ++ upR r') = upR rows := e2
        rw [show rv (.steps n ps z) = .tup [.str "steps", .str n, .tup (ps.map stE ++ [.tup [.non, fq z]])] from rfl]
        have hu : us.length + ps.length < 64 := by rw [← e2] at hl; simp at hl; omega
        simp only [↓WS, ↓WE, ↓WV, Lq, len_sz, UU, Nat.reduceSub, ↓reduceIte, eq_self, ↓up_comp]
        refine ⟨szl (by simp; omega), ?_⟩
        rw [wpe (cat_eq (lstO_app e3) (lst_new _ _) (szl (by simp; omega)))]
        refine ⟨r', us ++ ps.map (·.1), _, _, e ++ ([AO.lst ((ps.map (·.1)).map AV.int)] ++ [AO.lst (us.map AV.int ++ (ps.map (·.1)).map AV.int)]), rfl, by rw [← e2, List.append_assoc], ?_, ?_, ?_, rfl⟩
        · rw [lst_new, List.map_append]
        · simp
        · simp only [List.append_assoc]
      | of n q =>
        have e2 : us ++ upR r' = upR rows := e2
        rw [show rv (.of n q) = .tup [.str "of", .str n, fq q] from rfl]
        simp only [↓WS, ↓WE, ↓WV, Lq, len_sz, UU, Nat.reduceSub, ↓reduceIte, SD]
        exact ⟨r', us, j, _, e, rfl, e2, e3, e4, rfl, rfl⟩
      | left n q =>
        have e2 : us ++ upR r' = upR rows := e2
        rw [show rv (.left n q) = .tup [.str "left", .str n, fq q] from rfl]
        simp only [↓WS, ↓WE, ↓WV, Lq, len_sz, UU, Nat.reduceSub, ↓reduceIte, SD]
        exact ⟨r', us, j, _, e, rfl, e2, e3, e4, rfl, rfl⟩
      | len n q =>
        have e2 : us ++ upR r' = upR rows := e2
        rw [show rv (.len n q) = .tup [.str "length", .str n, .int q] from rfl]
        simp only [↓WS, ↓WE, ↓WV, Lq, len_sz, UU, Nat.reduceSub, ↓reduceIte, SD]
        exact ⟨r', us, j, _, e, rfl, e2, e3, e4, rfl, rfl⟩
theorem fil_comp (us : List Int) (f m : Int) (s : S) (Q : List AV -> S -> Prop) :
    (compL (gN 0) (cAnd (cB (mBin opLt (mv 1) (mv 0))) (cB (mBin opLt (mv 0) (mBin opAdd (mv 1) (mv 2))))) (mv 0) [] (us.map AV.int) [none, some (.int f), some (.int m)] s []).wp Q = Q ((us.filter (btw f (f + m))).map AV.int) s := by
  refine wpe (R.wp.eq (comp_wp (fun ys acc env st => st = s /\ ∃ (r : List Int) (x : Option AV), ys = r.map AV.int /\ env = [x, some (.int f), some (.int m)] /\ acc ++ (r.filter (btw f (f + m))).map AV.int = (us.filter (btw f (f + m))).map AV.int) ?_ ?_ ?_ _ _ _ _ ⟨rfl, us, none, rfl, rfl, rfl⟩)) Q
  · rintro _ _ _ st _ p hp; cases hp
  · rintro acc env st ⟨rfl, r, x, e, rfl, h⟩
    cases r with
    | nil => exact ⟨by rw [← h]; simp, rfl⟩
    | cons => cases e
  · rintro v r acc env st ⟨rfl, r', x, e, rfl, h⟩
    cases r' with
    | nil => cases e
    | cons u r' =>
      cases e
      rw [List.filter_cons] at h
      walk_at "w"
      by_cases h1 : f < u
      · by_cases h2 : u < f + m
        · rw [show btw f (f + m) u = true by simp [btw, h1, h2], if_pos rfl] at h
          simp only [h1, h2, if_true]
          try walk_at "w"
          exact ⟨r', _, rfl, rfl, by rw [← h]; simp⟩
        · rw [show btw f (f + m) u = false by simp [btw, h2], if_neg (by decide)] at h
          simp only [h1, h2, if_true, if_false]
          try walk_at "w"
          exact ⟨r', _, rfl, rfl, h⟩
      · rw [show btw f (f + m) u = false by simp [btw, h1], if_neg (by decide)] at h
        simp only [h1, if_false]
        try walk_at "w"
        exact ⟨r', _, rfl, rfl, h⟩
theorem uq_len (rows : List Rw) : (sortI (uniq (upR rows))).length <= (upR rows).length := by
  unfold uniq
  rw [(sortI_perm _).length_eq]
  have h1 := fold_len (upR rows) []
  simp only [List.length_nil] at h1
  omega
theorem due_wp {rows : List Rw} (hl : (upR rows).length < 64) (f m : Int) {s : S} (cl : Cl s) : (f__law_due [.tup (rows.map rv), .int f, .int m] s).wp fun v s' => ∃ j e, v = .ref j /\ s' = s ++ e /\ s.length <= j /\ lstO s' j = some (prs (f :: cutsR rows f m) (cutsR rows f m ++ [f + m])) := by
  have hc := cuts_len rows f m
  unfold f__law_due b__law_due
  walk_at "w"
  refine (uptos_wp hl s).mono ?_
  rintro _ _ ⟨j, e, rfl, rfl, h1, h2⟩
  simp only [↓WS, ↓WE, ↓WV, Lq, len_sz, UU, Nat.reduceSub, ↓reduceIte, h2, ↓wp_if, List.take_left, show s.all (AO.low s.length) = true from cl, low_ints, h1]
  have hq := uq_len rows
  refine ⟨szl (by simp; omega), ?_⟩
  rw [fil_comp, sort_filter, show sortI (uniq ((upR rows).filter (btw f (f + m)))) = cutsR rows f m from rfl]
  generalize cutsR rows f m = C at hc ⊢
  try walk_at "w"
  rw [wpe (cat_eq (lst_new _ _) (lstO_app (lst_new s _)) (szl (by simp; omega)))]
  try walk_at "w"
  rw [wpe (cat_eq (lstO_app (lst_new _ _)) (lst_new _ _) (szl (by simp; omega)))]
  generalize hs1 : s ++ [AO.lst (C.map AV.int)] ++ [AO.lst [.int f]] ++ [AO.lst ([.int f] ++ C.map AV.int)] ++ [AO.lst [.int (f + m)]] = s1
  have l1 : lstO (s1 ++ [AO.lst ([.int f] ++ C.map AV.int ++ [.int (f + m)])]) s1.length = some ((f :: (C ++ [f + m])).map AV.int) := by rw [lst_new]; simp
  simp only [↓WS, ↓WE, ↓WV, Lq, len_sz, UU, Nat.reduceSub, ↓reduceIte, ↓wp_srcZ]
  have e2 : opSl (.ref s1.length) (some 1) none (s1 ++ [AO.lst ([.int f] ++ C.map AV.int ++ [.int (f + m)])]) = .ok (.ref (s1 ++ [AO.lst ([.int f] ++ C.map AV.int ++ [.int (f + m)])]).length) ((s1 ++ [AO.lst ([.int f] ++ C.map AV.int ++ [.int (f + m)])]) ++ [AO.lst ((C ++ [f + m]).map AV.int)]) := by
    show (need (lstO _ _) _) = _
    rw [l1, need_some, List.map_cons, cut1]
  rw [wpe e2]
  generalize hs2 : s1 ++ [AO.lst ([.int f] ++ C.map AV.int ++ [.int (f + m)])] = s2 at l1 ⊢
  have l1' : lstO (s2 ++ [AO.lst ((C ++ [f + m]).map AV.int)]) s1.length = some ((f :: (C ++ [f + m])).map AV.int) := lstO_app l1
  have l2 := lst_new s2 ((C ++ [f + m]).map AV.int)
  generalize hL : f :: (C ++ [f + m]) = L1 at l1'
  simp only [↓WS, ↓WE, ↓WV, Lq, len_sz, UU, Nat.reduceSub, ↓reduceIte, zipO, seqK, l1', l2, Option.map_some]
  refine ⟨szl ?_, ?_⟩
  · unfold zipA
    rw [← hL]
    simp
    omega
  rw [zip_comp ?_]
  · obtain ⟨e', he'⟩ : ∃ e', s2 = s ++ e' := by
      rw [← hs2, ← hs1]
      exact ⟨_, by simp only [List.append_assoc]; rfl⟩
    refine ⟨_, e' ++ ([AO.lst ((C ++ [f + m]).map AV.int)] ++ [AO.lst (prs L1 (C ++ [f + m]))]), rfl, ?_, ?_, ?_⟩
    · rw [he']; simp only [List.append_assoc]
    · rw [he']; simp
    · rw [lst_new]
      unfold prs
      rw [← hL, zip_last]
  · intro p hp
    simp only [List.cons_append, List.nil_append, List.mem_cons, List.not_mem_nil, or_false] at hp
    rcases hp with rfl | rfl
    · exact l1'
    · exact l2
end Ro
namespace Ro
open PySem L2 Mm Sx
theorem fq160 : fq (Rat.divInt 1 60) = .tup [.int 1, .int 60] := by
  have h : Rat.divInt 1 60 = (Rat.divInt 1 60 : Rat) := rfl
  unfold fq
  have h1 : (Rat.divInt 1 60).num = 1 := by decide +kernel
  have h2 : (Rat.divInt 1 60).den = 60 := by decide +kernel
  rw [h1, h2]; rfl
theorem low_rvl (b : Nat) : ∀ l : List Rw, lowL b (l.map rv) = true
  | [] => by simp [lowL]
  | r :: l => by rw [List.map_cons]; simp only [lowL, low_rv, low_rvl b l, Bool.and_true]
theorem upR_app : ∀ a b : List Rw, upR (a ++ b) = upR a ++ upR b
  | [], b => rfl
  | .of _ _ :: a, b => upR_app a b
  | .left _ _ :: a, b => upR_app a b
  | .len _ _ :: a, b => upR_app a b
  | .steps _ us _ :: a, b => by show us.map (·.1) ++ upR (a ++ b) = us.map (·.1) ++ upR a ++ upR b; rw [upR_app a b, List.append_assoc]
theorem far_wp {c d n : Nat} {s : S} (D : Dr c d n s) (hn : n <= 900001000) {far : Int} (f0 : 0 < far) (f1 : far <= 1000000) (k : Nat) (hk : k <= 3) (Q : List AV -> S -> Prop)
    (h : ∀ (us : List Int) s', us.length = k -> Dr c d (n + k) s' -> Kp c d s s' -> Q (us.map AV.int) s') :
    (compL (gN 0) cYes (mBin opAdd (mc (.int 1)) (mCall 2 f__law_take (pCons (mv 1) (pCons (mv 2) pNil)))) [] (rngA 0 k) [none, some (.ref d), some (.int far)] s []).wp Q := by
  refine comp_wp (fun ys acc env st => ∃ (us : List Int) (x : Option AV), acc = us.map AV.int /\ ys.length + us.length = k /\ env = [x, some (.ref d), some (.int far)] /\ Dr c d (n + us.length) st /\ Kp c d s st) ?_ ?_ ?_ _ _ _ _ ⟨[], none, rfl, by simp [rngA], rfl, D, .refl c d s⟩
  · rintro _ _ _ st _ p hp; cases hp
  · rintro acc env st ⟨us, x, rfl, hl, rfl, D1, K1⟩
    have hl : us.length = k := by simpa using hl
    exact h us st hl (hl ▸ D1) K1
  · rintro v r acc env st ⟨us, x, rfl, hl, rfl, D1, K1⟩
    have hl : r.length + 1 + us.length = k := hl
    walk_at "w"
    refine (take_wp D1 (by omega) (by omega) (fit9 (by omega) (by omega))).mono ?_
    rintro _ s1 ⟨j, rfl, j0, j1, D2, K2⟩
    walk_at "w"
    exact ⟨us ++ [1 + j], _, by simp, by simp; omega, rfl, by simpa [Nat.add_assoc] using D2, K1.trans K2⟩
theorem rates_wp {c d n : Nat} {s : S} (D : Dr c d n s) (hn : n <= 900001000) {gs : Gd} (hg : ∀ s', Kp c d s s' -> gOk gs s') (us : List Int) (hu : us.length <= 3) (Q : List AV -> S -> Prop)
    (h : ∀ (ps : List (Int × Rat)) s', ps.length = us.length -> Dr c d (n + 3) s' -> Kp c d s s' -> Q (ps.map stE) s') :
    (compL (gN 0) cYes (mTup (pCons (mv 0) (pCons (mCall 2 f__law_lowest (pCons (mBin opAdd (mc (.int 1)) (mCall 2 f__law_take (pCons (mv 1) (pCons (mc (.int 15)) pNil)))) (pCons (mc (.int 60)) pNil))) pNil))) gs (us.map AV.int) [none, some (.ref d)] s []).wp Q := by
  refine comp_wp (fun ys acc env st => ∃ (r : List Int) (ps : List (Int × Rat)) (x : Option AV), ys = r.map AV.int /\ acc = ps.map stE /\ r.length + ps.length = us.length /\ env = [x, some (.ref d)] /\ Dr c d (n + ps.length) st /\ Kp c d s st) ?_ ?_ ?_ _ _ _ _ ⟨us, [], none, rfl, rfl, by simp, rfl, D, .refl c d s⟩
  · rintro _ _ _ st ⟨_, _, _, _, _, _, _, _, K⟩; exact hg st K
  · rintro acc env st ⟨r, ps, x, e, rfl, hl, rfl, D1, K1⟩
    cases r with
    | cons => cases e
    | nil =>
      have hl : ps.length = us.length := by simpa using hl
      exact h ps st hl (D1.mono (by omega)) K1
  · rintro v r acc env st ⟨r', ps, x, e, rfl, hl, rfl, D1, K1⟩
    cases r' with
    | nil => cases e
    | cons u r' =>
      cases e
      have hl : r'.length + 1 + ps.length = us.length := hl
      walk_at "w"
      refine (take_wp D1 (by omega) (by omega) (fit9 (by omega) (by omega))).mono ?_
      rintro _ s1 ⟨j, rfl, j0, j1, D2, K2⟩
      simp only [↓WS, ↓WE, ↓WV, Lq, len_sz, UU, Nat.reduceSub, ↓reduceIte, ↓wpe (lowest60 (a := 1 + j) (b := 60) _ (by omega) (by omega) (by omega) (by omega))]
      exact ⟨r', ps ++ [(u, Rat.divInt (1 + j) 60)], _, rfl, by simp [stE], by simp; omega, rfl, by simpa [Nat.add_assoc] using D2, K1.trans K2⟩
theorem cat_tup (xs ys : List AV) (s : S) (hy : ys ≠ []) (hl : xs.length + ys.length <= sizeLine) : opAdd (.tup xs) (.tup ys) s = .ok (.tup (xs ++ ys)) s := by
  show (if ys ≠ [] /\ xs.length + ys.length <= sizeLine then R.ok (AV.tup (xs ++ ys)) s else .bad) = _
  rw [if_pos ⟨hy, hl⟩]
theorem stepped_wp {c d n : Nat} {s : S} (D : Dr c d n s) (hn : n <= 700000000) : (f__law_stepped [.ref d] s).wp fun v s' => ∃ rows, v = .tup (rows.map rv) /\ (upR rows).length <= 12 /\ Dr c d (n + 100) s' /\ Gk c d s s' := by
  have lc := D.ltc
  have ld := D.ltd
  unfold f__law_stepped b__law_stepped
  simp only [↓WS, ↓WE, ↓WV, Lq, len_sz, UU, Nat.reduceSub, ↓reduceIte, ↓wp_srcR]
  have D0 := D.app (e := [.lst []]) (D.cl.add (by simp [AO.low, lowL]))
  refine (take_wp D0 (by omega) (by omega) (fit9 (by omega) (by omega))).mono ?_
  rintro _ s1 ⟨k, rfl, k0, k1, D1, K1⟩
  walk_at "w"
  refine ⟨⟨by omega, by omega⟩, ?_⟩
  have l1 : lstO s1 s.length = some [] := K1.gk.lst (n := 0) (by omega) (by omega) (lst_new s _)
  refine for_wp (fun xs env st => ∃ (rows : List Rw) (x2 x3 x4 x5 : Option AV), xs.length + rows.length <= 4 /\ (upR rows).length <= 3 * rows.length /\ lstO st s.length = some (rows.map rv) /\ env = [some (.ref d), some (.ref s.length), x2, x3, x4, x5] /\ Dr c d (n + 1 + 20 * rows.length) st /\ Gk c d s st) ?_ ?_ ?_ _ _ _ ⟨[], none, none, none, none, by simp [rngA]; omega, by simp [upR], l1, rfl, D1, (Gk.app c d s _).trans K1.gk⟩
  · rintro _ _ st _ p hp; cases hp
  · rintro env st ⟨rows, x2, x3, x4, x5, h1, h2, h3, rfl, D2, G2⟩
    have h1 : 0 + rows.length <= 4 := h1
    simp only [↓WS, ↓WE, ↓WV, Lq, len_sz, UU, Nat.reduceSub, ↓reduceIte, items, h3, qTuple]
    first
      | exact ⟨rows, rfl, by omega, D2.mono (by omega), G2⟩
      | exact ⟨szl (by simp; omega), rows, rfl, by omega, D2.mono (by omega), G2⟩
  · rintro v r env st ⟨rows, x2, x3, x4, x5, h1, h2, h3, rfl, D2, G2⟩
    have h1 : r.length + 1 + rows.length <= 4 := h1
    simp only [↓WS, ↓WE, ↓WV, Lq, len_sz, UU, Nat.reduceSub, ↓reduceIte, show (10 : Int) ^ (6 : Int).toNat = 1000000 by decide, show CPow 10 6 = True from eq_true (by decide)]
    refine (pick_wp D2 (by omega) (m := 3) rfl (by omega) (by omega) (P := fun b => 0 < b /\ b <= 1000000) ?_).mono ?_
    · intro v hv
      simp only [List.mem_cons, List.not_mem_nil, or_false] at hv
      rcases hv with rfl | rfl | rfl <;> exact ⟨_, rfl, by omega, by omega⟩
    rintro w s2 ⟨far, ev, ⟨f0, f1⟩, al, D3, K3⟩
    simp only [↓WS, ↓WE, ↓WV, Lq, len_sz, UU, Nat.reduceSub, ↓reduceIte, ↓wpe ev, al, show AV.low st.length (.int far) = true by simp [AV.low]]
    revert D3 K3 al
    generalize s2.take st.length = s3
    intro al D3 K3
    simp only [↓WS, ↓WE, ↓WV, Lq, len_sz, UU, Nat.reduceSub, ↓reduceIte, ↓wp_setN, ↓wp_srcR]
    refine (take_wp D3 (by omega) (by omega) (fit9 (by omega) (by omega))).mono ?_
    rintro _ s4 ⟨q, rfl, q0, q1, D4, K4⟩
    walk_at "w"
    refine ⟨⟨by omega, by omega⟩, szl (by simp [rngA]; omega), ?_⟩
    refine far_wp D4 (by omega) f0 f1 (1 + q).toNat (by omega) _ fun us s5 hu D5 K5 => ?_
    rw [wp_setSort]
    refine ⟨by omega, ?_⟩
    have hql : (sortI (uniq us)).length <= us.length := by
      unfold uniq
      rw [(sortI_perm _).length_eq]
      have := fold_len us []
      simp only [List.length_nil] at this
      omega
    generalize sortI (uniq us) = U at hql ⊢
    have D5' := D5.app (e := [.lst (U.map AV.int)]) (D5.cl.add (by simp [AO.low, low_ints]))
    have lU := lst_new s5 (U.map AV.int)
    have G5 : Gk c d s (s5 ++ [.lst (U.map AV.int)]) := ((((G2.trans K3.gk).trans K4.gk).trans K5.gk).trans (Gk.app c d s5 _))
    have l5 : lstO (s5 ++ [.lst (U.map AV.int)]) s.length = some (rows.map rv) := lstO_app (K5.gk.lst (n := 0) (by omega) (by omega) (K4.gk.lst (n := 0) (by omega) (by omega) (K3.gk.lst (n := 0) (by omega) (by omega) h3)))
    have lc5 := D5.ltc
    have ld5 := D5.ltd
    generalize hs6 : s5 ++ [.lst (U.map AV.int)] = s6 at D5' lU G5 l5 ⊢
    try walk_at "w"
    rw [show walkO (.ref s5.length) s6 = .ok (U.map AV.int, [(s5.length, U.map AV.int)]) s6 by show (need (lstO _ _) _) = _; rw [lU]; rfl]
    walk_at "w"
    refine ⟨szl (by simp; omega), ?_⟩
    refine rates_wp D5' (by omega) (fun s' K => by rw [gOk_one]; exact K.gk.lst (n := 0) (by omega) (by omega) lU) U (by omega) _ fun ps s7 hps D7 K7 => ?_
    have l7 := K7.gk.lst (n := 0) (by omega) (by omega) l5
    simp only [↓WS, ↓WE, ↓WV, Lq, len_sz, UU, Nat.reduceSub, ↓reduceIte, qTuple, isL_at l7]
    refine (names_wp D7 (by omega) (by omega) (by omega)).mono ?_
    rintro _ s8 ⟨j, zs, rfl, j0, j1, j2, D8, G8⟩
    obtain ⟨D9, K9, al9⟩ := G8.cut D7 D8
    have z1 : zs.length = 1 := by omega
    obtain ⟨nm, rfl⟩ : ∃ nm, zs = [nm] := List.length_eq_one_iff.mp z1
    have el : (s8.take s7.length).length = s7.length := K9.len
    simp only [↓WS, ↓WE, ↓WV, Lq, len_sz, UU, Nat.reduceSub, ↓reduceIte, j1, ↓wp_if, al9, low_strs, j0]
    revert D9 K9 al9 el
    generalize s8.take s7.length = s9
    intro D9 K9 al9 el
    have et : (s9 ++ [AO.lst [AV.str nm]]).take s7.length = s9 := by rw [← el]; exact List.take_left
    have l9 := K9.gk.lst (n := 0) (by omega) (by omega) l7
    simp only [↓WS, ↓WE, ↓WV, Lq, len_sz, UU, Nat.reduceSub, ↓reduceIte, lst_new, et, al9, show AV.low s7.length (.str nm) = true by simp [AV.low], ↓wpe (cat_tup (ps.map stE) [.tup [.non, .tup [.int 1, .int 60]]] s9 (by simp) (szl (by simp; omega))), ↓wpe (append_at l9 (small1000 (by simp; omega)))]
    refine ⟨low_strs _ [nm], rows ++ [.steps nm ps (Rat.divInt 1 60)], _, _, _, _, by rw [List.length_append]; show r.length + (rows.length + 1) <= 4; omega, ?_, ?_, rfl, ?_, ?_⟩
    · rw [upR_app]; simp [upR]; omega
    · rw [lst_set l9, List.map_append, ← fq160]; rfl
    · refine (D9.mono (by simp; omega)).set (by omega) (by omega) ?_
      rw [← fq160]
      simp [AO.low, lowL_app, low_rvl, low_st, lowL, AV.low, low_fq]
    · exact (((G5.trans K7.gk).trans K9.gk)).set (Nat.le_refl _)
end Ro
namespace Ro
open PySem L2 Mm Sx
theorem up_good : ∀ {rows : List Rw}, (∀ r ∈ rows, ∃ w, RwOk w r) -> (upR rows).length <= 3 * rows.length
  | [], _ => by simp [upR]
  | r :: rows, h => by
    have ih := up_good (rows := rows) fun r hr => h r (.tail _ hr)
    obtain ⟨w, hw⟩ := h r (.head _)
    cases r with
    | steps n us z =>
      have hl : us.length <= 3 := hw.2.2.1
      simp only [upR, List.length_append, List.length_map, List.length_cons]
      omega
    | _ => simp only [upR, List.length_cons]; omega
theorem prs_len (a b : List Int) : (prs a b).length <= a.length := by
  unfold prs
  simp
  omega
theorem low_prs (b : Nat) (x y : List Int) : lowL b (prs x y) = true := by
  unfold prs
  generalize x.zip y = l
  induction l with
  | nil => simp [lowL]
  | cons p l ih => simp only [List.map_cons, lowL, ih]; simp [AV.low, lowL]
theorem same_prs {i j : Nat} {x y : List Int} {s : S} (hl : x.length <= 1000) (h1 : lstO s i = some (prs x y)) (h2 : lstO s j = some (prs x y)) : f__law_same 9 [.ref i, .ref j] s = .ok (.bl true) s :=
  same_lst (szl (by have := prs_len x y; omega)) h1 h2 fun v hv => by
    obtain ⟨p, _, rfl⟩ := List.mem_map.mp hv
    exact same_tup (szl (by show 2 <= 1000; omega)) fun w hw => by
      simp only [List.mem_cons, List.not_mem_nil, or_false] at hw
      rcases hw with rfl | rfl <;> exact same_int _ _ _
theorem us_at (rows : List Rw) (f m : Int) (s : S) : lstO (s ++ usX rows f m) (s.length + 6) = some (prs (f :: cutsR rows f m) (cutsR rows f m ++ [f + m])) := lst_at s _ 6
theorem pickA_wp {c d n : Nat} {s : S} (D : Dr c d n s) (hn : n <= 900001000) {xs : List AV} {m : Int} (hm : m = xs.length) (hm0 : 0 < m) (hm1 : m <= 10) (lx : ∀ b, lowL b xs = true) :
    (f__law_take [.ref d, .int m] (s ++ [.lst xs])).wp fun v s2 => ∃ w, w ∈ xs /\ opIx (.ref s.length) v s2 = .ok w s2 /\ Dr c d (n + 1) s2 /\ Gk c d s s2 := by
  have D1' := D.app (e := [.lst xs]) (D.cl.add (by simp [AO.low, lx]))
  refine (take_wp D1' (by omega) (by omega) (fit9 (by omega) (by omega))).mono ?_
  rintro _ s2 ⟨j, rfl, j0, j1, D2, K2⟩
  obtain ⟨v, hv, ev⟩ := ix_at (s := s2) (i := s.length) (j := j) (K2.gk.lst (n := 0) (by have := D.ltc; omega) (by have := D.ltd; omega) (lst_new s _)) j0 (by omega)
  exact ⟨v, hv, ev, D2, (Gk.app c d s _).trans K2.gk⟩
theorem max_wp (i j : Int) (s : S) (Q : AV -> S -> Prop) : (opMax [.int i, .int j] s).wp Q = Q (.int (if j > i then j else i)) s := rfl
theorem law_wp (ns : List Int) : (f_law [.sq (ns.map AV.int)] []).wp fun v s' => v = .bl true := by
  unfold f_law b_law
  walk_at "w"
  refine (begin_wp ns).mono ?_
  rintro _ s0 ⟨c, d, rfl, D0⟩
  simp only [↓WS, ↓WE, ↓WV, Lq, len_sz, UU, Nat.reduceSub, ↓reduceIte, ↓wp_srcR]
  refine ⟨⟨by decide, by decide⟩, ?_⟩
  refine for_wp (fun xs env st => ∃ (x2 x3 x4 x5 x6 x7 x8 x9 x10 x11 : Option AV) (z : Nat), xs.length + z = 4 /\ env = [some (.sq (ns.map AV.int)), some (.ref d), x2, x3, x4, x5, x6, x7, x8, x9, x10, x11] /\ Dr c d (1000 * z) st) ?_ ?_ ?_ _ _ _ ⟨none, none, none, none, none, none, none, none, none, none, 0, by simp [rngA], rfl, D0⟩
  · rintro _ _ st _ p hp; cases hp
  · rintro env st ⟨x2, x3, x4, x5, x6, x7, x8, x9, x10, x11, z, z0, rfl, D1⟩
    have e1 := us_eq (rows := []) (by simp [upR]) 0 1 st
    rw [List.map_nil] at e1
    have e2 := us_at [] 0 1 st
    have e3 : prs (0 :: cutsR [] 0 1) (cutsR [] 0 1 ++ [0 + 1]) = [.tup [.int 0, .int 1]] := rfl
    rw [e3] at e2
    have e4 : f__law_same 9 [.ref st.length, .ref (st ++ [AO.lst [AV.tup [.int 0, .int 1]]]).length] ((st ++ [AO.lst [AV.tup [.int 0, .int 1]]]) ++ [AO.lst [AV.tup [.int 0, .int 1]]]) = .ok (.bl true) ((st ++ [AO.lst [AV.tup [.int 0, .int 1]]]) ++ [AO.lst [AV.tup [.int 0, .int 1]]]) := same_prs (x := [0]) (y := [1]) (by simp) (lstO_app (lst_new _ _)) (lst_new _ _)
    simp only [↓WS, ↓WE, ↓WV, Lq, len_sz, UU, Nat.reduceSub, ↓reduceIte, ↓wpe e1, e2, ↓wp_if, List.take_left, show st.all (AO.low st.length) = true from D1.cl, Nat.le_add_right, show ∀ b, lowL b [AV.tup [.int 0, .int 1]] = true from fun _ => by simp [lowL, AV.low], ↓wpe e4, show ∀ b, AV.low b (.bl true) = true from fun _ => by simp [AV.low]]
    rw [List.append_assoc]; exact List.take_left
  · rintro v r env st ⟨x2, x3, x4, x5, x6, x7, x8, x9, x10, x11, z, z0, rfl, D1⟩
    have z0 : r.length + 1 + z = 4 := z0
    walk_at "w"
    refine (some_rows_wp D1 (by omega)).mono ?_
    rintro _ s1 ⟨rows1, rfl, g1, D2, K2⟩
    refine (stepped_wp D2 (by omega)).mono ?_
    rintro _ s2 ⟨rows2, rfl, g2, D3, G3⟩
    refine (pickA_wp D3 (by omega) (m := 2) (xs := [.tup (rows1.map rv), .tup (rows2.map rv)]) rfl (by omega) (by omega) (fun b => by simp [lowL, AV.low, low_rvl])).mono ?_
    rintro w s3 ⟨v3, hv3, ev3, D4, G4⟩
    obtain ⟨rows, rfl, hrows⟩ : ∃ rows : List Rw, v3 = .tup (rows.map rv) /\ (upR rows).length <= 24 := by
      simp only [List.mem_cons, List.not_mem_nil, or_false] at hv3
      rcases hv3 with rfl | rfl
      · exact ⟨rows1, rfl, by have := up_good g1.a; have := g1.l; omega⟩
      · exact ⟨rows2, rfl, by omega⟩
    obtain ⟨D5, K5, al5⟩ := ((K2.gk.trans G3).trans G4).cut D1 D4
    simp only [↓WS, ↓WE, ↓WV, Lq, len_sz, UU, Nat.reduceSub, ↓reduceIte, ↓wpe ev3, al5, show ∀ b, AV.low b (.tup (rows.map rv)) = true from fun b => by simp [AV.low, low_rvl]]
    revert D5 K5 al5
    generalize s3.take st.length = s5
    intro D5 K5 al5
    refine (uptos_wp (rows := rows) (by omega) s5).mono ?_
    rintro _ _ ⟨j6, e6, rfl, rfl, l6, h6⟩
    simp only [↓WS, ↓WE, ↓WV, Lq, len_sz, UU, Nat.reduceSub, ↓reduceIte, h6, ↓wp_if, List.take_left, show s5.all (AO.low s5.length) = true from D5.cl, low_ints, l6]
    have hq := uq_len rows
    generalize sortI (uniq (upR rows)) = U at hq h6 ⊢
    rw [wpe (cat_eq (lstO_app (lst_new s5 _)) (lst_new _ _) (szl (by simp; omega)))]
    have lc5 := D5.ltc
    have ld5 := D5.ltd
    have D6 : Dr c d (1000 * z + 321) (s5 ++ [AO.lst (U.map AV.int)] ++ [AO.lst [.int 7, .int 40]] ++ [AO.lst (U.map AV.int ++ [.int 7, .int 40])]) := by
      have q1 := (D5.mono (m := 1000 * z + 321) (by omega)).app (e := [.lst (U.map AV.int)]) (D5.cl.add (by simp [AO.low, low_ints]))
      have q2 := q1.app (e := [.lst [.int 7, .int 40]]) (q1.cl.add (by simp [AO.low, lowL, AV.low]))
      exact q2.app (e := [.lst (U.map AV.int ++ [.int 7, .int 40])]) (q2.cl.add (by simp [AO.low, lowL_app, low_ints, lowL, AV.low]))
    have l7 : lstO (s5 ++ [AO.lst (U.map AV.int)] ++ [AO.lst [.int 7, .int 40]] ++ [AO.lst (U.map AV.int ++ [.int 7, .int 40])]) (s5 ++ [AO.lst (U.map AV.int)] ++ [AO.lst [.int 7, .int 40]]).length = some ((U ++ [7, 40]).map AV.int) := by rw [lst_new]; simp
    have hk : (s5 ++ [AO.lst (U.map AV.int)] ++ [AO.lst [.int 7, .int 40]]).length = s5.length + 2 := by simp
    generalize (s5 ++ [AO.lst (U.map AV.int)] ++ [AO.lst [.int 7, .int 40]]).length = k at l7 hk ⊢
    generalize s5 ++ [AO.lst (U.map AV.int)] ++ [AO.lst [.int 7, .int 40]] ++ [AO.lst (U.map AV.int ++ [.int 7, .int 40])] = s7 at D6 l7 ⊢
    have kc : k ≠ c := by omega
    have kd : k ≠ d := by omega
    have hV : (U ++ [7, 40]).length <= 26 := by simp; omega
    have hV0 : 0 < (U ++ [7, 40]).length := by simp
    generalize U ++ [7, 40] = V at l7 hV hV0
    simp only [↓WS, ↓WE, ↓WV, Lq, len_sz, UU, Nat.reduceSub, ↓reduceIte, ↓wp_srcR]
    refine ⟨⟨by decide, by decide⟩, ?_⟩
    refine for_wp (fun xs env st => ∃ (x5 x6 x7 x8 x9 x10 x11 : Option AV) (y : Nat), xs.length + y = 8 /\ lstO st k = some (V.map AV.int) /\ env = [some (.sq (ns.map AV.int)), some (.ref d), some v, some (.tup (rows.map rv)), some (.ref k), x5, x6, x7, x8, x9, x10, x11] /\ Dr c d (1000 * z + 321 + 20 * y) st) ?_ ?_ ?_ _ _ _ ⟨_, _, _, _, _, _, _, 0, by simp [rngA], l7, rfl, D6⟩
    · rintro _ _ st _ p hp; cases hp
    · rintro env st ⟨x5, x6, x7, x8, x9, x10, x11, y, y0, _, rfl, D7⟩
      have y0 : 0 + y = 8 := y0
      exact ⟨_, _, _, _, _, _, _, _, _, _, z + 1, by omega, rfl, D7.mono (by omega)⟩
    rintro v' r' env st ⟨x5, x6, x7, x8, x9, x10, x11, y, y0, lk, rfl, D7⟩
    have y0 : r'.length + 1 + y = 8 := y0
    simp only [↓WS, ↓WE, ↓WV, Lq, len_sz, UU, Nat.reduceSub, ↓reduceIte, ↓wpe (len_at lk), List.length_map]
    refine (take_wp D7 (by omega) (by omega) (fit9 (by omega) (by omega))).mono ?_
    rintro _ t1 ⟨j1, rfl, j10, j11, E1, F1⟩
    have lk1 := F1.gk.lst (n := 0) kc kd lk
    obtain ⟨w1, hw1, ew1⟩ := ix_at (j := j1) lk1 j10 (by rw [List.length_map]; exact j11)
    obtain ⟨near, _, rfl⟩ := List.mem_map.mp hw1
    simp only [↓WS, ↓WE, ↓WV, Lq, len_sz, UU, Nat.reduceSub, ↓reduceIte, ↓wpe ew1]
    refine (take_wp E1 (by omega) (by omega) (fit9 (by omega) (by omega))).mono ?_
    rintro _ t2 ⟨a1, rfl, _, _, E2, F2⟩
    try walk_at "w"
    refine (take_wp E2 (by omega) (by omega) (fit9 (by omega) (by omega))).mono ?_
    rintro _ t3 ⟨a2, rfl, _, _, E3, F3⟩
    simp only [↓WS, ↓WE, ↓WV, Lq, len_sz, UU, Nat.reduceSub, ↓reduceIte, ↓max_wp]
    refine (pickA_wp E3 (by omega) (m := 3) rfl (by omega) (by omega) (fun b => by simp [lowL, AV.low])).mono ?_
    rintro w t4 ⟨w4, hw4, ew4, E4, G4'⟩
    obtain ⟨f, rfl⟩ : ∃ f, w4 = .int f := by
      simp only [List.mem_cons, List.not_mem_nil, or_false] at hw4
      rcases hw4 with rfl | rfl | rfl <;> exact ⟨_, rfl⟩
    obtain ⟨E5, F5, al5'⟩ := ((F2.gk.trans F3.gk).trans G4').cut E1 E4
    simp only [↓WS, ↓WE, ↓WV, Lq, len_sz, UU, Nat.reduceSub, ↓reduceIte, ↓wpe ew4, al5', show ∀ b, AV.low b (.int f) = true from fun b => by simp [AV.low]]
    revert E5 F5 al5'
    generalize t4.take t1.length = t5
    intro E5 F5 al5'
    have lk5 := F5.gk.lst (n := 0) kc kd lk1
    simp only [↓WS, ↓WE, ↓WV, Lq, len_sz, UU, Nat.reduceSub, ↓reduceIte, ↓wpe (len_at lk5), List.length_map]
    refine (take_wp E5 (by omega) (by omega) (fit9 (by omega) (by omega))).mono ?_
    rintro _ t6 ⟨j6', rfl, j60, j61, E6, F6⟩
    have lk6 := F6.gk.lst (n := 0) kc kd lk5
    obtain ⟨w6, hw6, ew6⟩ := ix_at (j := j6') lk6 j60 (by rw [List.length_map]; exact j61)
    obtain ⟨en, _, rfl⟩ := List.mem_map.mp hw6
    simp only [↓WS, ↓WE, ↓WV, Lq, len_sz, UU, Nat.reduceSub, ↓reduceIte, ↓wpe ew6]
    refine (take_wp E6 (by omega) (by omega) (fit9 (by omega) (by omega))).mono ?_
    rintro _ t7 ⟨a7, rfl, _, _, E7, F7⟩
    walk_at "w"
    refine (take_wp E7 (by omega) (by omega) (fit9 (by omega) (by omega))).mono ?_
    rintro _ t8 ⟨a8, rfl, _, _, E8, F8⟩
    simp only [↓WS, ↓WE, ↓WV, Lq, len_sz, UU, Nat.reduceSub, ↓reduceIte, ↓max_wp, show (10 : Int) ^ (6 : Int).toNat = 1000000 by decide, show CPow 10 6 = True from eq_true (by decide)]
    refine (take_wp E8 (by omega) (by omega) (fit9 (by omega) (by omega))).mono ?_
    rintro _ t9 ⟨a9, rfl, _, _, E9, F9⟩
    try walk_at "w"
    refine (pickA_wp E9 (by omega) (m := 3) rfl (by omega) (by omega) (fun b => by simp [lowL, AV.low])).mono ?_
    rintro w t10 ⟨w10, hw10, ew10, E10, G10⟩
    obtain ⟨m, rfl⟩ : ∃ m, w10 = .int m := by
      simp only [List.mem_cons, List.not_mem_nil, or_false] at hw10
      rcases hw10 with rfl | rfl | rfl <;> exact ⟨_, rfl⟩
    obtain ⟨E11, F11, al11⟩ := ((F8.gk.trans F9.gk).trans G10).cut E7 E10
    simp only [↓WS, ↓WE, ↓WV, Lq, len_sz, UU, Nat.reduceSub, ↓reduceIte, ↓wpe ew10, al11, show ∀ b, AV.low b (.int m) = true from fun b => by simp [AV.low]]
    revert E11 F11 al11
    generalize t10.take t7.length = t11
    intro E11 F11 al11
    have lk11 := F11.gk.lst (n := 0) kc kd (F7.gk.lst (n := 0) kc kd lk6)
    refine (due_wp (rows := rows) (by omega) f m E11.cl).mono ?_
    rintro _ _ ⟨j12, e12, rfl, rfl, l12, h12⟩
    have hcl := cuts_len rows f m
    simp only [↓WS, ↓WE, ↓WV, Lq, len_sz, UU, Nat.reduceSub, ↓reduceIte, h12, ↓wp_if, List.take_left, show t11.all (AO.low t11.length) = true from E11.cl, low_prs, l12]
    have hx : (f :: cutsR rows f m).length <= 1000 := by simp; omega
    have hpl := prs_len (f :: cutsR rows f m) (cutsR rows f m ++ [f + m])
    have E12 := E11.app (e := [.lst (prs (f :: cutsR rows f m) (cutsR rows f m ++ [f + m]))]) (E11.cl.add (by simp [AO.low, low_prs]))
    have lP := lst_new t11 (prs (f :: cutsR rows f m) (cutsR rows f m ++ [f + m]))
    have lk12 : lstO (t11 ++ [.lst (prs (f :: cutsR rows f m) (cutsR rows f m ++ [f + m]))]) k = some (V.map AV.int) := lstO_app lk11
    generalize t11 ++ [.lst (prs (f :: cutsR rows f m) (cutsR rows f m ++ [f + m]))] = t12 at E12 lP lk12 ⊢
    have e1 := us_eq (rows := rows) (by omega) f m t12
    have e2 := us_at rows f m t12
    have e3 := us_eq (rows := rows) (by omega) f m (t12 ++ [.lst (prs (f :: cutsR rows f m) (cutsR rows f m ++ [f + m]) ++ [.tup [.int 0, .int 1]])])
    have e4 := us_at rows f m (t12 ++ [.lst (prs (f :: cutsR rows f m) (cutsR rows f m ++ [f + m]) ++ [.tup [.int 0, .int 1]])])
    generalize usX rows f m = ux at e1 e2 e3 e4
    have q1 := same_prs (i := t12.length) (j := t11.length) (x := f :: cutsR rows f m) (y := cutsR rows f m ++ [f + m]) (s := t12 ++ [.lst (prs (f :: cutsR rows f m) (cutsR rows f m ++ [f + m]))]) hx (lst_new _ _) (lstO_app lP)
    have E13 := E12.app (e := [.lst (prs (f :: cutsR rows f m) (cutsR rows f m ++ [f + m]) ++ [.tup [.int 0, .int 1]])]) (E12.cl.add (by simp [AO.low, lowL_app, low_prs, lowL, AV.low]))
    have e5 : opAppend (.ref t12.length) [.tup [.int 0, .int 1]] (t12 ++ [.lst (prs (f :: cutsR rows f m) (cutsR rows f m ++ [f + m]))]) = _ := append_new (small1000 (by omega))
    have lP2 : lstO (t12 ++ [.lst (prs (f :: cutsR rows f m) (cutsR rows f m ++ [f + m]) ++ [.tup [.int 0, .int 1]])]) t11.length = some (prs (f :: cutsR rows f m) (cutsR rows f m ++ [f + m])) := lstO_app lP
    have lk13 : lstO (t12 ++ [.lst (prs (f :: cutsR rows f m) (cutsR rows f m ++ [f + m]) ++ [.tup [.int 0, .int 1]])]) k = some (V.map AV.int) := lstO_app lk12
    simp only [↓WS, ↓WE, ↓WV, Lq, len_sz, UU, Nat.reduceSub, ↓reduceIte, ↓wpe e1, e2, ↓wp_if, List.take_left, show t12.all (AO.low t12.length) = true from E12.cl, Nat.le_add_right, low_prs, ↓wpe q1, tr_bl, Bool.not_true, isL_new, ↓wpe e5]
    generalize t12 ++ [.lst (prs (f :: cutsR rows f m) (cutsR rows f m ++ [f + m]) ++ [.tup [.int 0, .int 1]])] = t13 at E13 e3 e4 lP2 lk13 ⊢
    have q2 := same_prs (i := t13.length) (j := t11.length) (x := f :: cutsR rows f m) (y := cutsR rows f m ++ [f + m]) (s := t13 ++ [.lst (prs (f :: cutsR rows f m) (cutsR rows f m ++ [f + m]))]) hx (lst_new _ _) (lstO_app lP2)
    simp only [↓WS, ↓WE, ↓WV, Lq, len_sz, UU, Nat.reduceSub, ↓reduceIte, ↓wpe e3, e4, ↓wp_if, List.take_left, show t13.all (AO.low t13.length) = true from E13.cl, Nat.le_add_right, low_prs, ↓wpe q2, tr_bl, Bool.not_true, show ∀ b, AV.low b (.bl true) = true from fun _ => by simp [AV.low]]
    exact ⟨_, _, _, _, _, _, _, y + 1, by omega, lk13, rfl, E13.mono (by omega)⟩
end Ro
open PySem PySem.W PyProof.Rows
set_option maxRecDepth 100000 in
set_option maxHeartbeats 0 in
theorem PySem.Challenge.cw_royaltree_k10_stretches_of_units_holds : PySem.Challenge.rw_royaltree_k10_stretches_of_units.Holds := by
  w_on; o_law; k_head; (case hw => w_witness2)
  k_fill
  refine Ro.walk (l := PySem.Challenge.rw_royaltree_k10_stretches_of_units) Ro.f_law 11 ⟨rfl, by decide, by decide⟩ Ro.law_wp rfl rfl (fun w h Y => PySem.W.kIn_of Y) ?F
  case F =>
    intro w mg fa h KX G hmg
    refine' Ro.fin_mk KX G hmg ?_ ?_ ?_ ?_ ?_ ?_ ?_ ?_ ?_ ?_ ?_ ?_ ?_ ?_ ?_ ?_ ?_ ?_ ?_ ?_ ?_ ?_ ?_ ?_ ?_ ?_ ?_ ?_ ?_ ?_
    (k_is)
    (k_is)
    (k_is)
    (k_is)
    (k_is)
    (k_is)
    (k_is)
    (k_is)
    (k_is)
    (k_is)
    (k_is)
    (k_is)
    (k_is)
    (k_is)
    (k_is)
    (k_is)
    all_goals (refine' Ro.df_mk KX G ?a ?l ?c ?k; (case a => k_is); (case l => k_is); (case c => k_is); (case k => k_is))
