import PyProof.Rows.All
import Wide.All
import OpenK.AllK
import Wide.FinOn
import Lean
import PyProof.EqAt
import PyProof.EqKinds
import PyProof.TupleCall
import PyProof.SetKind
import PyProof.Rows.SetFrom
import PyProof.FactsAll.set
import PyProof.DictIter
import PyProof.DictWalks
import PyProof.WalksMore
import PyProof.MakeMany
import PyProof.FactsAll.subtypes_4
import KE.KDictSum
import PySem.Challenge.RW_beltgarth_k73_pieces
section
set_option linter.all false
namespace Bg
theorem ls0 {α : Type} {P : List α → Prop} {us : List α} (h : us.length = 0) (k : P []) : P us := by cases us with | nil => exact k | cons a r => cases h
theorem ls1 {α : Type} {P : List α → Prop} {us : List α} (h : us.length = 1) (k : ∀ x0, P [x0]) : P us := by cases us with | nil => cases h | cons a r => exact ls0 (P := fun r => P (a :: r)) (Nat.succ.inj h) (k a)
theorem ls2 {α : Type} {P : List α → Prop} {us : List α} (h : us.length = 2) (k : ∀ x0 x1, P [x0, x1]) : P us := by cases us with | nil => cases h | cons a r => exact ls1 (P := fun r => P (a :: r)) (Nat.succ.inj h) (k a)
theorem ls3 {α : Type} {P : List α → Prop} {us : List α} (h : us.length = 3) (k : ∀ x0 x1 x2, P [x0, x1, x2]) : P us := by cases us with | nil => cases h | cons a r => exact ls2 (P := fun r => P (a :: r)) (Nat.succ.inj h) (k a)
theorem ls4 {α : Type} {P : List α → Prop} {us : List α} (h : us.length = 4) (k : ∀ x0 x1 x2 x3, P [x0, x1, x2, x3]) : P us := by cases us with | nil => cases h | cons a r => exact ls3 (P := fun r => P (a :: r)) (Nat.succ.inj h) (k a)
theorem ls5 {α : Type} {P : List α → Prop} {us : List α} (h : us.length = 5) (k : ∀ x0 x1 x2 x3 x4, P [x0, x1, x2, x3, x4]) : P us := by cases us with | nil => cases h | cons a r => exact ls4 (P := fun r => P (a :: r)) (Nat.succ.inj h) (k a)
theorem ls6 {α : Type} {P : List α → Prop} {us : List α} (h : us.length = 6) (k : ∀ x0 x1 x2 x3 x4 x5, P [x0, x1, x2, x3, x4, x5]) : P us := by cases us with | nil => cases h | cons a r => exact ls5 (P := fun r => P (a :: r)) (Nat.succ.inj h) (k a)
theorem le1 {α : Type} {us : List α} (h : us.length = 1) : ∃ x0, us = [x0] := ls1 (P := fun us => ∃ x0, us = [x0]) h fun x0 => ⟨x0, rfl⟩
theorem le2 {α : Type} {us : List α} (h : us.length = 2) : ∃ x0 x1, us = [x0, x1] := ls2 (P := fun us => ∃ x0 x1, us = [x0, x1]) h fun x0 x1 => ⟨x0, x1, rfl⟩
theorem le3 {α : Type} {us : List α} (h : us.length = 3) : ∃ x0 x1 x2, us = [x0, x1, x2] := ls3 (P := fun us => ∃ x0 x1 x2, us = [x0, x1, x2]) h fun x0 x1 x2 => ⟨x0, x1, x2, rfl⟩
theorem le4 {α : Type} {us : List α} (h : us.length = 4) : ∃ x0 x1 x2 x3, us = [x0, x1, x2, x3] := ls4 (P := fun us => ∃ x0 x1 x2 x3, us = [x0, x1, x2, x3]) h fun x0 x1 x2 x3 => ⟨x0, x1, x2, x3, rfl⟩
theorem le6 {α : Type} {us : List α} (h : us.length = 6) : ∃ x0 x1 x2 x3 x4 x5, us = [x0, x1, x2, x3, x4, x5] := ls6 (P := fun us => ∃ x0 x1 x2 x3 x4 x5, us = [x0, x1, x2, x3, x4, x5]) h fun x0 x1 x2 x3 x4 x5 => ⟨x0, x1, x2, x3, x4, x5, rfl⟩
end Bg
end
section
set_option Elab.async false
set_option linter.all false
set_option maxRecDepth 100000
namespace L2
open PySem PySem.Spec PyProof.Rows
abbrev Key := Sum Int Str
def keyIs : Key → Value → Bool
  | .inl k, v => Value.isInt k v
  | .inr x, v => Value.isStrOf x v
def keyH (w : World) : Key → Int
  | .inl k => hashInt k
  | .inr x => hashStr w x
theorem keyIs_shape : ∀ {k : Key} {v : Value}, keyIs k v = true → (∃ i t, k = Sum.inl i ∧ v = Value.int i t) ∨ (∃ x t, k = Sum.inr x ∧ v = Value.str x t)
  | .inl i, v, h => by
    obtain ⟨t, e⟩ := Value.isInt_shape (k := i) (v := v) h
    exact .inl ⟨i, t, rfl, e⟩
  | .inr x, v, h => by
    obtain ⟨t, e⟩ := Value.isStrOf_shape (x := x) (v := v) h
    exact .inr ⟨x, t, rfl, e⟩
theorem keyIs_int (i : Int) (t : Tok) : keyIs (.inl i) (.int i t) = true := by simp [keyIs, Value.isInt]
theorem keyIs_str (x : Str) (t : Tok) : keyIs (.inr x) (.str x t) = true := by simp [keyIs, Value.isStrOf]
theorem key_ll (a b : Int) : decide ((Sum.inl a : Key) = Sum.inl b) = (a == b) := by
  by_cases e : a = b
  · subst e; simp
  · have h : ¬ (Sum.inl a : Key) = Sum.inl b := fun q => e (Sum.inl.inj q)
    rw [decide_eq_false h]
    exact (beq_eq_false_iff_ne.mpr e).symm
theorem key_rr (a b : Str) : decide ((Sum.inr a : Key) = Sum.inr b) = decide (a = b) := by
  by_cases e : a = b
  · subst e; simp
  · have h : ¬ (Sum.inr a : Key) = Sum.inr b := fun q => e (Sum.inr.inj q)
    rw [decide_eq_false h, decide_eq_false e]
theorem key_lr (a : Int) (b : Str) : decide ((Sum.inl a : Key) = Sum.inr b) = false := decide_eq_false (fun q => nomatch q)
theorem key_rl (a : Str) (b : Int) : decide ((Sum.inr a : Key) = Sum.inl b) = false := decide_eq_false (fun q => nomatch q)
def mixKind (prog : Program) (w : World) : PySem.KeyKind prog w Key where
  is := keyIs
  hash := keyH w
  inj := fun v a b ha hb => by
    rcases keyIs_shape ha with ⟨i, t, rfl, rfl⟩ | ⟨x, t, rfl, rfl⟩
    · rcases keyIs_shape hb with ⟨j, u, rfl, e⟩ | ⟨y, u, rfl, e⟩
      · injection e with e1 _; rw [e1]
      · exact nomatch e
    · rcases keyIs_shape hb with ⟨j, u, rfl, e⟩ | ⟨y, u, rfl, e⟩
      · exact nomatch e
      · injection e with e1 _; rw [e1]
  byValue := fun k v h => by
    rcases keyIs_shape h with ⟨i, t, rfl, rfl⟩ | ⟨x, t, rfl, rfl⟩ <;> rfl
  pyHash := fun hv h => by
    rcases keyIs_shape hv with ⟨i, t, rfl, rfl⟩ | ⟨x, t, rfl, rfl⟩
    · exact wpAny_pyHash_int h
    · exact wpAny_pyHash_str h
  eqBool := fun hu hv h => by
    rcases keyIs_shape hu with ⟨i, t, rfl, rfl⟩ | ⟨x, t, rfl, rfl⟩
    · rcases keyIs_shape hv with ⟨j, u, rfl, rfl⟩ | ⟨y, u, rfl, rfl⟩
      · rw [key_ll] at h; exact wpAny_eqBool_int h
      · rw [key_lr] at h; exact SeqAt.EqAt.int_str i t y u _ _ _ _ h
    · rcases keyIs_shape hv with ⟨j, u, rfl, rfl⟩ | ⟨y, u, rfl, rfl⟩
      · rw [key_rl] at h; exact SeqAt.EqAt.str_int x t j u _ _ _ _ h
      · rw [key_rr] at h; exact wpAny_eqBool_str h
  «strs» := fun k x t v h => by
    rcases keyIs_shape h with ⟨i, u, rfl, e⟩ | ⟨y, u, rfl, e⟩
    · exact nomatch e
    · injection e with e1 _
      subst e1
      cases v <;> rfl
theorem mixKind_int (prog : Program) (w : World) (i : Int) (t : Tok) : (mixKind prog w).is (.inl i) (.int i t) = true := keyIs_int i t
theorem mixKind_str (prog : Program) (w : World) (x : Str) (t : Tok) : (mixKind prog w).is (.inr x) (.str x t) = true := keyIs_str x t
end L2
namespace L2
open PySem PySem.Spec PyProof.Rows
inductive V where
  | non | bl (b : Bool) | int (i : Int) | str (x : Str) | byt (b : Array UInt8) | flt (b : UInt64) | ref (a : Addr) | ty (n : String)
  deriving DecidableEq
def RelV : V → Value → Prop
  | .non, u => u = Value.none
  | .bl b, u => u = Value.bool b
  | .int i, u => ∃ t, u = Value.int i t
  | .str x, u => ∃ t, u = Value.str x t
  | .byt b, u => ∃ t, u = Value.bytes b t
  | .flt b, u => ∃ t, u = Value.float b t
  | .ref a, u => u = Value.ref a
  | .ty n, u => u = Value.type n
abbrev Vals : List V → List Value → Prop := Paired RelV
theorem Vals.length {xs : List V} {us : List Value} (r : Vals xs us) : xs.length = us.length := Paired.length r
theorem Vals.get : ∀ {xs : List V} {us : List Value} {i : Nat} {x : V}, Vals xs us → xs[i]? = some x → ∃ u, us[i]? = some u ∧ RelV x u
  | _, _, _, _, .nil, e => by simp at e
  | _, _, 0, _, .cons r _, e => by simp at e; subst e; exact ⟨_, rfl, r⟩
  | _, _, i + 1, x, .cons _ t, e => by
    obtain ⟨u, h1, h2⟩ := Vals.get (i := i) (x := x) t (by simpa using e)
    exact ⟨u, by simpa using h1, h2⟩
theorem Vals.set {x : V} {u : Value} (r : RelV x u) : ∀ {xs : List V} {us : List Value} (i : Nat), Vals xs us → Vals (xs.set i x) (us.set i u)
  | _, _, _, .nil => .nil
  | _, _, 0, .cons _ t => .cons r t
  | _, _, i + 1, .cons q t => .cons q (Vals.set r i t)
theorem Vals.append : ∀ {xs ys : List V} {us ws : List Value}, Vals xs us → Vals ys ws → Vals (xs ++ ys) (us ++ ws)
  | _, _, _, _, .nil, s => s
  | _, _, _, _, .cons r t, s => .cons r (Vals.append t s)
theorem Vals.take : ∀ {xs : List V} {us : List Value} (n : Nat), Vals xs us → Vals (xs.take n) (us.take n)
  | _, _, 0, _ => .nil
  | _, _, _ + 1, .nil => .nil
  | _, _, n + 1, .cons r t => .cons r (Vals.take n t)
theorem Vals.drop : ∀ {xs : List V} {us : List Value} (n : Nat), Vals xs us → Vals (xs.drop n) (us.drop n)
  | _, _, 0, r => r
  | _, _, _ + 1, .nil => .nil
  | _, _, n + 1, .cons _ t => Vals.drop n t
def RelO : Option V → Option Value → Prop
  | some v, some u => RelV v u
  | none, none => True
  | _, _ => False
def KV {κ : Type} : List (κ × V) → List (κ × Value) → Prop := Paired fun (p : κ × V) (q : κ × Value) => p.1 = q.1 ∧ RelV p.2 q.2
def kV : Key → V
  | .inl i => .int i
  | .inr x => .str x
inductive HO where
  /-- a list -/
  | lst (xs : List V)
  /-- a tuple (never changes) -/
  | tup (xs : List V)
  /-- a dict whose keys are ints and texts; one whose keys are tuples of ints and texts (the empty one is both) -/
  | dK (kvs : List (Key × V)) | dT (kvs : List (List Key × V))
  /-- a set of ints: its members, its size -/
  | set (S : Int → Bool) (n : Nat)
  /-- an instance of the class at C, its dict at dx, its attributes -/
  | ins (C dx : Addr) (fs : List (Str × V))
  /-- the dict of the instance at x -/
  | own (x : Addr)
  /-- the dict of an exception -/
  | xd (fs : List (Str × V))
  /-- a bound method, f of x -/
  | met (f x : Addr)
  /-- a range object lo, lo + 1, .. below hi -/
  | rng (lo hi : Int)
  /-- a thing that is known to the object (the script; a dict while a loop walks it): read, never written while it is so -/
  | frz (o : Obj) (u : HO)
  /-- a code object's table -/
  | tbl (ps : Array Value)
  /-- any other thing, by what is true of its one object (a def of one's own: SetO a S n := HO.ext fun h => ..) -/
  | ext (φ : Heap → Prop)
abbrev Hp := Addr → Option HO
def upd (H : Hp) (a : Addr) (o : HO) : Hp := fun b => if b = a then some o else H b
theorem upd_same {H : Hp} {a : Addr} {o : HO} : upd H a o a = some o := by unfold upd; rw [if_pos rfl]
theorem upd_ne {H : Hp} {a b : Addr} {o : HO} (h : b ≠ a) : upd H a o b = H b := by unfold upd; rw [if_neg h]
theorem upd_upd {H : Hp} {a : Addr} {o u : HO} : upd (upd H a o) a u = upd H a u := by
  funext b; unfold upd; split <;> rfl
theorem ne_of {H : Hp} {a b : Addr} {o u : HO} (h : H a = some o) (h' : H b = some u) (d : o ≠ u) : a ≠ b := by
  intro e; subst e; rw [h] at h'; exact d (Option.some.inj h')
theorem ne_of_none {H : Hp} {a b : Addr} {o : HO} (h : H a = some o) (h' : H b = none) : a ≠ b := by
  intro e; subst e; rw [h] at h'; cases h'
def IsTupN (h : Heap) (a : Addr) (items : Array Value) : Prop := ∃ o, h.get? a = some o ∧ (o.cls = .type "tuple" ∧ o.dict = none) ∧ ∃ n, o.data = .seq items n
theorem IsTupN.tup {h : Heap} {a : Addr} {items : Array Value} (x : IsTupN h a items) : IsTup h a items := let ⟨o, e, c, n⟩ := x; ⟨o, e, c.1, n⟩
theorem IsTupN.lt {h : Heap} {a : Addr} {items : Array Value} (x : IsTupN h a items) : a < h.objs.size := let ⟨_, e, _⟩ := x; Heap.lt_size e
theorem IsTupN.new (h : Heap) (items : Array Value) : IsTupN (h.push { cls := .type "tuple", data := .seq items }) h.objs.size items := ⟨_, Heap.get?_push_size _ rfl, ⟨rfl, rfl⟩, _, rfl⟩
section
variable (P : Program) (w : World)
def ObjOk (H : Hp) (h : Heap) (a : Addr) : HO → Prop
  | .lst xs => xs.length ≤ sizeLine ∧ ∃ (its : List Value) (n : Nat), Vals xs its ∧ h.get? a = some { cls := .type "list", data := .seq its.toArray n }
  | .tup xs => xs.length ≤ sizeLine ∧ ∃ its : List Value, Vals xs its ∧ IsTupN h a its.toArray
  | .dK kvs => kvs.length ≤ sizeLine ∧ (a == sysModules) = false ∧ ∃ vs, KV kvs vs ∧ h.DictOf (mixKind P w) a vs
  | .dT kvs => kvs.length ≤ sizeLine ∧ (a == sysModules) = false ∧ ∃ xs : List (List Key × Addr × Value),
      Paired (fun (p : List Key × V) (q : List Key × Addr × Value) => p.1 = q.1 ∧ H q.2.1 = some (.tup (p.1.map kV)) ∧ RelV p.2 q.2.2) kvs xs ∧
      ∃ o es ep, h.get? a = some o ∧ o.ExactDict ∧ o.data = .dict es ep ∧ es.toList = xs.map (entryOfKey (tupleKind (mixKind P w))) ∧ (xs.map (·.1)).Nodup
  | .set S n => h.SetOf (intKind P w) a S n
  | .ins C dx fs => H dx = some (.own a) ∧ fs.length ≤ 1000 ∧ dx ≠ a ∧ h.get? a = some (PySem.W.instObj C dx) ∧
      ∃ mA, h.Ns1 dx mA ∧ (∀ f, RelO (fs.lookup f) (mA f)) ∧ PySem.Within mA (fs.map (·.1))
  | .own _ => ∃ o, h.get? a = some o
  | .xd fs => ∃ mA, h.Ns1 a mA ∧ ∀ f, RelO (fs.lookup f) (mA f)
  | .rng lo hi => ∃ t u v, h.get? a = some { cls := .type "range", data := .fields #[.int lo t, .int hi u, .int 1 v] }
  | .frz o u => h.get? a = some o ∧ ObjOk H h a u
  | .tbl ps => h.get? a = some { cls := .none, data := .fields ps }
  | .met f x => h.get? a = some (PySem.W.methodObj (.ref f) (.ref x))
  | .ext φ => φ h ∧ (∃ o, h.get? a = some o) ∧ ∀ h1 h2 : Heap, φ h1 → (∀ o, h1.get? a = some o → h2.get? a = some o) → φ h2
def HOk (H : Hp) (h : Heap) : Prop := ∀ a o, H a = some o → ObjOk P w H h a o
end
section
variable {P : Program} {w : World} {H H' : Hp} {h h' : Heap} {a : Addr} {o : HO}
theorem ObjOk.lt (x : ObjOk P w H h a o) : a < h.objs.size := by
  cases o with
  | lst xs => obtain ⟨_, _, _, _, e⟩ := x; exact Heap.lt_size e
  | tup xs => obtain ⟨_, _, _, p⟩ := x; exact p.lt
  | dK kvs => obtain ⟨_, _, _, _, o, _, _, e, _⟩ := x; exact Heap.lt_size e
  | dT kvs => obtain ⟨_, _, _, _, o, _, _, e, _⟩ := x; exact Heap.lt_size e
  | set S n => obtain ⟨o, _, _, _, e, _⟩ := x; exact Heap.lt_size e
  | ins C dx fs => obtain ⟨_, _, _, e, _⟩ := x; exact Heap.lt_size e
  | own y => obtain ⟨_, e⟩ := x; exact Heap.lt_size e
  | xd fs => obtain ⟨_, ⟨_, _, _, e, _⟩, _⟩ := x; exact Heap.lt_size e
  | rng lo hi => obtain ⟨_, _, _, e⟩ := x; exact Heap.lt_size e
  | frz ob u => obtain ⟨e, _⟩ := x; exact Heap.lt_size e
  | tbl ps => exact Heap.lt_size (show h.get? a = some _ from x)
  | met f y => exact Heap.lt_size (show h.get? a = some _ from x)
  | ext φ => obtain ⟨_, ⟨_, e⟩, _⟩ := x; exact Heap.lt_size e
theorem Paired.mapP {α β : Type} {F G : α → β → Prop} : ∀ {l₁ : List α} {l₂ : List β}, Paired F l₁ l₂ → (∀ a b, F a b → G a b) → Paired G l₁ l₂
  | _, _, .nil, _ => .nil
  | _, _, .cons r t, f => .cons (f _ _ r) (Paired.mapP t f)
theorem ObjOk.stay (x : ObjOk P w H h a o) (k : ∀ b u, (b = a ∨ H b = some (.own a)) → h.get? b = some u → h'.get? b = some u)
    (ho : ∀ b, H b = some (.own a) → H' b = some (.own a)) (ht : ∀ b xs, H b = some (.tup xs) → H' b = some (.tup xs)) : ObjOk P w H' h' a o := by
  induction o with
  | lst xs => obtain ⟨z, its, n, r, e⟩ := x; exact ⟨z, its, n, r, k _ _ (.inl rfl) e⟩
  | tup xs => obtain ⟨z, its, r, ob, e, c⟩ := x; exact ⟨z, its, r, ob, k _ _ (.inl rfl) e, c⟩
  | dK kvs => obtain ⟨z, y, vs, r, ob, es, ep, e, c⟩ := x; exact ⟨z, y, vs, r, ob, es, ep, k _ _ (.inl rfl) e, c⟩
  | dT kvs =>
    obtain ⟨z, y, xs, r, ob, es, ep, e, c⟩ := x
    exact ⟨z, y, xs, Paired.mapP r fun p q z => ⟨z.1, ht _ _ z.2.1, z.2.2⟩, ob, es, ep, k _ _ (.inl rfl) e, c⟩
  | set S n => obtain ⟨ob, es, ep, t, e, c⟩ := x; exact ⟨ob, es, ep, t, k _ _ (.inl rfl) e, c⟩
  | ins C dx fs =>
    obtain ⟨d, z, ne, e, mA, ⟨od, es, ep, e2, c⟩, r⟩ := x
    exact ⟨ho _ d, z, ne, k _ _ (.inl rfl) e, mA, ⟨od, es, ep, k _ _ (.inr d) e2, c⟩, r⟩
  | own y => obtain ⟨ob, e⟩ := x; exact ⟨ob, k _ _ (.inl rfl) e⟩
  | xd fs => obtain ⟨mA, ⟨od, es, ep, e, c⟩, r⟩ := x; exact ⟨mA, ⟨od, es, ep, k _ _ (.inl rfl) e, c⟩, r⟩
  | rng lo hi => obtain ⟨t, u, v, e⟩ := x; exact ⟨t, u, v, k _ _ (.inl rfl) e⟩
  | frz ob u ih => obtain ⟨e, q⟩ := x; exact ⟨k _ _ (.inl rfl) e, ih q⟩
  | tbl ps =>
    have e : h.get? a = some { cls := .none, data := .fields ps } := x
    show h'.get? a = some { cls := .none, data := .fields ps }
    exact k a _ (.inl rfl) e
  | met f y =>
    have e : h.get? a = some (PySem.W.methodObj (.ref f) (.ref y)) := x
    show h'.get? a = some (PySem.W.methodObj (.ref f) (.ref y))
    exact k a _ (.inl rfl) e
  | ext φ => obtain ⟨p, ⟨o, e⟩, st⟩ := x; exact ⟨st _ _ p fun o q => k _ _ (.inl rfl) q, ⟨o, k _ _ (.inl rfl) e⟩, st⟩
theorem HOk.lt (x : HOk P w H h) (e : H a = some o) : a < h.objs.size := (x a o e).lt
theorem HOk.fresh (x : HOk P w H h) (e : h.objs.size ≤ a) : H a = none := by
  cases q : H a with
  | none => rfl
  | some u => exact absurd (Nat.lt_of_lt_of_le (x.lt q) e) (Nat.lt_irrefl _)
theorem HOk.kept (x : HOk P w H h) (k : ∀ b u, h.get? b = some u → h'.get? b = some u) : HOk P w H h' := fun a o e =>
  (x a o e).stay (fun b u _ q => k b u q) (fun _ q => q) fun _ _ q => q
theorem HOk.laid (x : HOk P w H h) (k : ∀ b u, h.get? b = some u → h'.get? b = some u) (hp : h.objs.size ≤ a) (new : ObjOk P w (upd H a o) h' a o) : HOk P w (upd H a o) h' := fun b u e => by
  have hn := x.fresh hp
  by_cases hb : b = a
  · subst hb; rw [upd_same] at e; cases e; exact new
  · rw [upd_ne hb] at e
    exact (x b u e).stay (fun c v _ q => k c v q) (fun c q => by rw [upd_ne (ne_of_none q hn)]; exact q) fun c xs q => by rw [upd_ne (ne_of_none q hn)]; exact q
end
def Rd (H : Hp) (a : Addr) (u : HO) : Prop := H a = some u ∨ ∃ o, H a = some (.frz o u)
theorem Rd.ok {P : Program} {w : World} {H : Hp} {h : Heap} {a : Addr} {u : HO} (r : Rd H a u) (x : HOk P w H h) : ObjOk P w H h a u := by
  rcases r with r | ⟨o, r⟩
  · exact x a u r
  · obtain ⟨_, q⟩ := x a _ r
    exact q
def Mut : Option HO → Prop
  | some (.lst _) => True
  | some (.dK _) => True
  | some (.dT _) => True
  | some (.set _ _) => True
  | some (.ins _ _ _) => True
  | some (.ext _) => True
  | _ => False
section
variable {P : Program} {w : World} {H : Hp} {h h' : Heap} {x e : Addr} {o' : HO}
theorem HOk.write (ok : HOk P w H h) (mu : Mut (H x)) (he : e = x ∨ H e = some (.own x)) (k : ∀ b u, b ≠ e → h.get? b = some u → h'.get? b = some u) (heo : ∃ u, h'.get? e = some u)
    (new : ObjOk P w (upd H x o') h' x o') : HOk P w (upd H x o') h' := fun b u q => by
  have nown : ∀ c y, H c = some (.own y) → c ≠ x := fun c y r z => by subst z; rw [r] at mu; exact mu
  have ntup : ∀ c xs, H c = some (.tup xs) → c ≠ x := fun c xs r z => by subst z; rw [r] at mu; exact mu
  by_cases hb : b = x
  · subst hb; rw [upd_same] at q; cases q; exact new
  · rw [upd_ne hb] at q
    by_cases hbe : b = e
    · have q' : H b = some (.own x) := by
        rcases he with z | z
        · exact absurd (hbe.trans z) hb
        · rw [hbe]; exact z
      rw [q] at q'; cases q'
      obtain ⟨v, hv⟩ := heo
      exact ⟨v, by rw [hbe]; exact hv⟩
    · refine (ok b u q).stay (fun c v hc r => k c v ?_ r) (fun c r => by rw [upd_ne (nown c b r)]; exact r) fun c xs r => by rw [upd_ne (ntup c xs r)]; exact r
      rcases hc with rfl | hc
      · exact hbe
      · rintro rfl
        rcases he with z | z
        · exact nown c b hc z
        · rw [hc] at z; cases z; exact hb rfl
end
structure Un (fs ex : List Addr) (H H' : Hp) (h h' : Heap) : Prop where
  keep : ∀ b o, h.get? b = some o → H b = none → b ∉ fs → b ∉ ex → h'.get? b = some o
  slot : ∀ b o, h.get? b = some o → H b = none → b ∈ fs → b ∉ ex → ∃ sl, h'.get? b = some { o with slots := sl }
  free : ∀ b o, h.get? b = some o → H b = none → b ∉ ex → H' b = none
  there : ∀ b o, h.get? b = some o → b ∉ ex → ∃ o', h'.get? b = some o'
  tups : ∀ b xs, H b = some (.tup xs) → H' b = some (.tup xs)
  frzs : ∀ b o u, H b = some (.frz o u) → H' b = some (.frz o u)
  tbls : ∀ b ps, H b = some (.tbl ps) → ∃ more, H' b = some (.tbl (ps ++ more))
section
variable {fs fs' ex ex' : List Addr} {H H1 H2 : Hp} {h h1 h2 h' : Heap} {a x e : Addr} {o : HO}
theorem Un.any (u : Un fs ex H H1 h h1) {b : Addr} {ob : Obj} (q : h.get? b = some ob) (n : H b = none) (hx : b ∉ ex) : ∃ sl, h1.get? b = some { ob with slots := sl } := by
  by_cases hb : b ∈ fs
  · exact u.slot b ob q n hb hx
  · exact ⟨ob.slots, u.keep b ob q n hb hx⟩
theorem Un.kept (k : ∀ b u, h.get? b = some u → h'.get? b = some u) : Un fs ex H H h h' :=
  ⟨fun b ob q _ _ _ => k b ob q, fun b ob q _ _ _ => ⟨ob.slots, k b ob q⟩, fun _ _ _ n _ => n, fun b ob q _ => ⟨ob, k b ob q⟩, fun _ _ q => q, fun _ _ _ q => q, fun _ ps q => ⟨#[], by rw [q]; simp⟩⟩
theorem Un.refl : Un fs ex H H h h := Un.kept fun _ _ q => q
theorem Un.laid (k : ∀ b u, h.get? b = some u → h'.get? b = some u) (hp : h.objs.size ≤ a) (hn : H a = none) : Un fs ex H (upd H a o) h h' where
  keep := fun b u q _ _ _ => k b u q
  slot := fun b u q _ _ _ => ⟨u.slots, k b u q⟩
  free := fun b u q n _ => by rw [upd_ne (Nat.ne_of_lt (Nat.lt_of_lt_of_le (Heap.lt_size q) hp))]; exact n
  there := fun b u q _ => ⟨u, k b u q⟩
  tups := fun b xs q => by rw [upd_ne (ne_of_none q hn)]; exact q
  frzs := fun b u xs q => by rw [upd_ne (ne_of_none q hn)]; exact q
  tbls := fun b ps q => ⟨#[], by rw [upd_ne (ne_of_none q hn), q]; simp⟩
theorem Un.write (mu : Mut (H x)) (he : e = x ∨ H e = some (.own x)) (k : ∀ b u, b ≠ e → h.get? b = some u → h'.get? b = some u) (heo : ∃ u, h'.get? e = some u) : Un fs ex H (upd H x o) h h' := by
  have hx : ∀ b, H b = none → b ≠ x := fun b n z => by subst z; rw [n] at mu; exact mu
  have hb : ∀ b, H b = none → b ≠ e := fun b n z => by
    subst z
    rcases he with r | r
    · exact hx b n r
    · rw [n] at r; cases r
  have hm : ∀ b u, H b = some u → ¬ Mut (some u) → b ≠ x := fun b u q nm z => by subst z; rw [q] at mu; exact nm mu
  refine ⟨fun b u q n _ _ => k b u (hb b n) q, fun b u q n _ _ => ⟨u.slots, k b u (hb b n) q⟩, fun b u q n _ => by rw [upd_ne (hx b n)]; exact n, fun b u q _ => ?_,
    fun b xs q => by rw [upd_ne (hm b _ q fun z => z)]; exact q, fun b u xs q => by rw [upd_ne (hm b _ q fun z => z)]; exact q, fun b ps q => ⟨#[], by rw [upd_ne (hm b _ q fun z => z), q]; simp⟩⟩
  by_cases hbe : b = e
  · subst hbe; exact heo
  · exact ⟨u, k b u hbe q⟩
end
def trk (h : Heap) (H : Hp) : List Addr := (List.range h.objs.size).filter fun a => (H a).isSome
def hidT (h : Heap) (H : Hp) : Heap := PySem.W.hideAll h (trk h H)
theorem hidT_size (h : Heap) (H : Hp) : (hidT h H).objs.size = h.objs.size := PySem.W.hideAll_size _ _
theorem hidT_get {h : Heap} {H : Hp} {b : Addr} {o : Obj} (e : h.get? b = some o) (n : H b = none) : (hidT h H).get? b = some o :=
  PySem.W.hideAll_get _ e fun hm => by
    have q : (H b).isSome = true := (List.mem_filter.mp hm).2
    rw [n] at q; simp at q
theorem of_hidT {h : Heap} {H : Hp} {b : Addr} {o : Obj} (e : (hidT h H).get? b = some o) : h.get? b = some o ∧ H b = none := by
  have e' : h.get? b = some o := PySem.W.of_hideAll (trk h H) e
  refine ⟨e', ?_⟩
  cases q : H b with
  | none => rfl
  | some x =>
    have hm : b ∈ trk h H := List.mem_filter.mpr ⟨List.mem_range.mpr (Heap.lt_size e'), by simp [q]⟩
    have z : (hidT h H).get? b = none := PySem.W.hideAll_none (trk h H) hm
    rw [z] at e; cases e
end L2
namespace L2
open PySem PySem.Spec PyProof.Rows
structure Mod (K : PySem.W.Frag) (mg : Str → Option Value) (base : Heap) : Prop where
  kin : K.In base
  glob : base.Ns mainGlobals mg
  blt : ∃ mb, base.Ns builtinsNs mb ∧ ∀ x : Str, x ≠ "__name__" → mb x = bootBuiltins x
  nolimit : base.NoLimit
structure Cx where
  prog : Program
  w : World
  K : PySem.W.Frag
  mg : Str → Option Value
  base : Heap
  A : Around
  N : List Str
  s₀ : Shared
  H₀ : Hp
  env : Env
  outer : List Env
  stack : List Env
  ex : List Addr
  fn : Str → Bool
  calm : Bool
  pn : List (Addr × Obj)
  xe : Value → Shared → Prop
def frs (l : List Env) : List Addr := l.filterMap (·.frame)
abbrev Cx.fs (X : Cx) : List Addr := frs X.outer
def Vis (sc : Scope) (x : Str) : Prop := sc.names.lookup x = some .local ∨ sc.names.lookup x = some .cell ∨ sc.names.lookup x = some .free
def Loc (sc : Scope) (x : Str) : Prop := sc.names.lookup x = some .local ∨ sc.names.lookup x = some .cell
def Look (env : Env) (h : Heap) (m : Str → Option Value) (x : Str) (u : Value) : Prop :=
  (env.kindOf x = some .local ∧ m x = some u) ∨ ((env.kindOf x = some .cell ∨ env.kindOf x = some .free) ∧ ∃ c, env.cells.lookup x = some c ∧ h.IsCell c (some u))
structure Cx.Ok (X : Cx) : Prop where
  mod : Mod X.K X.mg X.base
  kind : X.env.scope.kind = .function
  glob : X.env.globals = mainGlobals
  blt : X.env.builtins = builtinsNs
  above : X.s₀.heap.objs.size ≤ X.env.locals
  inj : ∀ x y c, X.env.cells.lookup x = some c → X.env.cells.lookup y = some c → x = y
  has : ∀ x, (X.env.kindOf x = some .cell ∨ X.env.kindOf x = some .free) → ∃ c, X.env.cells.lookup x = some c
  cab : ∀ x c, X.fn x = true → X.env.cells.lookup x = some c → X.s₀.heap.objs.size ≤ c
  hd : X.calm = true → X.A.handled = none
  frames : X.A.frames = some X.stack
  stk : X.stack = X.outer ∨ (X.stack = X.env :: X.outer ∧ X.env.frame = some X.env.locals)
  exf : ∀ b ∈ X.ex, b ≠ X.env.locals ∧ ∀ x c, X.env.cells.lookup x = some c → c ≠ b
  bs : ∀ b o, X.base.get? b = some o → X.s₀.heap.get? b = some o ∧ X.H₀ b = none
  bsz : X.base.objs.size ≤ X.s₀.heap.objs.size
  noex : ∀ b o, X.base.get? b = some o → b ∉ X.ex
  exfs : ∀ b ∈ X.ex, b ∉ X.fs
  funs : X.s₀.heap.FunFrames X.base X.outer
  frf : ∀ b ∈ X.fs, X.H₀ b = none
structure Inv (X : Cx) (pins : List (Addr × Obj)) (σ : List (Option V)) (H : Hp) (s : Shared) : Prop where
  ok : X.Ok
  os : s.os = X.s₀.os
  bare : AllBare s.gens
  base : Un X.fs X.ex X.H₀ H X.s₀.heap s.heap
  loc : ∃ m, s.heap.Ns X.env.locals m ∧ ∀ (i : Nat) (x : Str) (v : V), X.N[i]? = some x → σ[i]? = some (some v) → Vis X.env.scope x → ∃ u, RelV v u ∧ Look X.env s.heap m x u
  cell : ∀ x c, X.env.cells.lookup x = some c → ∃ v, s.heap.IsCell c v
  free : H X.env.locals = none
  freeC : ∀ x c, X.env.cells.lookup x = some c → H c = none
  pin : ∀ p ∈ X.pn ++ pins, s.heap.get? p.1 = some p.2 ∧ H p.1 = none ∧ p.1 ≠ X.env.locals ∧ p.1 ∉ X.fs ∧ ∀ v, p.2.data ≠ .cell v
  hok : HOk X.prog X.w H s.heap
  len : σ.length = X.N.length
section
variable {X : Cx} {pins : List (Addr × Obj)} {σ : List (Option V)} {H H' : Hp} {s : Shared} {h' : Heap}
theorem Cx.Ok.nofr (ok : X.Ok) {b : Addr} {o : Obj} (e : X.base.get? b = some o) : b ∉ X.fs := fun hb => by
  have := (ok.funs.mem hb).1
  rw [e] at this; cases this
theorem Inv.bs (I : Inv X pins σ H s) : ∀ b o, X.base.get? b = some o → s.heap.get? b = some o ∧ H b = none := fun b o e =>
  ⟨I.base.keep b o (I.ok.bs b o e).1 (I.ok.bs b o e).2 (I.ok.nofr e) (I.ok.noex b o e), I.base.free b o (I.ok.bs b o e).1 (I.ok.bs b o e).2 (I.ok.noex b o e)⟩
theorem Inv.bk (I : Inv X pins σ H s) : ∀ b o, X.base.get? b = some o → s.heap.get? b = some o := fun b o e => (I.bs b o e).1
theorem Inv.mod (I : Inv X pins σ H s) : Mod X.K X.mg X.base := I.ok.mod
theorem Inv.kIn (I : Inv X pins σ H s) : X.K.In s.heap := I.ok.mod.kin.keeps I.bk
theorem Inv.lt (I : Inv X pins σ H s) : X.env.locals < s.heap.objs.size := let ⟨_, hn, _⟩ := I.loc; hn.lt
theorem Inv.sz (I : Inv X pins σ H s) : X.s₀.heap.objs.size ≤ s.heap.objs.size := Nat.le_trans I.ok.above (Nat.le_of_lt I.lt)
theorem Inv.nofs (I : Inv X pins σ H s) {a : Addr} (h : s.heap.objs.size ≤ a) : a ∉ X.fs := fun hb => by
  obtain ⟨_, o, ho, _⟩ := I.ok.funs.mem hb
  exact absurd (Nat.lt_of_lt_of_le (Heap.lt_size ho) (Nat.le_trans I.sz h)) (Nat.lt_irrefl _)
theorem Inv.cne (I : Inv X pins σ H s) : ∀ x c, X.env.cells.lookup x = some c → c ≠ X.env.locals := fun x c e z => by
  obtain ⟨v, o, ho, hd⟩ := I.cell x c e
  obtain ⟨m, ⟨o', es, ep, ho', hd', _⟩, _⟩ := I.loc
  rw [z, ho'] at ho; cases ho; rw [hd'] at hd; cases hd
theorem Inv.funs (I : Inv X pins σ H s) : s.heap.FunFrames X.base X.outer := by
  have all : ∀ (l : List Env), (∀ b ∈ frs l, b ∈ X.fs) → X.s₀.heap.FunFrames X.base l → s.heap.FunFrames X.base l := by
    intro l
    induction l with
    | nil => intro _ _; trivial
    | cons env r ih =>
      intro hs hl
      obtain ⟨hk, ⟨L, o, hf, hn, ho, hd⟩, hr⟩ := hl
      have hL : L ∈ X.fs := hs L (by unfold frs; rw [List.filterMap_cons, hf]; exact List.mem_cons_self)
      obtain ⟨sl, e⟩ := I.base.slot L o ho (I.ok.frf L hL) hL fun z => I.ok.exfs L z hL
      exact ⟨hk, ⟨L, _, hf, hn, e, hd⟩, ih (fun b hb => hs b (by unfold frs; rw [List.filterMap_cons, hf]; exact List.mem_cons_of_mem _ hb)) hr⟩
  exact all X.outer (fun _ hb => hb) I.ok.funs
theorem Inv.stack (I : Inv X pins σ H s) : s.heap.FunFrames X.base X.stack := by
  rcases I.ok.stk with e | ⟨e, hf⟩
  · rw [e]; exact I.funs
  · rw [e]
    obtain ⟨m, hn, _⟩ := I.loc
    refine .cons (by rw [I.ok.kind]; decide) hf hn ?_ I.funs
    exact Heap.get?_none_of_le (Nat.le_trans I.ok.bsz I.ok.above)
theorem Inv.stkSub (I : Inv X pins σ H s) : ∀ b ∈ frs X.stack, b ∈ X.env.locals :: X.fs := fun b hb => by
  rcases I.ok.stk with e | ⟨e, hf⟩
  · rw [e] at hb; exact List.mem_cons_of_mem _ hb
  · rw [e] at hb
    unfold frs at hb
    rw [List.filterMap_cons, hf] at hb
    exact hb
theorem Inv.stkFree (I : Inv X pins σ H s) : ∀ b ∈ frs X.stack, H b = none := fun b hb => by
  rcases List.mem_cons.mp (I.stkSub b hb) with e | hb
  · rw [e]; exact I.free
  · obtain ⟨_, o, ho, _⟩ := I.ok.funs.mem hb
    exact I.base.free b o ho (I.ok.frf b hb) fun z => I.ok.exfs b z hb
theorem Inv.step {g' : Array GenState} {t' : Nat} {d' : Drawn} {ch : List Addr} (I : Inv X pins σ H s)
    (hch : ∀ b ∈ ch, (b ∈ X.ex ∨ X.s₀.heap.objs.size ≤ b) ∧ b ≠ X.env.locals ∧ (∀ x c, X.env.cells.lookup x = some c → c ≠ b) ∧ ∀ p ∈ X.pn ++ pins, p.1 ≠ b)
    (keep : ∀ b o, b ≠ X.env.locals → b ∉ X.fs → b ∉ ch → s.heap.get? b = some o → H b = none → h'.get? b = some o)
    (slot : ∀ b o, b ≠ X.env.locals → b ∈ X.fs → b ∉ ch → s.heap.get? b = some o → H b = none → ∃ sl, h'.get? b = some { o with slots := sl }) (free : ∀ b o, b ∉ ch → s.heap.get? b = some o → H b = none → H' b = none)
    (there : ∀ b o, b ∉ ch → s.heap.get? b = some o → ∃ o', h'.get? b = some o')
    (tups : ∀ b xs, H b = some (.tup xs) → H' b = some (.tup xs)) (frzs : ∀ b o u, H b = some (.frz o u) → H' b = some (.frz o u)) (tbls : ∀ b ps, H b = some (.tbl ps) → ∃ more, H' b = some (.tbl (ps ++ more)))
    (ns : ∀ m, s.heap.Ns X.env.locals m → h'.Ns X.env.locals m) (hok : HOk X.prog X.w H' h') (hg : AllBare g') :
    Inv X pins σ H' { s with heap := h', gens := g', drawn := d', toks := t' } := by
  have neL : ∀ b o, X.s₀.heap.get? b = some o → b ≠ X.env.locals := fun b o e => Nat.ne_of_lt (Nat.lt_of_lt_of_le (Heap.lt_size e) I.ok.above)
  have neC : ∀ b o, X.s₀.heap.get? b = some o → b ∉ X.ex → b ∉ ch := fun b o e hx hb => by
    rcases (hch b hb).1 with z | z
    · exact hx z
    · exact absurd (Nat.lt_of_lt_of_le (Heap.lt_size e) z) (Nat.lt_irrefl _)
  have cellK : ∀ x c, X.env.cells.lookup x = some c → ∀ v, s.heap.IsCell c v → h'.IsCell c v := fun x c e v ⟨o, ho, hd⟩ => by
    have nch : c ∉ ch := fun z => (hch c z).2.2.1 x c e rfl
    by_cases hc : c ∈ X.fs
    · obtain ⟨sl, q⟩ := slot c o (I.cne x c e) hc nch ho (I.freeC x c e)
      exact ⟨_, q, hd⟩
    · exact ⟨o, keep c o (I.cne x c e) hc nch ho (I.freeC x c e), hd⟩
  refine ⟨I.ok, I.os, hg, ⟨fun b o e n hb hx => ?_, fun b o e n hb hx => ?_, fun b o e n hx => ?_, fun b o e hx => ?_, fun b xs e => tups b xs (I.base.tups b xs e), fun b o xs e => frzs b o xs (I.base.frzs b o xs e), fun b ps e => ?_⟩, ?_, fun x c e => ?_, ?_, fun x c e => ?_, fun p hp => ?_, hok, I.len⟩
  · exact keep b o (neL b o e) hb (neC b o e hx) (I.base.keep b o e n hb hx) (I.base.free b o e n hx)
  · obtain ⟨sl, e1⟩ := I.base.slot b o e n hb hx
    obtain ⟨sl', e2⟩ := slot b _ (neL b o e) hb (neC b o e hx) e1 (I.base.free b o e n hx)
    exact ⟨sl', e2⟩
  · obtain ⟨o', e1⟩ := I.base.there b o e hx
    exact free b o' (neC b o e hx) e1 (I.base.free b o e n hx)
  · obtain ⟨o', e1⟩ := I.base.there b o e hx
    exact there b o' (neC b o e hx) e1
  · obtain ⟨m1, e1⟩ := I.base.tbls b ps e
    obtain ⟨m2, e2⟩ := tbls b _ e1
    exact ⟨m1 ++ m2, by rw [e2, Array.append_assoc]⟩
  · obtain ⟨m, hn, hl⟩ := I.loc
    refine ⟨m, ns m hn, fun i x v e1 e2 e3 => ?_⟩
    obtain ⟨u, r, l⟩ := hl i x v e1 e2 e3
    refine ⟨u, r, ?_⟩
    rcases l with l | ⟨k, c, e, z⟩
    · exact .inl l
    · exact .inr ⟨k, c, e, cellK x c e _ z⟩
  · obtain ⟨v, z⟩ := I.cell x c e
    exact ⟨v, cellK x c e v z⟩
  · obtain ⟨m, ⟨o, _, _, ho, _⟩, _⟩ := I.loc
    exact free _ o (fun z => (hch _ z).2.1 rfl) ho I.free
  · obtain ⟨v, o, ho, hd⟩ := I.cell x c e
    exact free c o (fun z => (hch c z).2.2.1 x c e rfl) ho (I.freeC x c e)
  · obtain ⟨e, n, ne, nf, d⟩ := I.pin p hp
    have nch : p.1 ∉ ch := fun z => (hch p.1 z).2.2.2 p hp rfl
    exact ⟨keep p.1 p.2 ne nf nch e n, free p.1 p.2 nch e n, ne, nf, d⟩
theorem Inv.un {t' : Nat} (I : Inv X pins σ H s) (u : Un X.fs [] H H' s.heap h') (hok : HOk X.prog X.w H' h') : Inv X pins σ H' { s with heap := h', toks := t' } := by
  obtain ⟨m, ⟨o, es, ep, ho, r⟩, _⟩ := id I.loc
  obtain ⟨sl, hL⟩ := u.any ho I.free (by simp)
  exact I.step (g' := s.gens) (d' := s.drawn) (ch := []) (fun _ z => nomatch z) (fun b o _ hb _ e n => u.keep b o e n hb (by simp)) (fun b o _ hb _ e n => u.slot b o e n hb (by simp)) (fun b o _ e n => u.free b o e n (by simp)) (fun b o _ e => u.there b o e (by simp)) u.tups u.frzs u.tbls (fun m' hm => by
    obtain ⟨o', es', ep', ho', r'⟩ := hm
    rw [ho] at ho'; cases ho'
    exact ⟨_, es', ep', hL, r'⟩) hok I.bare
theorem Inv.call {g' : Array GenState} {t' : Nat} {d' : Drawn} {ch : List Addr} (I : Inv X pins σ H s) (u : Un (frs X.stack) ch H H' s.heap h') (hok : HOk X.prog X.w H' h') (hg : AllBare g')
    (hch : ∀ b ∈ ch, (b ∈ X.ex ∨ X.s₀.heap.objs.size ≤ b) ∧ b ≠ X.env.locals ∧ (∀ x c, X.env.cells.lookup x = some c → c ≠ b) ∧ ∀ p ∈ X.pn ++ pins, p.1 ≠ b) :
    Inv X pins σ H' { s with heap := h', gens := g', drawn := d', toks := t' } := by
  obtain ⟨m, ⟨o, es, ep, ho, r⟩, _⟩ := id I.loc
  obtain ⟨sl, hL⟩ := u.any ho I.free fun z => (hch _ z).2.1 rfl
  exact I.step (ch := ch) hch (fun b o hL hb hc e n => u.keep b o e n (fun z => (List.mem_cons.mp (I.stkSub b z)).elim hL hb) hc) (fun b o _ _ hc e n => u.any e n hc) (fun b o hc e n => u.free b o e n hc) (fun b o hc e => u.there b o e hc) u.tups u.frzs u.tbls (fun m' hm => by
    obtain ⟨o', es', ep', ho', r'⟩ := hm
    rw [ho] at ho'; cases ho'
    exact ⟨_, es', ep', hL, r'⟩) hok hg
theorem Inv.turned {t' : Nat} {it : Addr} (I : Inv X pins σ H s) (k : ∀ b o, b ≠ it → s.heap.get? b = some o → h'.get? b = some o) (hn : H it = none) (hL : it ≠ X.env.locals)
    (h1 : it ∈ X.ex ∨ X.s₀.heap.objs.size ≤ it) (h2 : ∀ x c, X.env.cells.lookup x = some c → c ≠ it) (h3 : ∀ p ∈ X.pn ++ pins, p.1 ≠ it) : Inv X pins σ H { s with heap := h', toks := t' } := by
  have nit : ∀ b u, H b = some u → b ≠ it := fun b u e z => by rw [z, hn] at e; cases e
  refine I.step (g' := s.gens) (d' := s.drawn) (ch := [it]) (fun b hb => ?_) (fun b o _ _ hc e _ => k b o (fun z => hc (by simp [z])) e) (fun b o _ _ hc e _ => ⟨o.slots, k b o (fun z => hc (by simp [z])) e⟩) (fun _ _ _ _ n => n)
    (fun b o hc e => ⟨o, k b o (fun z => hc (by simp [z])) e⟩) (fun _ _ e => e) (fun _ _ _ e => e) (fun b ps e => ⟨#[], by rw [e]; simp⟩) (fun m hm => ?_) (fun b u e => ?_) I.bare
  · have e : b = it := by simpa using hb
    subst e
    exact ⟨h1, hL, h2, h3⟩
  · obtain ⟨o, es, ep, ho, r⟩ := hm
    exact ⟨o, es, ep, k _ o (Ne.symm hL) ho, r⟩
  · refine (I.hok b u e).stay (fun c v hc q => k c v ?_ q) (fun _ q => q) fun _ _ q => q
    rcases hc with z | z
    · rw [z]; exact nit b u e
    · exact nit c _ z
theorem Inv.tok (I : Inv X pins σ H s) (t : Nat) : Inv X pins σ H { s with toks := t } := I.un (h' := s.heap) (t' := t) Un.refl I.hok
theorem Inv.kept {t' : Nat} (I : Inv X pins σ H s) (k : ∀ b u, s.heap.get? b = some u → h'.get? b = some u) : Inv X pins σ H { s with heap := h', toks := t' } := I.un (Un.kept k) (I.hok.kept k)
theorem Inv.laid {a : Addr} {o : HO} {t' : Nat} (I : Inv X pins σ H s) (k : ∀ b u, s.heap.get? b = some u → h'.get? b = some u) (hp : s.heap.objs.size ≤ a) (new : ObjOk X.prog X.w (upd H a o) h' a o) :
    Inv X pins σ (upd H a o) { s with heap := h', toks := t' } := I.un (Un.laid k hp (I.hok.fresh hp)) (I.hok.laid k hp new)
theorem Inv.write {x e : Addr} {o : HO} {t' : Nat} (I : Inv X pins σ H s) (mu : Mut (H x)) (he : e = x ∨ H e = some (.own x)) (k : ∀ b u, b ≠ e → s.heap.get? b = some u → h'.get? b = some u) (heo : ∃ u, h'.get? e = some u)
    (new : ObjOk X.prog X.w (upd H x o) h' x o) : Inv X pins σ (upd H x o) { s with heap := h', toks := t' } := I.un (Un.write mu he k heo) (I.hok.write mu he k heo new)
theorem Inv.pins_of {pins' : List (Addr × Obj)} (I : Inv X pins σ H s) (h : ∀ p ∈ pins', s.heap.get? p.1 = some p.2 ∧ H p.1 = none ∧ p.1 ≠ X.env.locals ∧ p.1 ∉ X.fs ∧ ∀ v, p.2.data ≠ .cell v) : Inv X pins' σ H s :=
  ⟨I.ok, I.os, I.bare, I.base, I.loc, I.cell, I.free, I.freeC, fun p hp => (List.mem_append.mp hp).elim (fun z => I.pin p (List.mem_append_left _ z)) (h p), I.hok, I.len⟩
theorem nodup_ix {N : List Str} (hN : N.Nodup) {i j : Nat} {x : Str} (a : N[i]? = some x) (b : N[j]? = some x) : i = j := by
  obtain ⟨h1, e1⟩ := List.getElem?_eq_some_iff.mp a
  obtain ⟨h2, e2⟩ := List.getElem?_eq_some_iff.mp b
  exact (List.getElem_inj hN).mp (e1.trans e2.symm)
theorem store_ok2 {M : Model} {A : Around} {E : Value → Shared → Prop} {i : Nat} {x : Str} {v : V} {u : Value} {Q : Unit → Shared → Prop} (I : Inv X pins σ H s) (hN : X.N.Nodup) (hi : X.N[i]? = some x) (hx : Loc X.env.scope x) (r : RelV v u)
    (h : ∀ s', Inv X pins (σ.set i (some v)) H s' → (∃ a, Heap.SameBut a s.heap s'.heap ∧ (a = X.env.locals ∨ X.env.cells.lookup x = some a)) → Q () s') (hf : X.fn x = true ∨ X.env.scope.names.lookup x = some .local := by first | exact .inl rfl | exact .inr rfl | assumption) : wpAny M A (storeName X.env x u) Q E s := by
  obtain ⟨m, hn, hl⟩ := id I.loc
  have hcls : (X.env.scope.kind == .class || (X.env.scope.kind == .module && X.env.locals != X.env.globals)) = false := by rw [I.ok.kind]; rfl
  have hiσ : i < σ.length := by rw [I.len]; exact (List.getElem?_eq_some_iff.mp hi).1
  have cne := I.cne
  have tracked : ∀ {a : Addr} {h' : Heap}, (∃ o, s.heap.get? a = some o ∧ H a = none) → Heap.SameBut a s.heap h' → HOk X.prog X.w H h' := fun {a h'} ha hs b ob e => by
    obtain ⟨_, _, hfree⟩ := ha
    refine (I.hok b ob e).stay (fun c w' hc q => (hs.2 c ?_).trans q) (fun _ q => q) fun _ _ q => q
    rintro rfl
    rcases hc with rfl | hc
    · rw [hfree] at e; cases e
    · rw [hfree] at hc; cases hc
  rcases hx with hk | hk
  · refine wpAny_storeName_local hk hn (fun h' hn' hs => ?_) hcls
    obtain ⟨oL, _, _, hoL, _⟩ := id hn
    refine h _ ⟨I.ok, I.os, I.bare, ⟨fun b o e n hb hx => ?_, fun b o e n hb hx => ?_, I.base.free, fun b o e hx => ?_, I.base.tups, I.base.frzs, I.base.tbls⟩, ⟨_, hn', fun j y v' e1 e2 e3 => ?_⟩, fun y c e => ?_, I.free, I.freeC, fun p hp => ?_, tracked ⟨oL, hoL, I.free⟩ hs, by simpa using I.len⟩ ⟨_, hs, .inl rfl⟩
    · exact (hs.2 b (Nat.ne_of_lt (Nat.lt_of_lt_of_le (Heap.lt_size e) I.ok.above))).trans (I.base.keep b o e n hb hx)
    · obtain ⟨sl, e1⟩ := I.base.slot b o e n hb hx
      exact ⟨sl, (hs.2 b (Nat.ne_of_lt (Nat.lt_of_lt_of_le (Heap.lt_size e) I.ok.above))).trans e1⟩
    · obtain ⟨o', e1⟩ := I.base.there b o e hx
      exact ⟨o', (hs.2 b (Nat.ne_of_lt (Nat.lt_of_lt_of_le (Heap.lt_size e) I.ok.above))).trans e1⟩
    · by_cases hj : j = i
      · subst hj
        rw [hi] at e1; cases e1
        rw [List.getElem?_set_self hiσ] at e2
        cases e2
        exact ⟨u, r, .inl ⟨hk, by simp⟩⟩
      · rw [List.getElem?_set_ne (Ne.symm hj)] at e2
        obtain ⟨u', r', q⟩ := hl j y v' e1 e2 e3
        refine ⟨u', r', ?_⟩
        rcases q with ⟨k, e⟩ | ⟨k, c, e, z⟩
        · refine .inl ⟨k, ?_⟩
          have : y ≠ x := fun e => hj (nodup_ix hN e1 (e ▸ hi))
          simp [this, e]
        · exact .inr ⟨k, c, e, z.sameBut hs (cne y c e)⟩
    · obtain ⟨w', z⟩ := I.cell y c e
      exact ⟨w', z.sameBut hs (cne y c e)⟩
    · obtain ⟨e, n, ne, nf, d⟩ := I.pin p hp
      exact ⟨(hs.2 p.1 ne).trans e, n, ne, nf, d⟩
  · have hfn : X.fn x = true := by
      rcases hf with z | z
      · exact z
      · rw [z] at hk; cases hk
    obtain ⟨c, hc⟩ := I.ok.has x (.inl hk)
    obtain ⟨w', z⟩ := I.cell x c hc
    refine wpAny_storeName_cell I.ok.kind hk hc z (fun h' hc' hs => ?_)
    obtain ⟨oc, hoc, hocd⟩ := id z
    refine h { s with heap := h' } ⟨I.ok, I.os, I.bare, ⟨fun b o e n hb hx => ?_, fun b o e n hb hx => ?_, I.base.free, fun b o e hx => ?_, I.base.tups, I.base.frzs, I.base.tbls⟩, ⟨m, hn.sameBut hs (Ne.symm (cne x c hc)), fun j y v' e1 e2 e3 => ?_⟩, fun y c' e => ?_, I.free, I.freeC, fun p hp => ?_, tracked ⟨oc, hoc, I.freeC x c hc⟩ hs, by simpa using I.len⟩ ⟨c, hs, .inr hc⟩
    · exact (hs.2 b (Nat.ne_of_lt (Nat.lt_of_lt_of_le (Heap.lt_size e) (I.ok.cab x c hfn hc)))).trans (I.base.keep b o e n hb hx)
    · obtain ⟨sl, e1⟩ := I.base.slot b o e n hb hx
      exact ⟨sl, (hs.2 b (Nat.ne_of_lt (Nat.lt_of_lt_of_le (Heap.lt_size e) (I.ok.cab x c hfn hc)))).trans e1⟩
    · obtain ⟨o', e1⟩ := I.base.there b o e hx
      exact ⟨o', (hs.2 b (Nat.ne_of_lt (Nat.lt_of_lt_of_le (Heap.lt_size e) (I.ok.cab x c hfn hc)))).trans e1⟩
    · by_cases hj : j = i
      · subst hj
        rw [hi] at e1; cases e1
        rw [List.getElem?_set_self hiσ] at e2
        cases e2
        exact ⟨u, r, .inr ⟨.inl hk, c, hc, hc'⟩⟩
      · rw [List.getElem?_set_ne (Ne.symm hj)] at e2
        obtain ⟨u', r', q⟩ := hl j y v' e1 e2 e3
        refine ⟨u', r', ?_⟩
        rcases q with q | ⟨k, c', e, z'⟩
        · exact .inl q
        · refine .inr ⟨k, c', e, z'.sameBut hs ?_⟩
          rintro rfl
          exact hj (nodup_ix hN e1 (I.ok.inj _ _ _ e hc ▸ hi))
    · by_cases hcc : c' = c
      · subst hcc; exact ⟨_, hc'⟩
      · obtain ⟨w2, z2⟩ := I.cell y c' e
        exact ⟨w2, z2.sameBut hs hcc⟩
    · obtain ⟨e, n, ne, nf, d⟩ := I.pin p hp
      refine ⟨(hs.2 p.1 ?_).trans e, n, ne, nf, d⟩
      intro q
      rw [q, hoc] at e
      have q' : oc = p.2 := Option.some.inj e
      exact d w' (by rw [← q']; exact hocd)
theorem store_ok {M : Model} {A : Around} {E : Value → Shared → Prop} {i : Nat} {x : Str} {v : V} {u : Value} {Q : Unit → Shared → Prop} (I : Inv X pins σ H s) (hN : X.N.Nodup) (hi : X.N[i]? = some x) (hx : Loc X.env.scope x) (r : RelV v u)
    (h : ∀ s', Inv X pins (σ.set i (some v)) H s' → Q () s') (hf : X.fn x = true ∨ X.env.scope.names.lookup x = some .local := by first | exact .inl rfl | exact .inr rfl | assumption) : wpAny M A (storeName X.env x u) Q E s :=
  store_ok2 I hN hi hx r (fun s' I' _ => h s' I') hf
theorem Inv.call' {s' : Shared} {ch : List Addr} (I : Inv X pins σ H s) (ho : s'.os = s.os) (u : Un (frs X.stack) ch H H' s.heap s'.heap) (hok : HOk X.prog X.w H' s'.heap) (hg : AllBare s'.gens)
    (hch : ∀ b ∈ ch, (b ∈ X.ex ∨ X.s₀.heap.objs.size ≤ b) ∧ b ≠ X.env.locals ∧ (∀ x c, X.env.cells.lookup x = some c → c ≠ b) ∧ ∀ p ∈ X.pn ++ pins, p.1 ≠ b) : Inv X pins σ H' s' := by
  obtain ⟨h', g', d', t', o'⟩ := s'
  have e : o' = s.os := ho
  subst e
  exact I.call (g' := g') (t' := t') (d' := d') u hok hg hch
end
abbrev XK := Value → Option Addr → Hp → Prop
abbrev St := List (Option V)
abbrev VK := V → Hp → Prop
abbrev TE := St → Hp → VK → Prop
abbrev TT := St → Hp → (Bool → Hp → Prop) → Prop
abbrev TA := St → Hp → (List V → Hp → Prop) → Prop
structure Ends where
  nx : St → Hp → Prop
  rt : VK
  bk : St → Hp → Prop := fun _ _ => False
  ct : St → Hp → Prop := fun _ _ => False
abbrev TS := Ends → St → Hp → Prop
def EP (X : Cx) (pins : List (Addr × Obj)) (σ : St) (Q : VK) (u : Value) (s' : Shared) : Prop := ∃ v H', Inv X pins σ H' s' ∧ RelV v u ∧ Q v H'
def TP (X : Cx) (pins : List (Addr × Obj)) (σ : St) (Q : Bool → Hp → Prop) (b : Bool) (s' : Shared) : Prop := ∃ H', Inv X pins σ H' s' ∧ Q b H'
def AP (X : Cx) (pins : List (Addr × Obj)) (σ : St) (Q : List V → Hp → Prop) (us : List Value) (s' : Shared) : Prop := ∃ vs H', Inv X pins σ H' s' ∧ Vals vs us ∧ Q vs H'
def SP (X : Cx) (pins : List (Addr × Obj)) (D : Ends) (f : Flow) (s' : Shared) : Prop :=
  match f with
  | .next => ∃ σ' H', Inv X pins σ' H' s' ∧ D.nx σ' H'
  | .brk => ∃ σ' H', Inv X pins σ' H' s' ∧ D.bk σ' H'
  | .cont => ∃ σ' H', Inv X pins σ' H' s' ∧ D.ct σ' H'
  | .ret u => ∃ v σ' H', Inv X pins σ' H' s' ∧ RelV v u ∧ D.rt v H'
def PE (X : Cx) (e : Expr) (t : TE) : Prop :=
  ∀ (pins : List (Addr × Obj)) (s : Shared) (σ : St) (H : Hp) (Q : VK), Inv X pins σ H s → t σ H Q → wpAny (model X.prog X.w) X.A (eval e X.env) (EP X pins σ Q) X.xe s
def PT (X : Cx) (e : Expr) (t : TT) : Prop :=
  ∀ (pins : List (Addr × Obj)) (s : Shared) (σ : St) (H : Hp) (Q : Bool → Hp → Prop), Inv X pins σ H s → t σ H Q → wpAny (model X.prog X.w) X.A (isTrue e X.env (eval e X.env)) (TP X pins σ Q) X.xe s
def PW (X : Cx) (e : Expr) (t : TT) : Prop :=
  ∀ (whole : Sem Value) (pins : List (Addr × Obj)) (s : Shared) (σ : St) (H : Hp) (Q : Bool → Hp → Prop), Inv X pins σ H s → t σ H Q → wpAny (model X.prog X.w) X.A (isTrue e X.env whole) (TP X pins σ Q) X.xe s
theorem PW.pt {X : Cx} {e : Expr} {t : TT} (h : PW X e t) : PT X e t := h _
def PA (X : Cx) (es : List Expr) (t : TA) : Prop :=
  ∀ (pos : Pos) (pins : List (Addr × Obj)) (s : Shared) (σ : St) (H : Hp) (Q : List V → Hp → Prop), Inv X pins σ H s → t σ H Q → wpAny (model X.prog X.w) X.A (spliced (backTo pos (starEach es X.env))) (AP X pins σ Q) X.xe s
def PS (X : Cx) (st : Stmt) (t : TS) : Prop :=
  ∀ (pins : List (Addr × Obj)) (s : Shared) (σ : St) (H : Hp) (D : Ends), Inv X pins σ H s → t D σ H → wpAny (model X.prog X.w) X.A (exec st X.env) (SP X pins D) X.xe s
def PSs (X : Cx) (st : List Stmt) (t : TS) : Prop :=
  ∀ (pins : List (Addr × Obj)) (s : Shared) (σ : St) (H : Hp) (D : Ends), Inv X pins σ H s → t D σ H → wpAny (model X.prog X.w) X.A (execs st X.env) (SP X pins D) X.xe s
theorem thn {α : Type} {t : Sem α} {Q Q' : α → Shared → Prop} {M : Model} {A : Around} {E : Value → Shared → Prop} {s : Shared} (h : wpAny M A t Q E s) (hQ : ∀ a s, Q a s → Q' a s) : wpAny M A t Q' E s := wpAny_mono h hQ fun _ _ x => x
end L2
namespace L2
open PySem PySem.Spec PyProof.Rows
section
variable {X : Cx}
def tVar (i : Nat) : TE := fun σ H Q => ∃ v, σ[i]? = some (some v) ∧ Q v H
def tC (v : V) : TE := fun _ H Q => Q v H
theorem pe_var {i : Nat} {x : Str} {pos : Pos} (hN : X.N[i]? = some x) (hv : Vis X.env.scope x) (hd : (x == ("__debug__" : Str)) = false := by decide) (hcd : (x == ("__classdict__" : Str)) = false := by decide) : PE X (.Name x pos) (tVar i) := by
  intro pins s σ H Q I h
  obtain ⟨v, e, h⟩ := h
  obtain ⟨m, hn, hl⟩ := I.loc
  obtain ⟨u, r, l⟩ := hl i x v hN e hv
  have fin : EP X pins σ Q u s := ⟨v, H, I, r, h⟩
  rcases l with ⟨hk, hm⟩ | ⟨hk, c, hc, hcell⟩
  · exact wpAny_Name (wpAny_loadName_local I.ok.kind hk hn hm fin) hd
  · rcases hk with hk | hk
    · exact wpAny_Name (wpAny_loadName_cell I.ok.kind hk hc hcell fin) hd
    · exact wpAny_Name (wpAny_loadName_free I.ok.kind hk hc hcell fin hcd) hd
theorem pe_int {i j pos} : PE X (.Constant (.int i) j pos) (tC (.int i)) := fun _ _ _ H _ I h => wpAny_Constant_int ⟨.int i, H, I.tok _, ⟨_, rfl⟩, h⟩
theorem pe_bl {b j pos} : PE X (.Constant (.bool b) j pos) (tC (.bl b)) := fun _ _ _ H _ I h => Constant_bool ⟨.bl b, H, I, rfl, h⟩
theorem pe_non {j pos} : PE X (.Constant .none j pos) (tC .non) := fun _ _ _ H _ I h => Constant_none ⟨.non, H, I, rfl, h⟩
theorem pe_str {x j pos} : PE X (.Constant (.str x) j pos) (tC (.str x)) := fun _ _ _ H _ I h => Calls.Constant_str ⟨.str x, H, I.tok _, ⟨_, rfl⟩, h⟩
def Gl (X : Cx) (x : Str) : Prop := X.env.kindOf x = some .globalImplicit
theorem ld_glob {E : Value → Shared → Prop} {pins : List (Addr × Obj)} {s : Shared} {σ : St} {H : Hp} {x : Str} {u : Value} {pos : Pos} {Q : Value → Shared → Prop} (I : Inv X pins σ H s) (hg : Gl X x) (hm : X.mg x = some u) (h : Q u s)
    (hd : (x == ("__debug__" : Str)) = false := by decide) : wpAny (model X.prog X.w) X.A (eval (.Name x pos) X.env) Q E s :=
  Calls.Name_function_global I.ok.kind hg (Calls.loadGlobal_global (by rw [I.ok.glob]; exact I.mod.glob.keeps I.bk) hm h) hd
theorem ld_blt {E : Value → Shared → Prop} {pins : List (Addr × Obj)} {s : Shared} {σ : St} {H : Hp} {x : Str} {u : Value} {pos : Pos} {Q : Value → Shared → Prop} (I : Inv X pins σ H s) (hg : Gl X x) (hm : X.mg x = none) (hv : bootBuiltins x = some u) (h : Q u s)
    (hn : x ≠ "__name__" := by decide) (hd : (x == ("__debug__" : Str)) = false := by decide) : wpAny (model X.prog X.w) X.A (eval (.Name x pos) X.env) Q E s := by
  obtain ⟨mb, h1, h2⟩ := I.mod.blt
  exact Calls.Name_function_global I.ok.kind hg (Calls.loadGlobal_builtin (by rw [I.ok.glob]; exact I.mod.glob.keeps I.bk) hm (by rw [I.ok.blt]; exact h1.keeps I.bk) ((h2 x hn).trans hv) h) hd
theorem pe_bltn {x : Str} {v : V} {u : Value} {pos : Pos} (hg : Gl X x) (hm : X.mg x = none) (hv : bootBuiltins x = some u) (r : RelV v u) (hn : x ≠ "__name__" := by decide) (hd : (x == ("__debug__" : Str)) = false := by decide) : PE X (.Name x pos) (tC v) :=
  fun _ _ _ H _ I h => ld_blt I hg hm hv ⟨v, H, I, r, h⟩ hn hd
variable {a b : Expr} {ta tb : TE} {pos : Pos}
def tB (t : TE) : TT := fun σ H Q => t σ H fun x H1 => ∃ c, x = .bl c ∧ Q c H1
theorem pt_val {e : Expr} {t : TE} (h : PE X e t) (he : ∀ whole, isTrue e X.env whole = (do let v ← whole; standAt e.pos; holding [v] (truthy v)) := by intro _; rfl) : PT X e (tB t) := by
  intro pins s σ H Q I hw
  refine isTrue_plain (thn (h pins s σ H _ I hw) fun v s1 ⟨x, H1, I1, r1, q1⟩ => ?_) (he _)
  obtain ⟨d, rfl, q⟩ := q1
  cases r1
  exact wpAny_truthy_bool ⟨H1, I1, q⟩
variable {tA tB' : TT} {rest : List Expr}
def tAnd (t u : TT) : TT := fun σ H Q => t σ H fun c H1 => if c = true then u σ H1 Q else Q false H1
def tOr (t u : TT) : TT := fun σ H Q => t σ H fun c H1 => if c = true then Q true H1 else u σ H1 Q
def tNot (t : TT) : TT := fun σ H Q => t σ H fun c H1 => Q (!c) H1
theorem pw_and1 (ha : PT X a tA) : PW X (.BoolOp .And [a] pos) tA := by
  intro wh pins s σ H Q I h
  refine isTrue_and (thn (ha pins s σ H Q I h) fun c s1 e => ?_)
  cases c with
  | true => exact isTrue_and_nil e
  | false => exact e
theorem pw_or1 (ha : PT X a tA) : PW X (.BoolOp .Or [a] pos) tA := by
  intro wh pins s σ H Q I h
  refine isTrue_or (thn (ha pins s σ H Q I h) fun c s1 e => ?_)
  cases c with
  | false => exact isTrue_or_nil e
  | true => exact e
theorem pw_and (ha : PT X a tA) (hb : PW X (.BoolOp .And (b :: rest) pos) tB') : PW X (.BoolOp .And (a :: b :: rest) pos) (tAnd tA tB') := by
  intro wh pins s σ H Q I h
  refine isTrue_and (thn (ha pins s σ H _ I h) fun c s1 ⟨H1, I1, q1⟩ => ?_)
  cases c with
  | true => exact hb wh pins s1 σ H1 Q I1 q1
  | false => exact ⟨H1, I1, q1⟩
theorem pw_or (ha : PT X a tA) (hb : PW X (.BoolOp .Or (b :: rest) pos) tB') : PW X (.BoolOp .Or (a :: b :: rest) pos) (tOr tA tB') := by
  intro wh pins s σ H Q I h
  refine isTrue_or (thn (ha pins s σ H _ I h) fun c s1 ⟨H1, I1, q1⟩ => ?_)
  cases c with
  | true => exact ⟨H1, I1, q1⟩
  | false => exact hb wh pins s1 σ H1 Q I1 q1
theorem pt_not (ha : PT X a tA) : PT X (.UnaryOp .Not a pos) (tNot tA) := by
  intro pins s σ H Q I h
  exact isTrue_not (ha pins s σ H (fun c H1 => Q (!c) H1) I h)
def tAndV (ta tb : TE) : TE := fun σ H Q => ta σ H fun x H1 => ∃ c, x = .bl c ∧ if c = true then tb σ H1 Q else Q (.bl false) H1
theorem pe_one {op} {t : TE} (h : PE X a t) : PE X (.BoolOp op [a] pos) t := fun pins s σ H Q I hw => BoolOp_one (h pins s σ H Q I hw)
theorem pe_and (ha : PE X a ta) (hb : PE X (.BoolOp .And (b :: rest) pos) tb) : PE X (.BoolOp .And (a :: b :: rest) pos) (tAndV ta tb) := by
  intro pins s σ H Q I h
  refine BoolOp_and (thn (ha pins s σ H _ I h) fun v s1 ⟨x, H1, I1, r1, q1⟩ => ?_)
  obtain ⟨c, rfl, q1⟩ := q1
  cases r1
  refine wpAny_truthy_bool ?_
  cases c with
  | true => exact hb pins s1 σ H1 Q I1 q1
  | false => exact ⟨.bl false, H1, I1, rfl, q1⟩
end
end L2
namespace L2
open PySem PySem.Spec PyProof.Rows
def SqL (K : PySem.W.Frag) (H : Hp) (a : Addr) (xs : List V) : Prop :=
  Rd H a (.lst xs) ∨
    ∃ (o : Obj) (its : Array Value) (n : Nat), K.lookup a = some o ∧ o.cls = .type "list" ∧ o.dict = none ∧ o.data = .seq its n ∧ its.size ≤ sizeLine ∧ Vals xs its.toList
def SqT (K : PySem.W.Frag) (H : Hp) (a : Addr) (xs : List V) : Prop :=
  Rd H a (.tup xs) ∨
    ∃ (o : Obj) (its : Array Value) (n : Nat), K.lookup a = some o ∧ o.cls = .type "tuple" ∧ o.data = .seq its n ∧ its.size ≤ sizeLine ∧ Vals xs its.toList
def absV : Value → Option V
  | .none => some .non
  | .bool b => some (.bl b)
  | .int i _ => some (.int i)
  | .str x _ => some (.str x)
  | .bytes b _ => some (.byt b)
  | .float b _ => some (.flt b)
  | .ref a => some (.ref a)
  | .type n => some (.ty n)
  | _ => none
theorem RelV.abs {x : V} {u : Value} (r : RelV x u) : absV u = some x := by
  cases x with
  | non => cases r; rfl
  | bl _ => cases r; rfl
  | int _ => obtain ⟨t, rfl⟩ := r; rfl
  | str _ => obtain ⟨t, rfl⟩ := r; rfl
  | byt _ => obtain ⟨t, rfl⟩ := r; rfl
  | flt _ => obtain ⟨t, rfl⟩ := r; rfl
  | ref _ => cases r; rfl
  | ty _ => cases r; rfl
theorem RelV.inj {x y : V} {u : Value} (r : RelV x u) (q : RelV y u) : x = y := Option.some.inj (r.abs.symm.trans q.abs)
theorem Vals.inj : ∀ {xs ys : List V} {us : List Value}, Vals xs us → Vals ys us → xs = ys
  | _, _, _, .nil, .nil => rfl
  | _, _, _, .cons r t, .cons r' t' => by rw [r.inj r', Vals.inj t t']
section
variable {X : Cx} {pins : List (Addr × Obj)} {σ : St} {H : Hp} {s : Shared} {a : Addr} {xs ys : List V}
theorem SqL.of {K : PySem.W.Frag} (h : H a = some (.lst xs)) : SqL K H a xs := .inl (.inl h)
theorem SqT.of {K : PySem.W.Frag} (h : H a = some (.tup xs)) : SqT K H a xs := .inl (.inl h)
theorem Inv.list (I : Inv X pins σ H s) (h : SqL X.K H a xs) : ∃ its : List Value, Vals xs its ∧ PlainL s.heap a its.toArray ∧ xs.length ≤ sizeLine := by
  rcases h with h | ⟨o, its, n, hk, hc, hd, hs, hz, r⟩
  · obtain ⟨z, its, n, r, e⟩ := h.ok I.hok
    exact ⟨its, r, ⟨_, n, e, rfl, rfl, rfl⟩, z⟩
  · refine ⟨its.toList, r, ⟨o, n, I.kIn a o hk, hc, hd, by simpa using hs⟩, ?_⟩
    have e := r.length
    simp only [Array.length_toList] at e
    lia
theorem Inv.tuple (I : Inv X pins σ H s) (h : SqT X.K H a xs) : ∃ its : List Value, Vals xs its ∧ IsTup s.heap a its.toArray ∧ xs.length ≤ sizeLine := by
  rcases h with h | ⟨o, its, n, hk, hc, hs, hz, r⟩
  · obtain ⟨z, its, r, p⟩ := h.ok I.hok
    exact ⟨its, r, p.tup, z⟩
  · refine ⟨its.toList, r, ⟨o, I.kIn a o hk, hc, n, by simpa using hs⟩, ?_⟩
    have e := r.length
    simp only [Array.length_toList] at e
    lia
theorem Inv.list_inj (I : Inv X pins σ H s) (h : SqL X.K H a xs) (h' : SqL X.K H a ys) : xs = ys := by
  obtain ⟨its, r, ⟨o, n, e, _, _, d⟩, _⟩ := I.list h
  obtain ⟨its', r', ⟨o', n', e', _, _, d'⟩, _⟩ := I.list h'
  rw [e] at e'; cases e'
  rw [d] at d'
  injection d' with d1 _
  have : its = its' := by simpa using congrArg Array.toList d1
  subst this
  exact r.inj r'
theorem Inv.tuple_inj (I : Inv X pins σ H s) (h : SqT X.K H a xs) (h' : SqT X.K H a ys) : xs = ys := by
  obtain ⟨its, r, ⟨o, e, _, n, d⟩, _⟩ := I.tuple h
  obtain ⟨its', r', ⟨o', e', _, n', d'⟩, _⟩ := I.tuple h'
  rw [e] at e'; cases e'
  rw [d] at d'
  injection d' with d1 _
  have : its = its' := by simpa using congrArg Array.toList d1
  subst this
  exact r.inj r'
end
abbrev Cx.wish (X : Cx) (E : Value → Shared → Prop) : Cx := { X with xe := E }
abbrev Cx.nox (X : Cx) : Cx := X.wish fun _ _ => False
theorem Cx.Ok.wish {X : Cx} (ok : X.Ok) (E : Value → Shared → Prop) : (X.wish E).Ok :=
  ⟨ok.mod, ok.kind, ok.glob, ok.blt, ok.above, ok.inj, ok.has, ok.cab, ok.hd, ok.frames, ok.stk, ok.exf, ok.bs, ok.bsz, ok.noex, ok.exfs, ok.funs, ok.frf⟩
theorem Cx.Ok.unwish {X : Cx} {E : Value → Shared → Prop} (ok : (X.wish E).Ok) : X.Ok :=
  ⟨ok.mod, ok.kind, ok.glob, ok.blt, ok.above, ok.inj, ok.has, ok.cab, ok.hd, ok.frames, ok.stk, ok.exf, ok.bs, ok.bsz, ok.noex, ok.exfs, ok.funs, ok.frf⟩
section
variable {X : Cx} {pins : List (Addr × Obj)} {σ : St} {H : Hp} {s : Shared} {E : Value → Shared → Prop}
theorem Inv.wish (I : Inv X pins σ H s) (E : Value → Shared → Prop) : Inv (X.wish E) pins σ H s := ⟨I.ok.wish E, I.os, I.bare, I.base, I.loc, I.cell, I.free, I.freeC, I.pin, I.hok, I.len⟩
theorem Inv.unwish (I : Inv (X.wish E) pins σ H s) : Inv X pins σ H s := ⟨I.ok.unwish, I.os, I.bare, I.base, I.loc, I.cell, I.free, I.freeC, I.pin, I.hok, I.len⟩
theorem SP.unwish {D : Ends} {f : Flow} {s' : Shared} (h : SP (X.wish E) pins D f s') : SP X pins D f s' := by
  cases f with
  | next => obtain ⟨σ', H', I, q⟩ := h; exact ⟨σ', H', I.unwish, q⟩
  | brk => obtain ⟨σ', H', I, q⟩ := h; exact ⟨σ', H', I.unwish, q⟩
  | cont => obtain ⟨σ', H', I, q⟩ := h; exact ⟨σ', H', I.unwish, q⟩
  | ret u => obtain ⟨v, σ', H', I, r, q⟩ := h; exact ⟨v, σ', H', I.unwish, r, q⟩
theorem PSs.nox {st : List Stmt} {t : TS} (h : PSs X.nox st t) : PSs X st t := fun pins s σ H D I hw =>
  wpAny_mono (h pins s σ H D (I.wish _) hw) (fun _ _ q => q.unwish) fun _ _ z => False.elim z
end
section
variable {X : Cx} {st : Stmt} {rest : List Stmt} {t u : TS} {e : Expr} {te : TE} {pos : Pos}
def tNext : TS := fun D σ H => D.nx σ H
def tSeq (t u : TS) : TS := fun D σ H => t { D with nx := u D } σ H
theorem pss_nil : PSs X [] tNext := fun _ _ σ H _ I h => wpAny_execs_nil ⟨σ, H, I, h⟩
theorem pss_cons (h1 : PS X st t) (h2 : PSs X rest u) : PSs X (st :: rest) (tSeq t u) := by
  intro pins s σ H D I h
  refine wpAny_execs_cons (thn (h1 pins s σ H { D with nx := u D } I h) fun f s1 q => ?_)
  cases f with
  | next =>
    obtain ⟨σ', H', I', q⟩ := q
    exact h2 pins s1 σ' H' D I' q
  | ret v => exact q
  | brk => exact q
  | cont => exact q
theorem pss_one (h1 : PS X st t) : PSs X [st] t := by
  intro pins s σ H D I h
  refine wpAny_execs_cons (thn (h1 pins s σ H D I h) fun f s1 q => ?_)
  cases f with
  | next => exact wpAny_execs_nil q
  | ret v => exact q
  | brk => exact q
  | cont => exact q
theorem Inv.quiet {pins : List (Addr × Obj)} {σ : St} {H : Hp} {s : Shared} (I : Inv X pins σ H s) : interactive X.env = false := by simp [interactive, I.ok.kind]
def tDrop (te : TE) : TS := fun D σ H => te σ H fun _ H1 => D.nx σ H1
theorem ps_expr (he : PE X e te) (hs : swapsWith e none pos.line X.env = pure false := by rfl) : PS X (.Expr e pos) (tDrop te) := by
  intro pins s σ H D I h
  exact wpAny_Expr_any (thn (he pins s σ H _ I h) fun v s1 ⟨x, H1, I1, r1, q1⟩ => ⟨σ, H1, I1, q1⟩) I.quiet hs
def tRet (te : TE) : TS := fun D σ H => te σ H D.rt
theorem ps_ret (he : PE X e te) : PS X (.Return (some e) pos) (tRet te) := by
  intro pins s σ H D I h
  exact wpAny_Return_some (thn (he pins s σ H _ I h) fun v s1 ⟨x, H1, I1, r1, q1⟩ => ⟨x, σ, H1, I1, r1, q1⟩)
def tIfS (c : TT) (t u : TS) : TS := fun D σ H => c σ H fun b H1 => if b = true then t D σ H1 else u D σ H1
theorem ps_if {c : Expr} {a b : List Stmt} {tc : TT} (hc : PT X c tc) (ha : PSs X a t) (hb : PSs X b u) : PS X (.If c a b pos) (tIfS tc t u) := by
  intro pins s σ H D I h
  refine wpAny_If (thn (hc pins s σ H _ I h) fun d s1 ⟨H1, I1, q1⟩ => ?_)
  cases d with
  | true => exact ha pins s1 σ H1 D I1 q1
  | false => exact hb pins s1 σ H1 D I1 q1
end
abbrev TG := V → St → Hp → (St → Hp → Prop) → Prop
abbrev TGs := List V → St → Hp → (St → Hp → Prop) → Prop
def PG (X : Cx) (target : Expr) (t : TG) : Prop :=
  ∀ (pins : List (Addr × Obj)) (s : Shared) (σ : St) (H : Hp) (v : V) (u : Value) (Q : St → Hp → Prop), Inv X pins σ H s → RelV v u → t v σ H Q →
    wpAny (model X.prog X.w) X.A (assign target X.env u) (fun _ s' => ∃ σ' H', Inv X pins σ' H' s' ∧ Q σ' H') X.xe s
def PGs (X : Cx) (ts : List Expr) (t : TGs) : Prop :=
  ∀ (pins : List (Addr × Obj)) (s : Shared) (σ : St) (H : Hp) (vs : List V) (us : List Value) (Q : St → Hp → Prop), Inv X pins σ H s → Vals vs us → t vs σ H Q →
    wpAny (model X.prog X.w) X.A (assignInOrder ((assignEach ts X.env).map (·.2)) us) (fun _ s' => ∃ σ' H', Inv X pins σ' H' s' ∧ Q σ' H') X.xe s
abbrev TSet := V → V → V → Hp → (Hp → Prop) → Prop
def PSet (X : Cx) (t : TSet) : Prop :=
  ∀ (pins : List (Addr × Obj)) (s : Shared) (σ : St) (H : Hp) (o i v : V) (ov iv u : Value) (Q : Hp → Prop), Inv X pins σ H s → RelV o ov → RelV i iv → RelV v u → t o i v H Q →
    wpAny (model X.prog X.w) X.A (setItem ov iv u) (fun _ s' => ∃ H', Inv X pins σ H' s' ∧ Q H') X.xe s
section
variable {X : Cx} {pos : Pos}
def gName (i : Nat) : TG := fun v σ H Q => Q (σ.set i (some v)) H
theorem pg_name {i : Nat} {x : Str} (hN : X.N.Nodup) (hi : X.N[i]? = some x) (hx : Loc X.env.scope x) (hf : X.fn x = true ∨ X.env.scope.names.lookup x = some .local := by first | exact .inl rfl | exact .inr rfl | assumption) : PG X (.Name x pos) (gName i) := by
  intro pins s σ H v u Q I r h
  exact wpAny_assign_Name (store_ok I hN hi hx r (fun s' I' => ⟨_, H, I', h⟩) hf)
def gNil : TGs := fun vs σ H Q => vs = [] ∧ Q σ H
def gCons (t : TG) (u : TGs) : TGs := fun vs σ H Q => ∃ v r, vs = v :: r ∧ t v σ H fun σ' H' => u r σ' H' Q
theorem pgs_nil : PGs X [] gNil := by
  intro pins s σ H vs us Q I r h
  obtain ⟨e, h⟩ := h
  subst e
  cases r
  exact assignInOrder_nil ⟨σ, H, I, h⟩
theorem pgs_cons {e : Expr} {es : List Expr} {t : TG} {u : TGs} (h1 : PG X e t) (h2 : PGs X es u)
    (hs : (assignEach (e :: es) X.env).map (·.2) = assign e X.env :: (assignEach es X.env).map (·.2) := by rfl) : PGs X (e :: es) (gCons t u) := by
  intro pins s σ H vs us Q I r h
  obtain ⟨v, vr, e1, h⟩ := h
  subst e1
  cases r with
  | cons r rr =>
    rw [hs]
    refine assignInOrder_cons (thn (h1 pins s σ H _ _ _ I r h) fun _ s1 ⟨σ1, H1, I1, q1⟩ => ?_)
    exact h2 pins s1 σ1 H1 _ _ Q I1 rr q1
def gTup (K : PySem.W.Frag) (n : Nat) (t : TGs) : TG := fun v σ H Q => ∃ a xs, v = .ref a ∧ SqT K H a xs ∧ xs.length = n ∧ t xs σ H Q
theorem pg_tup {es : List Expr} {k : Nat} {t : TGs} {n : Nat} (hc : X.calm = true) (h : PGs X es t)
    (hn : (assignEach es X.env).length = n := by rfl) (hst : (assignEach es X.env).findIdx? (·.1) = none := by rfl) : PG X (.Tuple es k pos) (gTup X.K n t) := by
  intro pins s σ H v u Q I r hw
  obtain ⟨a, xs, e1, hq, hl, hw⟩ := hw
  subst e1
  cases r
  obtain ⟨its, rv, ht, hz⟩ := I.tuple hq
  refine assign_Tuple_tuple (I.ok.hd hc) ht (by simp [hn, ← hl, rv.length]) hst fun h' hx => ?_
  have I1 : Inv X pins σ H { s with heap := h' } := I.kept (t' := s.toks) fun b o e => hx b o (Nat.ne_of_lt (Heap.lt_size e)) e
  exact h pins _ σ H xs _ Q I1 (by simpa using rv) hw
def gSub (to ti : TE) (t : TSet) : TG := fun v σ H Q => to σ H fun o H1 => ti σ H1 fun i H2 => t o i v H2 fun H3 => Q σ H3
theorem pg_sub {o i : Expr} {to ti : TE} {t : TSet} (ho : PE X o to) (hi : PE X i ti) (hs : PSet X t)
    (ha : ∀ v, assign (.Subscript o i pos) X.env v = (do
      let ov ← holding [v] (eval o X.env)
      let iv ← holding [v, ov] (eval i X.env)
      standAt pos
      holding [v, ov, iv] (setItem ov iv v)
      release [v, ov, iv] []) := by intro _; rfl) : PG X (.Subscript o i pos) (gSub to ti t) := by
  intro pins s σ H v u Q I r h
  rw [ha]
  refine wpAny_bind (wpAny_holding (thn (ho pins s σ H _ I h) fun ov s1 ⟨x, H1, I1, r1, q1⟩ => ?_))
  refine wpAny_bind (wpAny_holding (thn (hi pins s1 σ H1 _ I1 q1) fun iv s2 ⟨y, H2, I2, r2, q2⟩ => ?_))
  refine wpAny_bind (wpAny_standAt (wpAny_bind (wpAny_holding (thn (hs pins s2 σ H2 x y v ov iv u _ I2 r1 r2 r q2) fun _ s3 ⟨H3, I3, q3⟩ => ?_))))
  exact wpAny_release ⟨σ, H3, I3, q3⟩
def tAsg (te : TE) (g : TG) : TS := fun D σ H => te σ H fun x H1 => g x σ H1 D.nx
theorem ps_asg {tg e : Expr} {te : TE} {g : TG} (he : PE X e te) (hg : PG X tg g) (hs : swapsWithSole [tg] e pos.line X.env = pure false := by rfl) (hw : swappedStores [tg] e X.env = pure none := by rfl)
    (h1 : (assignEach [tg] X.env).map (·.2) = [assign tg X.env] := by rfl) : PS X (.Assign [tg] e pos) (tAsg te g) := by
  intro pins s σ H D I h
  refine wpAny_Assign_stores (thn (he pins s σ H _ I h) fun v s1 ⟨x, H1, I1, r1, q1⟩ => ?_) hs hw
  rw [h1]
  exact thn (hg pins s1 σ H1 x v _ I1 r1 q1) fun _ s2 q => q
theorem ps_set {i : Nat} {x : Str} {e : Expr} {te : TE} {pos' : Pos} (hN : X.N.Nodup) (hi : X.N[i]? = some x) (hx : Loc X.env.scope x) (he : PE X e te) (hs : swapsWith e (some (.Name x pos')) pos.line X.env = pure false := by rfl) (hf : X.fn x = true ∨ X.env.scope.names.lookup x = some .local := by first | exact .inl rfl | exact .inr rfl | assumption) :
    PS X (.Assign [.Name x pos'] e pos) (tAsg te (gName i)) := by
  intro pins s σ H D I h
  refine wpAny_Assign_Name (thn (he pins s σ H _ I h) fun v s1 ⟨y, H1, I1, r1, q1⟩ => ?_) hs
  exact store_ok I1 hN hi hx r1 (fun s2 I2 => ⟨_, H1, I2, q1⟩) hf
end
section
variable {X : Cx} {pos : Pos}
def tWhile (c : TT) (tb : TS) : TS := fun D σ H => ∃ W : Nat → St → Hp → Prop, (∃ m, W m σ H) ∧ ∀ m σ H, W m σ H →
  c σ H fun b H1 => if b = true then ∃ N : St → Hp → Prop, (∀ σ' H', N σ' H' → ∃ m', m' < m ∧ W m' σ' H') ∧ tb { D with nx := N, ct := N, bk := D.nx } σ H1 else D.nx σ H1
theorem ps_while {c : Expr} {body : List Stmt} {tc : TT} {tb : TS} (hp : PassesOwn (model X.prog X.w) X.A X.env X.xe) (hc : PT X c tc) (hb : PSs X body tb) : PS X (.While c body [] pos) (tWhile tc tb) := by
  intro pins s σ H D I h
  obtain ⟨W, ⟨m0, w0⟩, turn⟩ := h
  refine wpAny_While (codeAny_whileLoop (fun n s' => ∃ σ' H', Inv X pins σ' H' s' ∧ W n σ' H') ?_ m0 ⟨σ, H, I, w0⟩)
  rintro n s1 ⟨σ1, H1, I1, w1⟩
  refine wpAny_passesOwn hp (thn (hc pins s1 σ1 H1 _ I1 (turn n σ1 H1 w1)) fun b s2 ⟨H2, I2, q2⟩ => ?_)
  cases b with
  | true =>
    obtain ⟨N, hN, q2⟩ := q2
    rw [if_pos rfl]
    refine wpAny_passesOwn hp (thn (hb pins s2 σ1 H2 _ I2 q2) fun f s3 q3 => ?_)
    cases f with
    | next =>
      obtain ⟨σ3, H3, I3, n3⟩ := q3
      obtain ⟨m', hm, w3⟩ := hN σ3 H3 n3
      exact ⟨m', hm, σ3, H3, I3, w3⟩
    | cont =>
      obtain ⟨σ3, H3, I3, n3⟩ := q3
      obtain ⟨m', hm, w3⟩ := hN σ3 H3 n3
      exact ⟨m', hm, σ3, H3, I3, w3⟩
    | brk => exact q3
    | ret v => exact q3
  | false =>
    rw [if_neg Bool.false_ne_true]
    exact wpAny_execs_nil ⟨σ1, H2, I2, q2⟩
end
structure It where
  go : Nat → Hp → Prop
  yld : Nat → Hp → V → Hp → Prop
  stop : Nat → Hp → Prop
def FpOk (X : Cx) (pins : List (Addr × Obj)) (H : Hp) (b : Addr) : Prop :=
  H b = none ∧ b ≠ X.env.locals ∧ b ∉ X.fs ∧ (b ∈ X.ex ∨ X.s₀.heap.objs.size ≤ b) ∧ (∀ x c, X.env.cells.lookup x = some c → c ≠ b) ∧ ∀ p ∈ X.pn ++ pins, p.1 ≠ b
theorem Inv.fpOk {X : Cx} {pins : List (Addr × Obj)} {σ : St} {H H' : Hp} {s : Shared} {b : Addr} (I : Inv X pins σ H s) (hb : s.heap.objs.size ≤ b) (hn : H' b = none) : FpOk X pins H' b := by
  refine ⟨hn, Nat.ne_of_gt (Nat.lt_of_lt_of_le I.lt hb), I.nofs hb, .inr (Nat.le_trans I.sz hb), fun x c e z => ?_, fun p hp z => ?_⟩
  · obtain ⟨v, q⟩ := I.cell x c e
    exact absurd (Nat.lt_of_lt_of_le q.lt (by rw [z]; exact hb)) (Nat.lt_irrefl _)
  · exact absurd (Nat.lt_of_lt_of_le (Heap.lt_size (I.pin p hp).1) (by rw [z]; exact hb)) (Nat.lt_irrefl _)
structure Turn (P : Program) (w : World) (K : PySem.W.Frag) (tg : Expr) (J : It) (fp : List Addr) (it : Addr) (tn : Nat → Heap → Prop) : Prop where
  mem : it ∈ fp
  obj : ∀ i h, tn i h → ∀ b ∈ fp, ∃ o, h.get? b = some o ∧ ∀ v, o.data ≠ .cell v
  keep : ∀ i h h', tn i h → (∀ b ∈ fp, ∀ o, h.get? b = some o → h'.get? b = some o) → tn i h'
  item : ∀ (X : Cx), X.prog = P → X.w = w → X.K = K → X.calm = true → ∀ (i : Nat) (pins : List (Addr × Obj)) (s : Shared) (σ : St) (H : Hp) (E : Value → Shared → Prop), Inv X pins σ H s → (∀ b ∈ fp, FpOk X pins H b) → tn i s.heap → J.go i H →
    wpAny (model P w) X.A (pyNext (.ref it)) (fun r s1 => ∃ u, r = some u ∧
      wpAny (model P w) X.A (letOwnedTupleGo tg (.ref it) u) (fun _ s2 => ∃ x H', Inv X pins σ H' s2 ∧ RelV x u ∧ J.yld i H x H' ∧ tn (i + 1) s2.heap ∧ ∀ b ∈ fp, H' b = none) E s1) E s
  done : ∀ (X : Cx), X.prog = P → X.w = w → X.K = K → X.calm = true → ∀ (i : Nat) (pins : List (Addr × Obj)) (s : Shared) (σ : St) (H : Hp) (E : Value → Shared → Prop), Inv X pins σ H s → (∀ b ∈ fp, FpOk X pins H b) → tn i s.heap → J.stop i H →
    wpAny (model P w) X.A (pyNext (.ref it)) (fun r s1 => r = none ∧ Inv X pins σ H s1) E s
  self : ∀ (A : Around) (i : Nat) (s : Shared) (Q : Value → Shared → Prop) (E : Value → Shared → Prop), tn i s.heap → Q (.ref it) s → wpAny (model P w) A (pyIter (.ref it)) Q E s
abbrev TI := St → Hp → (It → Hp → Prop) → Prop
def PIE (X : Cx) (pins : List (Addr × Obj)) (σ : St) (tg : Expr) (R : It → Hp → Prop) (itv : Value) (s2 : Shared) : Prop :=
  ∃ (it : Addr) (fp : List Addr) (tn : Nat → Heap → Prop) (J : It) (H' : Hp), itv = .ref it ∧ Inv X pins σ H' s2 ∧ Turn X.prog X.w X.K tg J fp it tn ∧ tn 0 s2.heap ∧ (∀ b ∈ fp, FpOk X pins H' b) ∧ R J H'
def PI (X : Cx) (tg iter : Expr) (wi : TI) : Prop :=
  ∀ (pins : List (Addr × Obj)) (s : Shared) (σ : St) (H : Hp) (R : It → Hp → Prop), Inv X pins σ H s → wi σ H R →
    wpAny (model X.prog X.w) X.A (eval iter X.env) (fun v s1 => wpAny (model X.prog X.w) X.A (pyIter v) (PIE X pins σ tg R) X.xe s1) X.xe s
theorem go_of {M : Model} {A : Around} {E : Value → Shared → Prop} {s : Shared} {tg : Expr} {it : Addr} {u : Value} {o : Obj} {n : String} {vs : Array Value} {Q : Unit → Shared → Prop} (ho : s.heap.get? it = some o) (hc : o.cls = .type n) (hd : o.data = .fields vs)
    (hn : ["enumerate", "zip", "dict_itemiterator", "dict_reverseitemiterator", "odict_iterator", "itertools.zip_longest", "itertools.pairwise"].contains n = false) (hQ : Q () s) : wpAny M A (letOwnedTupleGo tg (.ref it) u) Q E s := by
  unfold letOwnedTupleGo
  cases tg <;> first
    | exact wpAny_pure hQ
    | (cases u <;> first
        | exact wpAny_pure hQ
        | (refine wpAny_bind (wpAny_load ho ?_)
           rw [hc, hd]
           show wpAny M A (if (["enumerate", "zip", "dict_itemiterator", "dict_reverseitemiterator", "odict_iterator", "itertools.zip_longest", "itertools.pairwise"].contains n && vs[0]? == some (rawInt _)) = true then _ else _) Q E s
           rw [if_neg (by intro h; rw [hn, Bool.false_and] at h; cases h)]
           exact wpAny_pure hQ))
def Itl (K : PySem.W.Frag) (a : Addr) : It :=
  ⟨fun i H => ∃ xs x, SqL K H a xs ∧ xs[i]? = some x, fun i H x H' => H' = H ∧ ∀ xs, SqL K H a xs → xs[i]? = some x, fun i H => ∃ xs, SqL K H a xs ∧ xs.length ≤ i⟩
def Itt (K : PySem.W.Frag) (a : Addr) : It :=
  ⟨fun i H => ∃ xs x, SqT K H a xs ∧ xs[i]? = some x, fun i H x H' => H' = H ∧ ∀ xs, SqT K H a xs → xs[i]? = some x, fun i H => ∃ xs, SqT K H a xs ∧ xs.length ≤ i⟩
def Itr (lo : Int) (n : Nat) : It := ⟨fun i _ => i < n, fun i H x H' => H' = H ∧ x = .int (lo + i), fun i _ => n ≤ i⟩
theorem turn_list {P : Program} {w : World} {K : PySem.W.Frag} {tg : Expr} (a it : Addr) : Turn P w K tg (Itl K a) [it] it (fun i h => h.IsListIter it a i) where
  mem := by simp
  obj := fun i h st b hb => by
    have e : b = it := by simpa using hb
    subst e
    obtain ⟨o, e, c, d⟩ := st
    exact ⟨o, e, fun v z => by rw [d] at z; cases z⟩
  keep := fun i h h' st k => st.at fun o e => k it (by simp) o e
  item := by
    intro X hP hw hK hc i pins s σ H E I hf st hg
    subst hP hw hK
    obtain ⟨xs, x, hq, hx⟩ := hg
    obtain ⟨its, rv, p, hz⟩ := I.list hq
    obtain ⟨u, hu, ru⟩ := rv.get hx
    obtain ⟨f0, f1, f2, f3, f4, f5⟩ := hf it (by simp)
    refine wpAny_pyNext_list_item st p.isList (x := u) (by simpa using hu) fun h' st' sb => ?_
    have I1 : Inv X pins σ H { s with heap := h' } := I.turned (t' := s.toks) (fun b o hb e => (sb.2 b hb).trans e) f0 f1 f3 f4 f5
    obtain ⟨o, e, c, d⟩ := id st'
    exact ⟨u, rfl, go_of (s := { s with heap := h' }) e c d (by decide) ⟨x, H, I1, ru, ⟨rfl, fun ys hy => by rw [I.list_inj hy hq]; exact hx⟩, st', fun b hb => (hf b hb).1⟩⟩
  done := by
    intro X hP hw hK hc i pins s σ H E I hf st hg
    subst hP hw hK
    obtain ⟨xs, hq, hx⟩ := hg
    obtain ⟨its, rv, p, hz⟩ := I.list hq
    obtain ⟨f0, f1, f2, f3, f4, f5⟩ := hf it (by simp)
    have hl := rv.length
    exact wpAny_pyNext_list_end (I.ok.hd hc) st p.isList (by simp; lia) fun h' eb => ⟨rfl, I.turned (t' := s.toks) (fun b o hb e => eb b o hb e) f0 f1 f3 f4 f5⟩
  self := fun _ _ _ _ _ st h => wpAny_pyIter_listiter st h
theorem turn_tuple {P : Program} {w : World} {K : PySem.W.Frag} {tg : Expr} (a it : Addr) : Turn P w K tg (Itt K a) [it] it (fun i h => h.IsTupleIter it a i) where
  mem := by simp
  obj := fun i h st b hb => by
    have e : b = it := by simpa using hb
    subst e
    obtain ⟨o, e, c, d⟩ := st
    exact ⟨o, e, fun v z => by rw [d] at z; cases z⟩
  keep := fun i h h' st k => st.at fun o e => k it (by simp) o e
  item := by
    intro X hP hw hK hc i pins s σ H E I hf st hg
    subst hP hw hK
    obtain ⟨xs, x, hq, hx⟩ := hg
    obtain ⟨its, rv, p, hz⟩ := I.tuple hq
    obtain ⟨u, hu, ru⟩ := rv.get hx
    obtain ⟨f0, f1, f2, f3, f4, f5⟩ := hf it (by simp)
    refine wpAny_pyNext_tuple_item st (show s.heap.IsTuple a its.toArray from p) (x := u) (by simpa using hu) fun h' st' sb => ?_
    have I1 : Inv X pins σ H { s with heap := h' } := I.turned (t' := s.toks) (fun b o hb e => (sb.2 b hb).trans e) f0 f1 f3 f4 f5
    obtain ⟨o, e, c, d⟩ := id st'
    exact ⟨u, rfl, go_of (s := { s with heap := h' }) e c d (by decide) ⟨x, H, I1, ru, ⟨rfl, fun ys hy => by rw [I.tuple_inj hy hq]; exact hx⟩, st', fun b hb => (hf b hb).1⟩⟩
  done := by
    intro X hP hw hK hc i pins s σ H E I hf st hg
    subst hP hw hK
    obtain ⟨xs, hq, hx⟩ := hg
    obtain ⟨its, rv, p, hz⟩ := I.tuple hq
    obtain ⟨f0, f1, f2, f3, f4, f5⟩ := hf it (by simp)
    have hl := rv.length
    exact wpAny_pyNext_tuple_end (I.ok.hd hc) st (show s.heap.IsTuple a its.toArray from p) (by simp; lia) fun h' eb => ⟨rfl, I.turned (t' := s.toks) (fun b o hb e => eb b o hb e) f0 f1 f3 f4 f5⟩
  self := fun _ _ _ _ _ st h => wpAny_pyIter_tupleiter st h
theorem turn_range {P : Program} {w : World} {K : PySem.W.Frag} {tg : Expr} (it : Addr) (lo : Int) (n : Nat) : Turn P w K tg (Itr lo n) [it] it (fun i h => IsRangeIter h it (lo + (i : Nat) * 1) ((n : Int) - (i : Nat)) 1) where
  mem := by simp
  obj := fun i h st b hb => by
    have e : b = it := by simpa using hb
    subst e
    exact ⟨_, st, fun v z => by
      have z' : Data.fields _ = Data.cell v := z
      cases z'⟩
  keep := fun i h h' st k => k it (by simp) _ st
  item := by
    intro X hP hw hK hc i pins s σ H E I hf st hg
    subst hP hw hK
    obtain ⟨f0, f1, f2, f3, f4, f5⟩ := hf it (by simp)
    have W := Walks.range (prog := X.prog) (w := X.w) (I.ok.hd hc) it lo 1 n
    refine W.item i s _ _ hg st fun v h' tk hv st' kk => ?_
    obtain ⟨t, rfl⟩ := hv
    have I1 : Inv X pins σ H { s with heap := h', toks := tk } := I.turned (fun b o hb e => kk b o (by simpa using hb) e) f0 f1 f3 f4 f5
    refine ⟨_, rfl, go_of (s := { s with heap := h', toks := tk }) (n := "range_iterator") st' rfl rfl (by decide) ⟨.int (lo + i), H, I1, ⟨t, ?_⟩, ⟨rfl, rfl⟩, st', fun b hb => (hf b hb).1⟩⟩
    rw [Int.mul_one]
  done := by
    intro X hP hw hK hc i pins s σ H E I hf st hg
    subst hP hw hK
    obtain ⟨f0, f1, f2, f3, f4, f5⟩ := hf it (by simp)
    exact wpAny_pyNext_range_end (I.ok.hd hc) st (by have : n ≤ i := hg; lia) fun h' eb => ⟨rfl, I.turned (t' := s.toks) (fun b o hb e => eb b o hb e) f0 f1 f3 f4 f5⟩
  self := fun _ _ _ _ _ st h => wpAny_pyIter_rangeiter st h
end L2
namespace L2
open PySem PySem.Spec PyProof.Rows
section
variable {X : Cx} {tg : Expr}
def iList (K : PySem.W.Frag) (tl : TE) : TI := fun σ H R => tl σ H fun x H1 => ∃ a, x = .ref a ∧ (∃ xs, SqL K H1 a xs) ∧ R (Itl K a) H1
def iTup (K : PySem.W.Frag) (tl : TE) : TI := fun σ H R => tl σ H fun x H1 => ∃ a, x = .ref a ∧ (∃ xs, SqT K H1 a xs) ∧ R (Itt K a) H1
theorem pi_list {l : Expr} {tl : TE} (hl : PE X l tl) : PI X tg l (iList X.K tl) := by
  intro pins s σ H R I h
  refine thn (hl pins s σ H _ I h) fun v s1 ⟨x, H1, I1, r1, q1⟩ => ?_
  obtain ⟨a, e, ⟨xs, hq⟩, q⟩ := q1
  subst e
  cases r1
  obtain ⟨its, rv, p, hz⟩ := I1.list hq
  refine wpAny_pyIter_list p.isList ?_
  refine ⟨s1.heap.objs.size, [s1.heap.objs.size], _, _, H1, rfl, I1.kept (t' := s1.toks) fun b o e => Heap.get?_push_of_some _ e, turn_list a _, ⟨_, Heap.get?_push_size _ rfl, rfl, rfl⟩, fun b hb => ?_, q⟩
  have e : b = s1.heap.objs.size := by simpa using hb
  subst e
  exact I1.fpOk (Nat.le_refl _) (I1.hok.fresh (Nat.le_refl _))
theorem pi_tup {l : Expr} {tl : TE} (hl : PE X l tl) : PI X tg l (iTup X.K tl) := by
  intro pins s σ H R I h
  refine thn (hl pins s σ H _ I h) fun v s1 ⟨x, H1, I1, r1, q1⟩ => ?_
  obtain ⟨a, e, ⟨xs, hq⟩, q⟩ := q1
  subst e
  cases r1
  obtain ⟨its, rv, p, hz⟩ := I1.tuple hq
  refine wpAny_pyIter_tuple (show s1.heap.IsTuple a its.toArray from p) ?_
  refine ⟨s1.heap.objs.size, [s1.heap.objs.size], _, _, H1, rfl, I1.kept (t' := s1.toks) fun b o e => Heap.get?_push_of_some _ e, turn_tuple a _, ⟨_, Heap.get?_push_size _ rfl, rfl, rfl⟩, fun b hb => ?_, q⟩
  have e : b = s1.heap.objs.size := by simpa using hb
  subst e
  exact I1.fpOk (Nat.le_refl _) (I1.hok.fresh (Nat.le_refl _))
theorem range_it {pins : List (Addr × Obj)} {σ : St} {H : Hp} {s : Shared} {R : It → Hp → Prop} {E : Value → Shared → Prop} {lo hi : Int} {t u v : Tok} {tk : Nat} (I : Inv X pins σ H s) (h1 : -(2 ^ 62) ≤ lo) (h2 : lo < 2 ^ 62) (h3 : -(2 ^ 62) ≤ hi) (h4 : hi < 2 ^ 62)
    (q : R (Itr lo (hi - lo).toNat) H) : wpAny (model X.prog X.w) X.A (pyIter (.ref s.heap.objs.size)) (PIE X pins σ tg R) E { s with heap := s.heap.push { cls := .type "range", data := .fields #[.int lo t, .int hi u, .int 1 v] }, toks := tk } := by
  refine wpAny_pyIter_range (IsRange.new ..) (small_one h1 h2 h3 h4) ?_
  have I1 : Inv X pins σ H { s with heap := s.heap.push { cls := .type "range", data := .fields #[.int lo t, .int hi u, .int 1 v] }, toks := tk } := I.kept fun b o e => Heap.get?_push_of_some _ e
  refine ⟨(s.heap.push { cls := .type "range", data := .fields #[.int lo t, .int hi u, .int 1 v] }).objs.size, [(s.heap.push { cls := .type "range", data := .fields #[.int lo t, .int hi u, .int 1 v] }).objs.size], _, _, H, rfl,
    I1.kept (t' := tk) fun b o e => Heap.get?_push_of_some _ e, turn_range _ lo (hi - lo).toNat, ?_, fun b hb => ?_, q⟩
  · have e1 : lo + ((0 : Nat) : Int) * 1 = lo := by simp
    have e2 : (((hi - lo).toNat : Nat) : Int) - ((0 : Nat) : Int) = Builtin.Range.rangeSize lo hi 1 := by rw [rangeSize_one]; split <;> lia
    show IsRangeIter _ _ (lo + ((0 : Nat) : Int) * 1) ((((hi - lo).toNat : Nat) : Int) - ((0 : Nat) : Int)) 1
    rw [e1, e2]
    exact Heap.get?_push_size _ rfl
  · have e : b = (s.heap.push { cls := .type "range", data := .fields #[.int lo t, .int hi u, .int 1 v] }).objs.size := by simpa using hb
    subst e
    exact I1.fpOk (Nat.le_refl _) (I1.hok.fresh (Nat.le_refl _))
def iRng1 (ta : TA) : TI := fun σ H R => ta σ H fun vs H1 => ∃ j : Int, vs = [.int j] ∧ -(2 ^ 62) ≤ j ∧ j < 2 ^ 62 ∧ R (Itr 0 j.toNat) H1
theorem pi_range1 {a : Expr} {ta : TA} {p pos : Pos} (hg : Gl X "range") (hm : X.mg "range" = none) (ha : PA X [a] ta) (hs : starEach [a] X.env = [(false, eval a X.env)] := by rfl) : PI X tg (.Call (.Name "range" p) [a] [] pos) (iRng1 ta) := by
  intro pins s σ H R I h
  refine Call_ (ld_blt I hg hm boot_range (PyProof.Rows.callWith_type1 (thn (ha pos pins s σ H _ I h) fun us s1 ⟨vs, H1, I1, r1, q1⟩ => ?_) hs rfl))
  obtain ⟨j, e, q1, q2, q⟩ := q1
  subst e
  cases r1 with
  | cons r rr =>
    cases rr
    obtain ⟨t, rfl⟩ := r
    exact call_range_1 (range_it I1 (by lia) (by lia) q1 q2 (by simpa using q))
def tFor (wi : TI) (g : TG) (tb : TS) : TS := fun D σ H => wi σ H fun J H1 => ∃ W : Nat → Nat → St → Hp → Prop, (∃ m, W 0 m σ H1) ∧ ∀ i m σ H, W i m σ H →
  (J.stop i H ∧ D.nx σ H) ∨ (J.go i H ∧ ∃ N : St → Hp → Prop, (∀ σ' H', N σ' H' → ∃ m', m' < m ∧ W (i + 1) m' σ' H') ∧ ∀ x H', J.yld i H x H' → g x σ H' fun σ2 H2 => tb { D with nx := N, ct := N, bk := D.nx } σ2 H2)
def pinsAt (fp : List Addr) (h : Heap) : List (Addr × Obj) := fp.filterMap fun b => (h.get? b).map fun o => (b, o)
theorem mem_pinsAt {fp : List Addr} {h : Heap} {b : Addr} {o : Obj} (hb : b ∈ fp) (e : h.get? b = some o) : (b, o) ∈ pinsAt fp h := List.mem_filterMap.mpr ⟨b, hb, by rw [e]; rfl⟩
theorem of_pinsAt {fp : List Addr} {h : Heap} {p : Addr × Obj} (hp : p ∈ pinsAt fp h) : p.1 ∈ fp ∧ h.get? p.1 = some p.2 := by
  obtain ⟨b, hb, e⟩ := List.mem_filterMap.mp hp
  cases q : h.get? b with
  | none => rw [q] at e; cases e
  | some o =>
    rw [q] at e
    have e' : (b, o) = p := Option.some.inj e
    subst e'
    exact ⟨hb, q⟩
theorem Inv.pinned {pins : List (Addr × Obj)} {σ : St} {H : Hp} {s : Shared} {fp : List Addr} (I : Inv X pins σ H s) (hf : ∀ b ∈ fp, FpOk X pins H b) (ho : ∀ b ∈ fp, ∃ o, s.heap.get? b = some o ∧ ∀ v, o.data ≠ .cell v) : Inv X (pins ++ pinsAt fp s.heap) σ H s :=
  I.pins_of fun p hp => (List.mem_append.mp hp).elim (fun z => I.pin p (List.mem_append_right _ z)) fun z => by
    obtain ⟨hb, e⟩ := of_pinsAt z
    obtain ⟨f0, f1, f2, _⟩ := hf p.1 hb
    obtain ⟨o, e', d⟩ := ho p.1 hb
    rw [e] at e'; cases e'
    exact ⟨e, f0, f1, f2, d⟩
theorem Inv.unpinned {pins pl : List (Addr × Obj)} {σ : St} {H : Hp} {s : Shared} (I : Inv X (pins ++ pl) σ H s) : Inv X pins σ H s := I.pins_of fun p hp => I.pin p (List.mem_append_right _ (List.mem_append_left _ hp))
theorem ps_for {iter : Expr} {body : List Stmt} {wi : TI} {g : TG} {tb : TS} {pos : Pos} (hp : PassesOwn (model X.prog X.w) X.A X.env X.xe) (hc : X.calm = true) (hi : PI X tg iter wi) (hg : PG X tg g) (hb : PSs X body tb)
    (hs : ∀ x, foldedSetIterable iter X.env x = pure x := by intro _; rfl) : PS X (.For tg iter body [] pos) (tFor wi g tb) := by
  intro pins s σ H D I h
  refine wpAny_For (thn (hi pins s σ H _ I h) fun v s1 h1 => thn h1 fun itv s2 h2 => ?_) hs
  obtain ⟨it, fp, tn, J, H2, e, I2, T, st2, f2, W, ⟨m0, w0⟩, turn⟩ := h2
  subst e
  have stat : ∀ {H' : Hp}, (∀ b ∈ fp, H' b = none) → ∀ b ∈ fp, FpOk X pins H' b := fun hn b hb => ⟨hn b hb, (f2 b hb).2⟩
  refine codeAny_forLoop_any (fun n s' => ∃ i σ' H', Inv X pins σ' H' s' ∧ tn i s'.heap ∧ (∀ b ∈ fp, H' b = none) ∧ W i n σ' H') ?_ m0 ⟨0, σ, H2, I2, st2, fun b hb => (f2 b hb).1, w0⟩
  rintro n s3 ⟨i, σ3, H3, I3, st3, fr3, w3⟩
  rcases turn i n σ3 H3 w3 with ⟨stop, qn⟩ | ⟨go, N, hN, step⟩
  · refine wpAny_passesOwn hp (thn (T.done X rfl rfl rfl hc i pins s3 σ3 H3 X.xe I3 (stat fr3) st3 stop) fun r s4 ⟨hr, I4⟩ => ?_)
    subst hr
    exact wpAny_execs_nil ⟨σ3, H3, I4, qn⟩
  · refine wpAny_passesOwn hp (thn (T.item X rfl rfl rfl hc i pins s3 σ3 H3 X.xe I3 (stat fr3) st3 go) fun r s4 ⟨u, hr, h4⟩ => ?_)
    subst hr
    refine wpAny_passesOwn hp (thn h4 fun _ s5 ⟨x, H5, I5, r5, y5, st5, fr5⟩ => ?_)
    have I5' := I5.pinned (stat fr5) (T.obj _ _ st5)
    refine wpAny_passesOwn hp (thn (hg _ s5 σ3 H5 x u _ I5' r5 (step x H5 y5)) fun _ s6 ⟨σ6, H6, I6, q6⟩ => ?_)
    refine wpAny_passesOwn hp (thn (hb _ s6 σ6 H6 _ I6 q6) fun f s7 q7 => ?_)
    have again : ∀ {σ7 : St} {H7 : Hp}, Inv X (pins ++ pinsAt fp s5.heap) σ7 H7 s7 → N σ7 H7 → ∃ m, m < n ∧ ∃ i σ' H', Inv X pins σ' H' s7 ∧ tn i s7.heap ∧ (∀ b ∈ fp, H' b = none) ∧ W i m σ' H' := fun {σ7 H7} I7 n7 => by
      obtain ⟨m', hm, w7⟩ := hN σ7 H7 n7
      refine ⟨m', hm, i + 1, σ7, H7, I7.unpinned, T.keep _ _ _ st5 fun b hb o e => (I7.pin (b, o) (List.mem_append_right _ (List.mem_append_right _ (mem_pinsAt hb e)))).1, fun b hb => ?_, w7⟩
      obtain ⟨o, e, d⟩ := T.obj _ _ st5 b hb
      exact (I7.pin (b, o) (List.mem_append_right _ (List.mem_append_right _ (mem_pinsAt hb e)))).2.1
    cases f with
    | next => obtain ⟨σ7, H7, I7, n7⟩ := q7; exact again I7 n7
    | cont => obtain ⟨σ7, H7, I7, n7⟩ := q7; exact again I7 n7
    | brk => obtain ⟨σ7, H7, I7, q7⟩ := q7; exact ⟨σ7, H7, I7.unpinned, q7⟩
    | ret v => obtain ⟨x7, σ7, H7, I7, r7, q7⟩ := q7; exact ⟨x7, σ7, H7, I7.unpinned, r7, q7⟩
end
theorem for_list {K : PySem.W.Frag} {a : Addr} {xs : List V} {g : TG} {tb : TS} {D : Ends} {σ : St} {H : Hp} (Pv : Nat → St → Hp → Prop) (h0 : Pv 0 σ H) (hl : ∀ i σ H, i ≤ xs.length → Pv i σ H → SqL K H a xs)
    (hs : ∀ i x σ H, xs[i]? = some x → Pv i σ H → g x σ H fun σ2 H2 => tb { D with nx := Pv (i + 1), ct := Pv (i + 1), bk := D.nx } σ2 H2) (hd : ∀ σ H, Pv xs.length σ H → D.nx σ H) :
    ∃ W : Nat → Nat → St → Hp → Prop, (∃ m, W 0 m σ H) ∧ ∀ i m σ H, W i m σ H →
      ((Itl K a).stop i H ∧ D.nx σ H) ∨ ((Itl K a).go i H ∧ ∃ N : St → Hp → Prop, (∀ σ' H', N σ' H' → ∃ m', m' < m ∧ W (i + 1) m' σ' H') ∧ ∀ x H', (Itl K a).yld i H x H' → g x σ H' fun σ2 H2 => tb { D with nx := N, ct := N, bk := D.nx } σ2 H2) := by
  refine ⟨fun i m σ H => m = xs.length - i ∧ i ≤ xs.length ∧ Pv i σ H, ⟨xs.length, by simp, Nat.zero_le _, h0⟩, ?_⟩
  rintro i m σ H ⟨rfl, hi, p⟩
  have q := hl i σ H hi p
  by_cases hlt : i < xs.length
  · refine .inr ⟨⟨xs, xs[i], q, by simp [hlt]⟩, Pv (i + 1), fun σ' H' p' => ⟨xs.length - (i + 1), by lia, rfl, hlt, p'⟩, fun x H' y => ?_⟩
    obtain ⟨e, y⟩ := y
    subst e
    exact hs i x σ _ (y xs q) p
  · have e : i = xs.length := by lia
    subst e
    exact .inl ⟨⟨xs, q, Nat.le_refl _⟩, hd σ H p⟩
theorem for_tup {K : PySem.W.Frag} {a : Addr} {xs : List V} {g : TG} {tb : TS} {D : Ends} {σ : St} {H : Hp} (Pv : Nat → St → Hp → Prop) (h0 : Pv 0 σ H) (hl : ∀ i σ H, i ≤ xs.length → Pv i σ H → SqT K H a xs)
    (hs : ∀ i x σ H, xs[i]? = some x → Pv i σ H → g x σ H fun σ2 H2 => tb { D with nx := Pv (i + 1), ct := Pv (i + 1), bk := D.nx } σ2 H2) (hd : ∀ σ H, Pv xs.length σ H → D.nx σ H) :
    ∃ W : Nat → Nat → St → Hp → Prop, (∃ m, W 0 m σ H) ∧ ∀ i m σ H, W i m σ H →
      ((Itt K a).stop i H ∧ D.nx σ H) ∨ ((Itt K a).go i H ∧ ∃ N : St → Hp → Prop, (∀ σ' H', N σ' H' → ∃ m', m' < m ∧ W (i + 1) m' σ' H') ∧ ∀ x H', (Itt K a).yld i H x H' → g x σ H' fun σ2 H2 => tb { D with nx := N, ct := N, bk := D.nx } σ2 H2) := by
  refine ⟨fun i m σ H => m = xs.length - i ∧ i ≤ xs.length ∧ Pv i σ H, ⟨xs.length, by simp, Nat.zero_le _, h0⟩, ?_⟩
  rintro i m σ H ⟨rfl, hi, p⟩
  have q := hl i σ H hi p
  by_cases hlt : i < xs.length
  · refine .inr ⟨⟨xs, xs[i], q, by simp [hlt]⟩, Pv (i + 1), fun σ' H' p' => ⟨xs.length - (i + 1), by lia, rfl, hlt, p'⟩, fun x H' y => ?_⟩
    obtain ⟨e, y⟩ := y
    subst e
    exact hs i x σ _ (y xs q) p
  · have e : i = xs.length := by lia
    subst e
    exact .inl ⟨⟨xs, q, Nat.le_refl _⟩, hd σ H p⟩
theorem for_range {lo : Int} {n : Nat} {g : TG} {tb : TS} {D : Ends} {σ : St} {H : Hp} (Pv : Nat → St → Hp → Prop) (h0 : Pv 0 σ H)
    (hs : ∀ i σ H, i < n → Pv i σ H → g (.int (lo + i)) σ H fun σ2 H2 => tb { D with nx := Pv (i + 1), ct := Pv (i + 1), bk := D.nx } σ2 H2) (hd : ∀ σ H, Pv n σ H → D.nx σ H) :
    ∃ W : Nat → Nat → St → Hp → Prop, (∃ m, W 0 m σ H) ∧ ∀ i m σ H, W i m σ H →
      ((Itr lo n).stop i H ∧ D.nx σ H) ∨ ((Itr lo n).go i H ∧ ∃ N : St → Hp → Prop, (∀ σ' H', N σ' H' → ∃ m', m' < m ∧ W (i + 1) m' σ' H') ∧ ∀ x H', (Itr lo n).yld i H x H' → g x σ H' fun σ2 H2 => tb { D with nx := N, ct := N, bk := D.nx } σ2 H2) := by
  refine ⟨fun i m σ H => m = n - i ∧ i ≤ n ∧ Pv i σ H, ⟨n, by simp, Nat.zero_le _, h0⟩, ?_⟩
  rintro i m σ H ⟨rfl, hi, p⟩
  by_cases hlt : i < n
  · refine .inr ⟨hlt, Pv (i + 1), fun σ' H' p' => ⟨n - (i + 1), by lia, rfl, hlt, p'⟩, fun x H' y => ?_⟩
    obtain ⟨e, y⟩ := y
    subst e y
    exact hs i σ _ hlt p
  · have e : i = n := by lia
    subst e
    exact .inl ⟨Nat.le_refl _, hd σ H p⟩
end L2
namespace L2
open PySem PySem.Spec PyProof.Rows
abbrev R2 := V → V → Hp → VK → Prop
def OpR (X : Cx) (f : Value → Value → Sem Value) (r : R2) : Prop :=
  ∀ (pins : List (Addr × Obj)) (s : Shared) (σ : St) (H : Hp) (x y : V) (v u : Value) (Q : VK), Inv X pins σ H s → RelV x v → RelV y u → r x y H Q →
    wpAny (model X.prog X.w) X.A (f v u) (EP X pins σ Q) X.xe s
def UnR (X : Cx) (f : Value → Sem Value) (r : V → Hp → VK → Prop) : Prop :=
  ∀ (pins : List (Addr × Obj)) (s : Shared) (σ : St) (H : Hp) (x : V) (v : Value) (Q : VK), Inv X pins σ H s → RelV x v → r x H Q →
    wpAny (model X.prog X.w) X.A (f v) (EP X pins σ Q) X.xe s
def CallR (X : Cx) (f : Value) (r : List V → Hp → VK → Prop) : Prop :=
  ∀ (pins : List (Addr × Obj)) (s : Shared) (σ : St) (H : Hp) (xs : List V) (us : List Value) (Q : VK), Inv X pins σ H s → Vals xs us → r xs H Q →
    wpAny (model X.prog X.w) X.A (call f us) (EP X pins σ Q) X.xe s
def tOp (r : R2) (ta tb : TE) : TE := fun σ H Q => ta σ H fun x H1 => tb σ H1 fun y H2 => r x y H2 Q
def tUn (r : V → Hp → VK → Prop) (ta : TE) : TE := fun σ H Q => ta σ H fun x H1 => r x H1 Q
def rI (C : Int → Int → Prop) (g : Int → Int → V) : R2 := fun x y H Q => ∃ i j, x = .int i ∧ y = .int j ∧ C i j ∧ Q (g i j) H
def rI0 (g : Int → Int → V) : R2 := fun x y H Q => ∃ i j, x = .int i ∧ y = .int j ∧ Q (g i j) H
def rU (g : Int → V) : V → Hp → VK → Prop := fun x H Q => ∃ i, x = .int i ∧ Q (g i) H
section
variable {X : Cx} {a b c : Expr} {ta tb tc : TE} {pos : Pos}
theorem binT (ha : PE X a ta) (hb : PE X b tb) {pins : List (Addr × Obj)} {s : Shared} {σ : St} {H : Hp} {R : V → V → Hp → Prop} (I : Inv X pins σ H s)
    (h : ta σ H fun x H1 => tb σ H1 fun y H2 => R x y H2) {Q : Value → Shared → Prop} {f : Value → Value → Sem Value}
    (hf : ∀ v u s2 x y H2, Inv X pins σ H2 s2 → RelV x v → RelV y u → R x y H2 → wpAny (model X.prog X.w) X.A (f v u) Q X.xe s2) :
    wpAny (model X.prog X.w) X.A (eval a X.env) (fun v s₁ => wpAny (model X.prog X.w) X.A (eval b X.env) (fun u s₂ => wpAny (model X.prog X.w) X.A (f v u) Q X.xe s₂) X.xe s₁) X.xe s := by
  refine thn (ha pins s σ H _ I h) fun v s1 ⟨x, H1, I1, r1, q1⟩ => ?_
  refine thn (hb pins s1 σ H1 _ I1 q1) fun u s2 ⟨y, H2, I2, r2, q2⟩ => ?_
  exact hf v u s2 x y H2 I2 r1 r2 q2
theorem pe_op {op : Operator} {r : R2} (ho : OpR X (binaryOp op) r) (ha : PE X a ta) (hb : PE X b tb) : PE X (.BinOp a op b pos) (tOp r ta tb) := by
  intro pins s σ H Q I h
  exact wpAny_BinOp (binT ha hb I h fun v u s2 x y H2 I2 rx ry q => ho pins s2 σ H2 x y v u Q I2 rx ry q)
theorem pe_un {op : UnaryOp} {r : V → Hp → VK → Prop} (ho : UnR X (unaryOp op) r) (ha : PE X a ta) : PE X (.UnaryOp op a pos) (tUn r ta) := by
  intro pins s σ H Q I h
  exact UnaryOp_ (thn (ha pins s σ H _ I h) fun v s1 ⟨x, H1, I1, r1, q1⟩ => ho pins s1 σ H1 x v Q I1 r1 q1)
theorem opI {f : Value → Value → Sem Value} {C : Int → Int → Prop} {g : Int → Int → Int}
    (rule : ∀ (i j : Int) (t u : Tok) (s : Shared) (Q : Value → Shared → Prop) (E : Value → Shared → Prop), C i j → Q (.int (g i j) s.toks) { s with toks := s.toks + 1 } → wpAny (model X.prog X.w) X.A (f (.int i t) (.int j u)) Q E s) :
    OpR X f (rI C fun i j => .int (g i j)) := by
  intro pins s σ H x y v u Q I rx ry h
  obtain ⟨i, j, rfl, rfl, hc, q⟩ := h
  obtain ⟨t, rfl⟩ := rx
  obtain ⟨t', rfl⟩ := ry
  exact rule i j t t' s _ _ hc ⟨.int (g i j), H, I.tok _, ⟨_, rfl⟩, q⟩
theorem opI0 {f : Value → Value → Sem Value} {g : Int → Int → Int}
    (rule : ∀ (i j : Int) (t u : Tok) (s : Shared) (Q : Value → Shared → Prop) (E : Value → Shared → Prop), Q (.int (g i j) s.toks) { s with toks := s.toks + 1 } → wpAny (model X.prog X.w) X.A (f (.int i t) (.int j u)) Q E s) :
    OpR X f (rI0 fun i j => .int (g i j)) := by
  intro pins s σ H x y v u Q I rx ry h
  obtain ⟨i, j, rfl, rfl, q⟩ := h
  obtain ⟨t, rfl⟩ := rx
  obtain ⟨t', rfl⟩ := ry
  exact rule i j t t' s _ _ ⟨.int (g i j), H, I.tok _, ⟨_, rfl⟩, q⟩
theorem opB0 {f : Value → Value → Sem Value} {g : Int → Int → Bool}
    (rule : ∀ (i j : Int) (t u : Tok) (s : Shared) (Q : Value → Shared → Prop) (E : Value → Shared → Prop), Q (.bool (g i j)) s → wpAny (model X.prog X.w) X.A (f (.int i t) (.int j u)) Q E s) :
    OpR X f (rI0 fun i j => .bl (g i j)) := by
  intro pins s σ H x y v u Q I rx ry h
  obtain ⟨i, j, rfl, rfl, q⟩ := h
  obtain ⟨t, rfl⟩ := rx
  obtain ⟨t', rfl⟩ := ry
  exact rule i j t t' s _ _ ⟨.bl (g i j), H, I, rfl, q⟩
def CDiv (i j : Int) : Prop := 0 < j ∧ j < 1073741824
def CPow (i j : Int) : Prop := 0 ≤ j ∧ j ≤ 1000000 ∧ i.natAbs < 2 ^ 64
def CMul (i j : Int) : Prop := (-(2 ^ 64) < i ∧ i < 2 ^ 64) ∨ (-(2 ^ 64) < j ∧ j < 2 ^ 64)
theorem CMul.ok {i j : Int} (h : CMul i j) : IntMulOk i j := by
  rcases h with ⟨h1, h2⟩ | ⟨h1, h2⟩
  · exact .of_left (intBits_le_64 h1 h2)
  · exact .of_right (intBits_le_64 h1 h2)
theorem op_add : OpR X (binaryOp .Add) (rI0 fun i j => .int (i + j)) := opI0 fun _ _ _ _ _ _ _ q => add_int q
theorem op_sub : OpR X (binaryOp .Sub) (rI0 fun i j => .int (i - j)) := opI0 fun _ _ _ _ _ _ _ q => sub_int q
theorem op_mul : OpR X (binaryOp .Mult) (rI CMul fun i j => .int (i * j)) := opI fun _ _ _ _ _ _ _ hc q => mul_int q hc.ok
theorem op_fdiv : OpR X (binaryOp .FloorDiv) (rI CDiv fun i j => .int (i / j)) := opI fun i j _ _ _ _ _ hc q => by
  have h1 : (0 : Int) < j := hc.1
  have h2 : j < 1073741824 := hc.2
  exact floordiv_int (by lia) (by rw [Int.fdiv_eq_ediv_of_nonneg i (by lia)]; exact q) (.inl (PyProof.noPylong_small (by lia)))
theorem op_mod : OpR X (binaryOp .Mod) (rI (fun _ j => 0 < j) fun i j => .int (i % j)) := opI fun i j _ _ _ _ _ hc q => by
  have h1 : (0 : Int) < j := hc
  exact mod_int' (by lia) (by rw [Int.fmod_eq_emod_of_nonneg i (by lia)]; exact q)
theorem op_pow : OpR X (binaryOp .Pow) (rI CPow fun i j => .int (i ^ j.toNat)) := opI fun _ _ _ _ _ _ _ hc q => pow_int_small hc.1 hc.2.1 hc.2.2 q
theorem unI {f : Value → Sem Value} {g : Int → Int}
    (rule : ∀ (i : Int) (t : Tok) (s : Shared) (Q : Value → Shared → Prop) (E : Value → Shared → Prop), Q (.int (g i) s.toks) { s with toks := s.toks + 1 } → wpAny (model X.prog X.w) X.A (f (.int i t)) Q E s) :
    UnR X f (rU fun i => .int (g i)) := by
  intro pins s σ H x v Q I rx h
  obtain ⟨i, rfl, q⟩ := h
  obtain ⟨t, rfl⟩ := rx
  exact rule i t s _ _ ⟨.int (g i), H, I.tok _, ⟨_, rfl⟩, q⟩
theorem un_neg : UnR X (unaryOp .USub) (rU fun i => .int (-i)) := unI fun _ _ _ _ _ q => neg_int q
end
def scal : V → V → Bool
  | .non, .non => true | .non, .int _ => true | .int _, .non => true | .non, .bl _ => true | .bl _, .non => true | .non, .str _ => true | .str _, .non => true
  | .int _, .int _ => true | .bl _, .bl _ => true | .str _, .str _ => true | .byt _, .byt _ => true
  | .int _, .str _ => true | .str _, .int _ => true | .bl _, .str _ => true | .str _, .bl _ => true
  | _, _ => false
def rEq : R2 := fun x y H Q => scal x y = true ∧ Q (.bl (decide (x = y))) H
def rNe : R2 := fun x y H Q => scal x y = true ∧ Q (.bl (!decide (x = y))) H
theorem dec_int {i j : Int} : decide (V.int i = V.int j) = (i == j) := by
  rw [Bool.eq_iff_iff]
  simp
theorem dec_bl {i j : Bool} : decide (V.bl i = V.bl j) = (i == j) := by
  rw [Bool.eq_iff_iff]
  simp
theorem dec_str {i j : Str} : decide (V.str i = V.str j) = (i == j) := by
  rw [Bool.eq_iff_iff]
  simp
theorem dec_byt {i j : Array UInt8} : decide (V.byt i = V.byt j) = (i.toList == j.toList) := by
  rw [Bool.eq_iff_iff]
  cases i
  cases j
  simp
section
variable {X : Cx} {a b c : Expr} {ta tb tc : TE} {pos : Pos}
theorem fin_bl {pins : List (Addr × Obj)} {σ : St} {H : Hp} {s : Shared} {Q : VK} {k k' : Bool} (I : Inv X pins σ H s) (q : Q (.bl k) H) (e : k = k') : EP X pins σ Q (.bool k') s := by
  subst e
  exact ⟨.bl k, H, I, rfl, q⟩
theorem op_eq : OpR X (compareOp .Eq) rEq := by
  intro pins s σ H x y v u Q I rx ry h
  obtain ⟨hs, q⟩ := h
  cases x with
  | non =>
    cases rx
    cases y with
    | non => cases ry; exact PySem.EqNone.eq_none_none (fin_bl I q (by simp))
    | bl j => cases ry; exact PySem.EqNone.eq_none_bool (fin_bl I q (by simp))
    | int j => obtain ⟨t', rfl⟩ := ry; exact PySem.EqNone.eq_none_int (fin_bl I q (by simp))
    | str j => obtain ⟨t', rfl⟩ := ry; exact PySem.EqNone.eq_none_str (fin_bl I q (by simp))
    | _ => exact absurd (show false = true from hs) Bool.false_ne_true
  | bl i =>
    cases rx
    cases y with
    | non => cases ry; exact PySem.EqNone.eq_bool_none (fin_bl I q (by simp))
    | bl j => cases ry; exact eq_bool (fin_bl I q dec_bl)
    | str j => obtain ⟨t', rfl⟩ := ry; exact PySem.EqMixed.eq_bool_str (fin_bl I q (by simp))
    | _ => exact absurd (show false = true from hs) Bool.false_ne_true
  | int i =>
    obtain ⟨t, rfl⟩ := rx
    cases y with
    | non => cases ry; exact PySem.EqNone.eq_int_none (fin_bl I q (by simp))
    | int j => obtain ⟨t', rfl⟩ := ry; exact eq_int (fin_bl I q dec_int)
    | str j => obtain ⟨t', rfl⟩ := ry; exact PySem.EqMixed.eq_int_str (fin_bl I q (by simp))
    | _ => exact absurd (show false = true from hs) Bool.false_ne_true
  | str i =>
    obtain ⟨t, rfl⟩ := rx
    cases y with
    | non => cases ry; exact PySem.EqNone.eq_str_none (fin_bl I q (by simp))
    | bl j => cases ry; exact PySem.EqMixed.eq_str_bool (fin_bl I q (by simp))
    | int j => obtain ⟨t', rfl⟩ := ry; exact PySem.EqMixed.eq_str_int (fin_bl I q (by simp))
    | str j => obtain ⟨t', rfl⟩ := ry; exact eq_str (fin_bl I q dec_str)
    | _ => exact absurd (show false = true from hs) Bool.false_ne_true
  | byt i =>
    obtain ⟨t, rfl⟩ := rx
    cases y with
    | byt j => obtain ⟨t', rfl⟩ := ry; exact PySem.W.eq_bytes (fin_bl I q dec_byt)
    | _ => exact absurd (show false = true from hs) Bool.false_ne_true
  | _ => cases y <;> exact absurd (show false = true from hs) Bool.false_ne_true
theorem op_ne : OpR X (compareOp .NotEq) rNe := by
  intro pins s σ H x y v u Q I rx ry h
  obtain ⟨hs, q⟩ := h
  cases x with
  | non =>
    cases rx
    cases y with
    | non => cases ry; exact PySem.EqNone.ne_none_none (fin_bl I q (by simp))
    | bl j => cases ry; exact PySem.EqNone.ne_none_bool (fin_bl I q (by simp))
    | int j => obtain ⟨t', rfl⟩ := ry; exact PySem.EqNone.ne_none_int (fin_bl I q (by simp))
    | str j => obtain ⟨t', rfl⟩ := ry; exact PySem.EqNone.ne_none_str (fin_bl I q (by simp))
    | _ => exact absurd (show false = true from hs) Bool.false_ne_true
  | bl i =>
    cases rx
    cases y with
    | non => cases ry; exact PySem.EqNone.ne_bool_none (fin_bl I q (by simp))
    | bl j => cases ry; exact ne_bool (fin_bl I q (congrArg not dec_bl))
    | str j => obtain ⟨t', rfl⟩ := ry; exact PySem.EqMixed.ne_bool_str (fin_bl I q (by simp))
    | _ => exact absurd (show false = true from hs) Bool.false_ne_true
  | int i =>
    obtain ⟨t, rfl⟩ := rx
    cases y with
    | non => cases ry; exact PySem.EqNone.ne_int_none (fin_bl I q (by simp))
    | int j => obtain ⟨t', rfl⟩ := ry; exact ne_int (fin_bl I q (congrArg not dec_int))
    | str j => obtain ⟨t', rfl⟩ := ry; exact PySem.EqMixed.ne_int_str (fin_bl I q (by simp))
    | _ => exact absurd (show false = true from hs) Bool.false_ne_true
  | str i =>
    obtain ⟨t, rfl⟩ := rx
    cases y with
    | non => cases ry; exact PySem.EqNone.ne_str_none (fin_bl I q (by simp))
    | bl j => cases ry; exact PySem.EqMixed.ne_str_bool (fin_bl I q (by simp))
    | int j => obtain ⟨t', rfl⟩ := ry; exact PySem.EqMixed.ne_str_int (fin_bl I q (by simp))
    | str j => obtain ⟨t', rfl⟩ := ry; exact ne_str (fin_bl I q (congrArg not dec_str))
    | _ => exact absurd (show false = true from hs) Bool.false_ne_true
  | byt i =>
    obtain ⟨t, rfl⟩ := rx
    cases y with
    | byt j => obtain ⟨t', rfl⟩ := ry; exact PySem.W.ne_bytes (fin_bl I q (congrArg not dec_byt))
    | _ => exact absurd (show false = true from hs) Bool.false_ne_true
  | _ => cases y <;> exact absurd (show false = true from hs) Bool.false_ne_true
theorem op_lt : OpR X (compareOp .Lt) (rI0 fun i j => .bl (decide (i < j))) := opB0 fun _ _ _ _ _ _ _ q => lt_int q
theorem op_gt : OpR X (compareOp .Gt) (rI0 fun i j => .bl (decide (j < i))) := opB0 fun _ _ _ _ _ _ _ q => gt_int q
theorem op_isN : OpR X (compareOp .Is) (fun x y H Q => y = .non ∧ Q (.bl (decide (x = .non))) H) := by
  intro pins s σ H x y v u Q I rx ry h
  obtain ⟨rfl, q⟩ := h
  cases ry
  refine is_none_gen (fin_bl I q ?_)
  cases x <;> first
    | (cases rx; rfl)
    | (obtain ⟨t, rfl⟩ := rx; rfl)
theorem OpR.or {f : Value → Value → Sem Value} {r r' : R2} (h : OpR X f r) (h' : OpR X f r') : OpR X f (fun x y H Q => r x y H Q ∨ r' x y H Q) := by
  intro pins s σ H x y v u Q I rx ry q
  rcases q with q | q
  · exact h pins s σ H x y v u Q I rx ry q
  · exact h' pins s σ H x y v u Q I rx ry q
theorem pe_cmpR {op : CmpOp} {r : R2} (ho : OpR X (compareOp op) r) (ha : PE X a ta) (hb : PE X b tb) (hm : behindInMarks op b = false) : PE X (.Compare a [op] [b] pos) (tOp r ta tb) := by
  intro pins s σ H Q I h
  exact wpAny_Compare1 (binT ha hb I h fun v u s2 x y H2 I2 rx ry q => ho pins s2 σ H2 x y v u Q I2 rx ry q) hm
def tTest (t : TE) : TT := fun σ H Q => t σ H fun x H' => ∃ k, x = .bl k ∧ Q k H'
theorem pt_cmpR {op : CmpOp} {r : R2} (ho : OpR X (compareOp op) r) (ha : PE X a ta) (hb : PE X b tb) (hm : behindInMarks op b = false) : PT X (.Compare a [op] [b] pos) (tTest (tOp r ta tb)) := by
  intro pins s σ H Q I h
  refine wpAny_isTrue_Compare1 (thn (ha pins s σ H _ I h) fun v s1 ⟨x, H1, I1, r1, q1⟩ => thn (hb pins s1 σ H1 _ I1 q1) fun u s2 ⟨y, H2, I2, r2, q2⟩ =>
    thn (ho pins s2 σ H2 x y v u _ I2 r1 r2 q2) fun c s3 ⟨z, H3, I3, r3, k, e, q3⟩ => ?_) hm
  subst e
  cases r3
  exact wpAny_truthy_bool ⟨H3, I3, q3⟩
theorem line63 : (sizeLine : Nat) < 2 ^ 63 := by rw [sizeLine_eq]; decide
theorem op_add_str : OpR X (binaryOp .Add) (fun x y H Q => ∃ i j, x = .str i ∧ y = .str j ∧ i.length + j.length ≤ sizeLine ∧ Q (.str (i ++ j)) H) := by
  intro pins s σ H x y v u Q I rx ry h
  obtain ⟨i, j, rfl, rfl, hz, q⟩ := h
  obtain ⟨t, rfl⟩ := rx
  obtain ⟨t', rfl⟩ := ry
  exact add_str (fun t' tk => ⟨.str (i ++ j), H, I.tok _, ⟨_, rfl⟩, q⟩) hz
theorem vals1 {x : V} {us : List Value} (r : Vals [x] us) : ∃ u, us = [u] ∧ RelV x u := by
  cases r with
  | cons r1 r2 => cases r2; exact ⟨_, rfl, r1⟩
theorem vals2 {x y : V} {us : List Value} (r : Vals [x, y] us) : ∃ u w', us = [u, w'] ∧ RelV x u ∧ RelV y w' := by
  cases r with
  | cons r1 r2 =>
    cases r2 with
    | cons r3 r4 => cases r4; exact ⟨_, _, rfl, r1, r3⟩
theorem call_max2 (hc : X.calm = true) : CallR X (.builtin "max") (fun xs H Q => ∃ i j, xs = [.int i, .int j] ∧ Q (.int (if j > i then j else i)) H) := by
  intro pins s σ H xs us Q I r h
  obtain ⟨i, j, rfl, q⟩ := h
  obtain ⟨u, w', rfl, ⟨t, rfl⟩, ⟨t', rfl⟩⟩ := vals2 r
  refine max_two_ints (I.ok.hd hc) fun h' tk k => ⟨_, H, I.kept k, ?_, q⟩
  by_cases hj : j > i
  · rw [if_pos hj, if_pos hj]; exact ⟨_, rfl⟩
  · rw [if_neg hj, if_neg hj]; exact ⟨_, rfl⟩
theorem call_min2 (hc : X.calm = true) : CallR X (.builtin "min") (fun xs H Q => ∃ i j, xs = [.int i, .int j] ∧ Q (.int (if j < i then j else i)) H) := by
  intro pins s σ H xs us Q I r h
  obtain ⟨i, j, rfl, q⟩ := h
  obtain ⟨u, w', rfl, ⟨t, rfl⟩, ⟨t', rfl⟩⟩ := vals2 r
  refine min_two_ints (I.ok.hd hc) fun h' tk k => ⟨_, H, I.kept k, ?_, q⟩
  by_cases hj : j < i
  · rw [if_pos hj, if_pos hj]; exact ⟨_, rfl⟩
  · rw [if_neg hj, if_neg hj]; exact ⟨_, rfl⟩
theorem call_int1 : CallR X (.type "int") (fun xs H Q => (∃ i, xs = [.int i] ∧ Q (.int i) H) ∨ ∃ k, xs = [.bl k] ∧ Q (.int (if k then 1 else 0)) H) := by
  intro pins s σ H xs us Q I r h
  rcases h with ⟨i, rfl, q⟩ | ⟨k, rfl, q⟩
  · obtain ⟨u, rfl, t, rfl⟩ := vals1 r
    exact call_int_int ⟨.int i, H, I, ⟨_, rfl⟩, q⟩
  · obtain ⟨u, rfl, r1⟩ := vals1 r
    cases r1
    exact call_int_bool ⟨.int (if k then 1 else 0), H, I.tok _, ⟨_, rfl⟩, q⟩
def LenV (K : PySem.W.Frag) (x : V) (H : Hp) (n : Nat) : Prop :=
  match x with
  | .str y => y.length ≤ sizeLine ∧ n = y.length
  | .byt y => y.size ≤ sizeLine ∧ n = y.size
  | .ref p => (∃ xs, SqL K H p xs ∧ n = xs.length) ∨ ∃ xs, SqT K H p xs ∧ n = xs.length
  | _ => False
theorem call_len : CallR X (.builtin "len") (fun xs H Q => ∃ x n, xs = [x] ∧ LenV X.K x H n ∧ Q (.int n) H) := by
  intro pins s σ H xs us Q I r h
  obtain ⟨x, n, rfl, e, q⟩ := h
  obtain ⟨u, rfl, rx⟩ := vals1 r
  have hl := line63
  have hs : sizeLine = 16777216 := sizeLine_eq
  cases x with
  | str y =>
    obtain ⟨t, rfl⟩ := rx
    obtain ⟨hy, e'⟩ : y.length ≤ sizeLine ∧ n = y.length := e
    subst e'
    exact len_str (by lia) ⟨.int _, H, I.tok _, ⟨_, rfl⟩, q⟩
  | byt y =>
    obtain ⟨t, rfl⟩ := rx
    obtain ⟨hy, e'⟩ : y.size ≤ sizeLine ∧ n = y.size := e
    subst e'
    exact PySem.W.len_bytes (by lia) ⟨.int _, H, I.tok _, ⟨_, rfl⟩, q⟩
  | ref p =>
    cases rx
    have e' : (∃ xs, SqL X.K H p xs ∧ n = xs.length) ∨ ∃ xs, SqT X.K H p xs ∧ n = xs.length := e
    rcases e' with ⟨xs, hx, e'⟩ | ⟨xs, hx, e'⟩
    · subst e'
      obtain ⟨its, r', pl, hz⟩ := I.list hx
      have hlen := r'.length
      exact Calls.call_len_list pl.isList (by simp only [List.size_toArray]; lia) ⟨.int xs.length, H, I.tok _, ⟨_, by simp only [List.size_toArray]; rw [hlen]⟩, q⟩
    · subst e'
      obtain ⟨its, r', pl, hz⟩ := I.tuple hx
      have hlen := r'.length
      exact len_tuple pl (by simp only [List.size_toArray]; lia) ⟨.int xs.length, H, I.tok _, ⟨_, by simp only [List.size_toArray]; rw [hlen]⟩, q⟩
  | _ => exact (show False from e).elim
end
end L2
namespace L2
open PySem PySem.Spec PyProof.Rows
section
variable {prog : Program} {w : World} {A : Around} {E : Value → Shared → Prop} {s : Shared} {K : PySem.W.Frag} {x dx C f : Addr} {mA : Str → Option Value} {name : Str} {v : Value}
end
theorem RelO.some_of {v : V} {o : Option Value} (r : RelO (some v) o) : ∃ u, o = some u ∧ RelV v u := by
  cases o with
  | none => exact (show False from r).elim
  | some u => exact ⟨u, rfl, r⟩
section
variable {P : Program} {w : World} {H H' : Hp} {h h' : Heap} {a C dx : Addr} {fs fs' : List (Str × V)}
end
section
variable {X : Cx} {pins : List (Addr × Obj)} {σ : St} {H : Hp} {s : Shared} {a C dx : Addr} {fs : List (Str × V)} {f : Str} {v : V} {A : Around} {E : Value → Shared → Prop}
end
section
variable {X : Cx} {o e value : Expr} {f : Str} {pos pos' tpos : Pos} {ta tv : TE}
end
section
variable {X : Cx} {pins : List (Addr × Obj)} {σ : St} {H : Hp} {s : Shared} {A : Around} {E : Value → Shared → Prop} {Q : Value → Shared → Prop} {c : Value} {b : Bool}
end
end L2
namespace L2
open PySem PySem.Spec PyProof.Rows
structure Room (k : Nat) (A : Around) : Prop where
  hd : A.handled = none
  dp : A.depth + 3 * k + 5 < recursionLimit
  un : A.units + 16 * k + 200 < cLine
theorem Room.mono {j k : Nat} {A : Around} (r : Room k A) (h : j ≤ k) : Room j A := ⟨r.hd, by have := r.dp; lia, by have := r.un; lia⟩
theorem Room.deeper {k : Nat} {A : Around} (r : Room (k + 1) A) (env : Env) : Room k (A.deeper env) :=
  ⟨r.hd, by have := r.dp; show A.depth + 1 + 3 * k + 5 < _; lia, by have := r.un; show A.units + 3 + 16 * k + 200 < _; lia⟩
theorem Room.depth {k : Nat} {A : Around} (r : Room k A) : A.depth < recursionLimit := by have := r.dp; lia
theorem Room.units {k : Nat} {A : Around} (r : Room k A) : A.units + 64 < cLine := by have := r.un; lia
theorem Room.units0 {k : Nat} {A : Around} (r : Room k A) : A.units < cLine := by have := r.un; lia
def tNil : TA := fun _ H Q => Q [] H
def tCons (ta : TE) (tr : TA) : TA := fun σ H Q => ta σ H fun x H1 => tr σ H1 fun xs H2 => Q (x :: xs) H2
section
variable {X : Cx} {e : Expr} {es : List Expr} {te : TE} {t : TA} {pos : Pos}
theorem pa_nil : PA X [] tNil := fun _ _ _ _ H Q I h => Calls.spliced_nil ⟨[], H, I, .nil, h⟩
theorem pa_cons (ha : PE X e te) (hr : PA X es t) (hs : starEach (e :: es) X.env = (false, eval e X.env) :: starEach es X.env := by rfl) : PA X (e :: es) (tCons te t) := by
  intro pos pins s σ H Q I h
  rw [hs]
  show wpAny _ _ (spliced ((false, eval e X.env) :: backTo pos (starEach es X.env))) _ _ s
  refine Calls.spliced_cons (thn (ha pins s σ H _ I h) fun u s1 ⟨x, H1, I1, r1, q1⟩ => ?_)
  exact thn (hr pos pins s1 σ H1 _ I1 q1) fun us s2 ⟨xs, H2, I2, r2, q2⟩ => ⟨x :: xs, H2, I2, .cons r1 r2, q2⟩
def tTup (t : TA) : TE := fun σ H Q => t σ H fun xs H1 => xs.length ≤ sizeLine ∧ ∀ p, H1 p = none → Q (.ref p) (upd H1 p (.tup xs))
def tLst (t : TA) : TE := fun σ H Q => t σ H fun xs H1 => xs.length ≤ sizeLine ∧ ∀ p, H1 p = none → Q (.ref p) (upd H1 p (.lst xs))
theorem pe_tup {x1} (h : PA X es t) : PE X (.Tuple es x1 pos) (tTup t) := by
  intro pins s σ H Q I hq
  refine wpAny_Tuple_spliced (thn (h pos pins s σ H _ I hq) fun us s1 ⟨xs, H1, I1, r, z, q⟩ => ⟨by rw [← r.length]; exact z, ?_⟩)
  have hf : H1 s1.heap.objs.size = none := I1.hok.fresh (Nat.le_refl _)
  refine ⟨.ref s1.heap.objs.size, upd H1 s1.heap.objs.size (.tup xs), I1.laid (t' := s1.toks) (fun b u e => Heap.get?_push_of_some _ e) (Nat.le_refl _) ?_, rfl, q _ hf⟩
  exact ⟨z, us, r, ⟨_, Heap.get?_push_size _ rfl, ⟨rfl, rfl⟩, _, rfl⟩⟩
theorem pe_lst (h : PA X es t) : PE X (.List es pos) (tLst t) := by
  intro pins s σ H Q I hq
  refine wpAny_List_spliced (thn (h pos pins s σ H _ I hq) fun us s1 ⟨xs, H1, I1, r, z, q⟩ => ⟨by rw [← r.length]; exact z, ?_⟩)
  have hf : H1 s1.heap.objs.size = none := I1.hok.fresh (Nat.le_refl _)
  refine ⟨.ref s1.heap.objs.size, upd H1 s1.heap.objs.size (.lst xs), I1.laid (t' := s1.toks) (fun b u e => Heap.get?_push_of_some _ e) (Nat.le_refl _) ?_, rfl, q _ hf⟩
  exact ⟨z, us, 0, r, Heap.get?_push_size _ rfl⟩
end
abbrev Sp := List V → Hp → VK → XK → Prop
abbrev CXT := List Env → Hp → Shared → XK → Value → Shared → Prop
structure Env0 (P : Program) (w : World) (K : PySem.W.Frag) (mg : Str → Option Value) (base : Heap) (A : Around) (outer : List Env) (s : Shared) (H : Hp) : Prop where
  frames : A.frames = some outer
  mod : Mod K mg base
  bs : ∀ b o, base.get? b = some o → s.heap.get? b = some o ∧ H b = none
  bsz : base.objs.size ≤ s.heap.objs.size
  funs : s.heap.FunFrames base outer
  frf : ∀ b ∈ frs outer, H b = none
  hok : HOk P w H s.heap
  bare : AllBare s.gens
def CE (outer : List Env) (P : Program) (w : World) (H : Hp) (s : Shared) (Q : VK) (u : Value) (s' : Shared) : Prop :=
  ∃ v H', s'.os = s.os ∧ AllBare s'.gens ∧ Un (frs outer) [] H H' s.heap s'.heap ∧ HOk P w H' s'.heap ∧ RelV v u ∧ Q v H'
def CR (CX : CXT) (outer : List Env) (P : Program) (w : World) (H : Hp) (s : Shared) (Q : VK) (E : XK) (r : Result) (s' : Shared) : Prop :=
  match r with
  | .ok (.ret u) => CE outer P w H s Q u s'
  | .ok _ => False
  | .error e => CX outer H s E e s'
structure FnOk (P : Program) (w : World) (K : PySem.W.Frag) (mg : Str → Option Value) (base : Heap) (CX : CXT) (k : Nat) (f : Addr) (fd : FuncData) (ps : List Str) (sp : Sp) : Prop where
  len : ∀ vs H Q E, sp vs H Q E → vs.length = ps.length
  run : ∀ (A : Around) (outer : List Env) (s : Shared) (H : Hp) (args : Args) (us : List Value) (vs : List V) (Q : VK) (E : XK), Room k A → Env0 P w K mg base A outer s H → BindsTo s fd args (ps.zip us) → Vals vs us → sp vs H Q E →
    codeAny (model P w) A (.call (.ref f) args) (CR CX outer P w H s Q E) s
section
variable {X : Cx} {pins : List (Addr × Obj)} {σ : St} {H : Hp} {s s' : Shared}
theorem Inv.env0 (I : Inv X pins σ H s) : Env0 X.prog X.w X.K X.mg X.base X.A X.stack s H :=
  ⟨I.ok.frames, I.ok.mod, I.bs, Nat.le_trans I.ok.bsz I.sz, I.stack, I.stkFree, I.hok, I.bare⟩
theorem Inv.after {Q : VK} {u : Value} (I : Inv X pins σ H s) (h : CE X.stack X.prog X.w H s Q u s') : EP X pins σ Q u s' := by
  obtain ⟨v, H', os, bare, un, hok, r, q⟩ := h
  obtain ⟨hh, g, d, t, os'⟩ := s'
  obtain rfl : os' = s.os := os
  exact ⟨v, H', I.call (h' := hh) (g' := g) (d' := d) (t' := t) (ch := []) un hok bare (fun b z => absurd z (by simp)), r, q⟩
end
def tCall (sp : Sp) (dvs : List V) (E : XK) (t : TA) : TE := fun σ H Q => t σ H fun vs H1 => sp (vs ++ dvs) H1 Q E
def Binds (K : PySem.W.Frag) (fd : FuncData) (ps : List Str) (ds : List Value) : Prop :=
  ∀ (s : Shared) (us : List Value), K.In s.heap → (us ++ ds).length = ps.length → BindsTo s fd ⟨us, []⟩ (ps.zip (us ++ ds))
theorem Binds.all {K : PySem.W.Frag} {fd : FuncData} {ps : List Str} (h : ∀ us : List Value, us.length = ps.length → bindArgs fd ⟨us, []⟩ = pure (ps.zip us)) : Binds K fd ps [] := fun s us _ hl => by
  rw [List.append_nil] at hl ⊢
  exact .of_eq (h us hl)
def Passes (CX : CXT) (X : Cx) (E : XK) : Prop := ∀ (pins : List (Addr × Obj)) (σ : St) (H : Hp) (s : Shared) (e : Value) (s' : Shared), Inv X pins σ H s → CX X.stack H s E e s' → X.xe e s'
section
variable {X : Cx} {CX : CXT} {k : Nat} {f C : Addr} {fd : FuncData} {ps : List Str} {sp : Sp} {dvs : List V} {ds : List Value} {E : XK} {x m : Str} {p pos apos : Pos} {e o : Expr} {es : List Expr} {ta : TE} {t : TA}
theorem run_fn {pins : List (Addr × Obj)} {σ : St} {H : Hp} {s : Shared} {Q : VK} {us : List Value} {vs : List V} (F : FnOk X.prog X.w X.K X.mg X.base CX k f fd ps sp) (hr : Room k X.A) (hb : Binds X.K fd ps ds) (hd : Vals dvs ds) (hx : Passes CX X E)
    (I : Inv X pins σ H s) (r : Vals vs us) (h : sp (vs ++ dvs) H Q E) : wpAny (model X.prog X.w) X.A (call (.ref f) us) (EP X pins σ Q) X.xe s := by
  have r2 : Vals (vs ++ dvs) (us ++ ds) := r.append hd
  have hl : (us ++ ds).length = ps.length := by rw [← r2.length]; exact F.len _ _ _ _ h
  refine wpAny_call (codeAny_mono (F.run X.A X.stack s H ⟨us, []⟩ (us ++ ds) (vs ++ dvs) Q E hr I.env0 (hb s us I.kIn hl) r2 h) fun r s' hq => ?_)
  cases r with
  | error e => exact hx pins σ H s e s' I hq
  | ok fl =>
    cases fl with
    | ret u => exact I.after hq
    | next => exact False.elim hq
    | brk => exact False.elim hq
    | cont => exact False.elim hq
theorem pe_call (F : FnOk X.prog X.w X.K X.mg X.base CX k f fd ps sp) (hr : Room k X.A) (hg : Gl X x) (hm : X.mg x = some (.ref f)) (hk : PySem.W.keepIn X.K (.ref f) = true) (hb : Binds X.K fd ps ds) (hd : Vals dvs ds) (hx : Passes CX X E)
    (ha : PA X (e :: es) t) (hdb : (x == ("__debug__" : Str)) = false := by decide) (he : starEach (e :: es) X.env = (false, eval e X.env) :: starEach es X.env := by rfl) (hpl : (backTo pos (starEach es X.env)).any (·.1) = false := by rfl) :
    PE X (.Call (.Name x p) (e :: es) [] pos) (tCall sp dvs E t) := by
  intro pins s σ H Q I h
  refine wpAny_Call_Name_kw (ld_glob I hg hm ?_ hdb)
  refine PySem.W.callWith_K (h₀ := X.base) I.ok.mod.kin hk (thn (ha pos pins s σ H _ I h) fun us s1 ⟨vs, H1, I1, r, q⟩ => ⟨I1.kIn, ?_⟩) he hpl
  exact run_fn F hr hb hd hx I1 r q
end
section
variable {X : Cx} {CX : CXT} {k : Nat} {f C : Addr} {fd : FuncData} {ps ks : List Str} {sp : Sp} {E : XK} {x m : Str} {p pos apos kpos : Pos} {e o : Expr} {es : List Expr} {kws : List Keyword} {te ta : TE} {t tk : TA} {nm : Option Str}
variable {g : List Value → List Value → List Value} {gV : List V → List V → List V}
end
structure FnScope (N P : List Str) (sc : Scope) : Prop where
  kind : sc.kind = .function
  co : sc.isCoroutine = false
  gen : sc.isGenerator = false
  nd : N.Nodup
  pre : N.take P.length = P
  par : ∀ x ∈ P, sc.names.lookup x = some .local ∨ sc.names.lookup x = some .cell
  nofree : ∀ y ∈ sc.names, y.2 ≠ .free
theorem bindL_out {kindOf : Str → Option NameKind} {x : Str} : ∀ {binds : List (Str × Value)} {m : Str → Option Value}, (∀ v, (x, v) ∉ binds) → bindL kindOf binds m x = m x
  | [], _, _ => rfl
  | (n, v) :: r, m, h => by
    unfold bindL
    rw [bindL_out fun w hw => h w (List.mem_cons_of_mem _ hw)]
    split
    · have : x ≠ n := by rintro rfl; exact h v List.mem_cons_self
      simp [this]
    · rfl
theorem bindC_out {kindOf : Str → Option NameKind} {x : Str} : ∀ {binds : List (Str × Value)} {m : Str → Option Value}, (∀ v, (x, v) ∉ binds) → bindC kindOf binds m x = m x
  | [], _, _ => rfl
  | (n, v) :: r, m, h => by
    unfold bindC
    rw [bindC_out fun w hw => h w (List.mem_cons_of_mem _ hw)]
    split
    · rfl
    · have : x ≠ n := by rintro rfl; exact h v List.mem_cons_self
      simp [this]
theorem bindL_get {kindOf : Str → Option NameKind} {x : Str} {v : Value} : ∀ {P : List Str} {vs : List Value} {i : Nat} {m : Str → Option Value}, P.Nodup → P[i]? = some x → vs[i]? = some v → kindOf x = some .local →
    bindL kindOf (P.zip vs) m x = some v
  | [], _, _, _, _, h, _, _ => by simp at h
  | _ :: _, [], _, _, _, _, h, _ => by simp at h
  | p :: P, w :: vs, 0, m, nd, h1, h2, hk => by
    simp at h1 h2; subst h1; subst h2
    show bindL kindOf ((p, w) :: P.zip vs) m p = _
    unfold bindL
    rw [bindL_out fun v hv => (List.nodup_cons.mp nd).1 (List.of_mem_zip hv).1, if_pos hk]
    simp
  | p :: P, w :: vs, i + 1, m, nd, h1, h2, hk => by
    show bindL kindOf ((p, w) :: P.zip vs) m x = _
    unfold bindL
    exact bindL_get (i := i) (List.nodup_cons.mp nd).2 (by simpa using h1) (by simpa using h2) hk
theorem bindC_get {kindOf : Str → Option NameKind} {x : Str} {v : Value} : ∀ {P : List Str} {vs : List Value} {i : Nat} {m : Str → Option Value}, P.Nodup → P[i]? = some x → vs[i]? = some v → kindOf x ≠ some .local →
    bindC kindOf (P.zip vs) m x = some v
  | [], _, _, _, _, h, _, _ => by simp at h
  | _ :: _, [], _, _, _, _, h, _ => by simp at h
  | p :: P, w :: vs, 0, m, nd, h1, h2, hk => by
    simp at h1 h2; subst h1; subst h2
    show bindC kindOf ((p, w) :: P.zip vs) m p = _
    unfold bindC
    rw [bindC_out fun v hv => (List.nodup_cons.mp nd).1 (List.of_mem_zip hv).1, if_neg hk]
    simp
  | p :: P, w :: vs, i + 1, m, nd, h1, h2, hk => by
    show bindC kindOf ((p, w) :: P.zip vs) m x = _
    unfold bindC
    exact bindC_get (i := i) (List.nodup_cons.mp nd).2 (by simpa using h1) (by simpa using h2) hk
def start (N : List Str) (vs : List V) : St := vs.map some ++ List.replicate (N.length - vs.length) none
def cxOf (CX : CXT) (P : Program) (w : World) (K : PySem.W.Frag) (mg : Str → Option Value) (base : Heap) (N : List Str) (qual : Str) (scope : Scope) (f : Addr) (cd : Value) (A : Around) (outer : List Env) (s : Shared) (H : Hp) (E : XK) : Cx where
  prog := P
  w := w
  K := K
  mg := mg
  base := base
  A := A.deeper (envOfC qual scope s.heap.objs.size f cd)
  N := N
  s₀ := s
  H₀ := H
  env := envOfC qual scope s.heap.objs.size f cd
  outer := outer
  stack := envOfC qual scope s.heap.objs.size f cd :: outer
  ex := []
  calm := true
  fn := fun _ => true
  pn := []
  xe := fun e s' => wpAny (model P w) (A.deeper (envOfC qual scope s.heap.objs.size f cd)) (leaving (envOfC qual scope s.heap.objs.size f cd) e) (fun _ s'' => CX outer H s E e s'') (fun e' s'' => CX outer H s E e' s'') s'
theorem cell_has {sc : Scope} {n : Nat} {x : Str} (h : sc.names.lookup x = some .cell) : ∃ c, (cellsFrom n sc.names []).lookup x = some c := by
  have q := PySem.W.cellsFrom_some sc.names n [] (.inl h)
  exact Option.isSome_iff_exists.mp q
theorem inv_start {CX : CXT} {P : Program} {w : World} {K : PySem.W.Frag} {mg : Str → Option Value} {base : Heap} {N ps : List Str} {qual : Str} {scope : Scope} {f : Addr} {cd : Value} {A : Around} {outer : List Env} {s s1 : Shared} {H : Hp} {E : XK} {us : List Value} {vs : List V}
    (S : FnScope N ps scope) (hd : A.handled = none) (e0 : Env0 P w K mg base A outer s H) (hl : vs.length = ps.length) (r : Vals vs us)
    (x : InCallC s s.heap.objs.size (bindL (envOfC qual scope s.heap.objs.size f cd).kindOf (ps.zip us) fun _ => none) (cellsFrom (s.heap.objs.size + 1) scope.names []) (bindC (envOfC qual scope s.heap.objs.size f cd).kindOf (ps.zip us) fun _ => none) s1) :
    Inv (cxOf CX P w K mg base N qual scope f cd A outer s H E) [] (start N vs) H s1 := by
  have hpl : ps.length ≤ N.length := by have := congrArg List.length S.pre; rw [List.length_take] at this; lia
  obtain ⟨h1, tk, rfl, hk⟩ := x.done
  have noA : ∀ b : Addr, b ∉ (cxOf CX P w K mg base N qual scope f cd A outer s H E).ex := fun b z => absurd (show b ∈ ([] : List Addr) from z) (by simp)
  refine ⟨⟨e0.mod, S.kind, rfl, rfl, Nat.le_refl _, fun y z c h1 h2 => ?_, fun y hy => ?_, fun y c _ h => ?_, fun _ => hd, Around.frames_deeper e0.frames, .inr ⟨rfl, rfl⟩, fun b z => absurd z (noA b), e0.bs, e0.bsz, fun b _ _ => noA b, fun b z => absurd z (noA b), e0.funs, e0.frf⟩,
    rfl, e0.bare, Un.kept hk, ⟨_, x.toInCall.ns, fun i y v h1 h2 h3 => ?_⟩, fun y c h => ⟨_, x.cell y c h⟩, e0.hok.fresh (Nat.le_refl _), fun y c h => ?_, fun p hp => absurd (show p ∈ ([] : List (Addr × Obj)) from hp) (by simp), e0.hok.kept hk, ?_⟩
  · exact name_of_addr x.apart (PySem.mem_of_lookup h1) (PySem.mem_of_lookup h2)
  · have hy : scope.names.lookup y = some .cell ∨ scope.names.lookup y = some .free := hy
    rcases hy with hy | hy
    · exact cell_has hy
    · exact absurd rfl (S.nofree _ (PySem.mem_of_lookup hy))
  · exact Nat.le_of_lt (x.above y c (PySem.mem_of_lookup h))
  · have hi : i < vs.length := by
      unfold start at h2
      by_cases hi : i < vs.length
      · exact hi
      · rw [List.getElem?_append_right (by simpa using hi)] at h2
        rw [List.getElem?_replicate] at h2
        split at h2 <;> cases h2
    have ha : vs[i]? = some v := by
      unfold start at h2
      rw [List.getElem?_append_left (by simpa using hi), List.getElem?_map] at h2
      cases e : vs[i]? with
      | none => rw [e] at h2; cases h2
      | some a => rw [e] at h2; cases h2; rfl
    obtain ⟨u, hu, rv⟩ := r.get ha
    have hp : ps[i]? = some y := by
      rw [← S.pre, List.getElem?_take_of_lt (by lia)]; exact h1
    have ndP : ps.Nodup := by rw [← S.pre]; exact S.nd.sublist (List.take_sublist _ _)
    refine ⟨u, rv, ?_⟩
    rcases S.par y (List.mem_of_getElem? hp) with k | k
    · exact .inl ⟨k, bindL_get ndP hp hu k⟩
    · obtain ⟨c, e⟩ := cell_has (n := s.heap.objs.size + 1) k
      refine .inr ⟨.inl k, c, e, ?_⟩
      have q := x.cell y c e
      rw [bindC_get ndP hp hu (by show scope.names.lookup y ≠ _; rw [k]; decide)] at q
      exact q
  · exact e0.hok.fresh (Nat.le_of_lt (x.above y c (PySem.mem_of_lookup h)))
  · unfold start
    show _ = N.length
    rw [List.length_append, List.length_map, List.length_replicate]
    lia
theorem fn_of {CX : CXT} {P : Program} {w : World} {K : PySem.W.Frag} {mg : Str → Option Value} {base : Heap} {k : Nat} {f : Addr} {name qual : Str} {params : Arguments} {body : List Stmt} {scope : Scope} {dV kV doc pm cdv ct oc : Value} {an od : Option Addr}
    {osl : Array (Option Value)} {N ps : List Str} {sp : Sp} (lk : K.lookup f = some ⟨oc, od, .func (PySem.W.fnOf name qual params body scope dV kV doc pm an cdv ct), osl⟩) (hcd : PySem.W.codeIn K cdv qual = true) (S : FnScope N ps scope)
    (len : ∀ vs H Q E, sp vs H Q E → vs.length = ps.length)
    (hbody : ∀ (A : Around) (outer : List Env) (s : Shared) (H : Hp) (vs : List V) (Q : VK) (E : XK), Room k (A.deeper (envOfC qual scope s.heap.objs.size f cdv)) → sp vs H Q E →
      ∃ t, PSs (cxOf CX P w K mg base N qual scope f cdv A outer s H E) body t ∧ t { nx := fun _ H' => Q .non H', rt := Q } (start N vs) H) :
    FnOk P w K mg base CX (k + 1) f (PySem.W.fnOf name qual params body scope dV kV doc pm an cdv ct) ps sp := by
  refine ⟨len, fun A outer s H args us vs Q E hr e0 hb r hsp => ?_⟩
  have hl := len _ _ _ _ hsp
  have KX : K.In s.heap := e0.mod.kin.keeps fun b o e => (e0.bs b o e).1
  have lim : s.heap.NoLimit := e0.mod.nolimit.keeps fun b o e => (e0.bs b o e).1
  have hkind : ∀ y ∈ ps.zip us, scope.names.lookup y.1 = some .local ∨ (scope.names.lookup y.1 = some .cell ∧ ((cellsFrom (s.heap.objs.size + 1) scope.names []).lookup y.1).isSome = true) := fun ⟨n, v⟩ hy => by
    rcases S.par n (List.of_mem_zip hy).1 with q | q
    · exact .inl q
    · exact .inr ⟨q, PySem.W.cellsFrom_some _ _ _ (.inl q)⟩
  refine codeAny_call_function hr.depth (KX _ _ lk) rfl S.co S.gen rfl (PySem.W.codeRec_of KX hcd) (hb _ _ _ _ ?_)
  refine wpAny_newFunctionEnv_cells S.kind hkind fun env he s1 x => ?_
  subst he
  refine ⟨lim.keeps x.toInCall.keep, codeAny_func ?_⟩
  obtain ⟨t, ht, hq⟩ := hbody A outer s H vs Q E (hr.deeper _) hsp
  have I : Inv (cxOf CX P w K mg base N qual scope f cdv A outer s H E) [] (start N vs) H s1 := inv_start S hr.hd e0 hl r x
  refine wpAny_mono (ht [] s1 (start N vs) H _ I hq) (fun fl s' hs => ?_) fun e s' hs => hs
  have fin : ∀ {σ' : St} {H' : Hp} {v : V} {u : Value}, Inv (cxOf CX P w K mg base N qual scope f cdv A outer s H E) [] σ' H' s' → RelV v u → Q v H' → CE outer P w H s Q u s' :=
    fun {σ' H' v u} J rv q => ⟨v, H', J.os, J.bare, J.base, J.hok, rv, q⟩
  cases fl with
  | ret u =>
    obtain ⟨v, σ', H', J, rv, q⟩ := hs
    exact fin J rv q
  | next =>
    obtain ⟨σ', H', J, q⟩ := hs
    exact fin (v := V.non) (u := Value.none) J rfl q
  | brk =>
    obtain ⟨_, _, _, q⟩ := hs
    exact False.elim q
  | cont =>
    obtain ⟨_, _, _, q⟩ := hs
    exact False.elim q
end L2
namespace L2
open PySem PySem.Spec PyProof.Rows
section
variable {X : Cx} {x : Str} {p pos : Pos} {e : Expr} {es : List Expr} {t : TA} {id T : String} {r : List V → Hp → VK → Prop}
def tCB (r : List V → Hp → VK → Prop) (t : TA) : TE := fun σ H Q => t σ H fun vs H1 => r vs H1 Q
theorem pe_callB (hc : CallR X (.builtin id) r) (hg : Gl X x) (hm : X.mg x = none) (hv : bootBuiltins x = some (.builtin id)) (ha : PA X (e :: es) t) (hn : x ≠ "__name__" := by decide) (hdb : (x == ("__debug__" : Str)) = false := by decide)
    (he : starEach (e :: es) X.env = (false, eval e X.env) :: starEach es X.env := by rfl) (hpl : (backTo pos (starEach es X.env)).any (·.1) = false := by rfl) : PE X (.Call (.Name x p) (e :: es) [] pos) (tCB r t) := by
  intro pins s σ H Q I h
  refine wpAny_Call_Name_kw (ld_blt I hg hm hv ?_ hn hdb)
  exact PyProof.Rows.callWith_builtin1 (thn (ha pos pins s σ H _ I h) fun us s1 ⟨vs, H1, I1, r1, q1⟩ => hc pins s1 σ H1 vs us Q I1 r1 q1) he hpl
theorem pe_callTy (hc : CallR X (.type T) r) (hg : Gl X x) (hm : X.mg x = none) (hv : bootBuiltins x = some (.type T)) (ha : PA X (e :: es) t) (hn : x ≠ "__name__" := by decide) (hdb : (x == ("__debug__" : Str)) = false := by decide)
    (he : starEach (e :: es) X.env = (false, eval e X.env) :: starEach es X.env := by rfl) (hpl : (backTo pos (starEach es X.env)).any (·.1) = false := by rfl) : PE X (.Call (.Name x p) (e :: es) [] pos) (tCB r t) := by
  intro pins s σ H Q I h
  refine wpAny_Call_Name_kw (ld_blt I hg hm hv ?_ hn hdb)
  exact PyProof.Rows.callWith_type1 (thn (ha pos pins s σ H _ I h) fun us s1 ⟨vs, H1, I1, r1, q1⟩ => hc pins s1 σ H1 vs us Q I1 r1 q1) he hpl
end
end L2
namespace HT
open PySem PyProof.Rows
section
open PySem.SeqAt
open PySem.AutoSeq1 (wpAny_loadPart')
open PySem.MeetsSeq PySem.MeetsSeq2 PySem.MeetsSeq3
end
section
variable {prog : Program} {w : World} {A : Around} {E : Value → Shared → Prop} {s : Shared}
theorem cat_tup {t b : Addr} {vs ws : List Value} {Q : Value → Shared → Prop} (ht : IsTup s.heap t vs.toArray) (hb : IsTup s.heap b ws.toArray) (hv : vs ≠ [])
    (h1 : ws = [] → Q (.ref t) s) (h2 : ws ≠ [] → Q (.ref s.heap.objs.size) { s with heap := s.heap.push { cls := .type "tuple", data := .seq (vs ++ ws).toArray } })
    (hsz : vs.length + ws.length ≤ sizeLine) : wpAny (model prog w) A (binaryOp .Add (.ref t) (.ref b)) Q E s := by
  obtain ⟨⟨cls, dd, data, sl⟩, ho, hc, n, hd⟩ := id ht
  obtain ⟨⟨cls2, dd2, data2, sl2⟩, ho2, hc2, n2, hd2⟩ := id hb
  simp only at hc hd hc2 hd2
  subst hc hd hc2 hd2
  have e : vs.toArray ++ ws.toArray = (vs ++ ws).toArray := by simp
  by_cases hw : ws = []
  · exact concat_meets ⟨_, ho, rfl⟩ ⟨_, ho2, rfl⟩ noFill_tuple_add seq_tuple_add PySem.F.slot_tuple_add PySem.F.entry_tuple_add (PySem.F.args_tuple_add_2 _ _)
      (tuple_addW1 t b vs.toArray ws.toArray n n2 dd dd2 sl sl2 (by simpa using hv) (by simp [hw])) ⟨ho, ho2, h1 hw⟩
  · refine concat_meets ⟨_, ho, rfl⟩ ⟨_, ho2, rfl⟩ noFill_tuple_add seq_tuple_add PySem.F.slot_tuple_add PySem.F.entry_tuple_add (PySem.F.args_tuple_add_2 _ _)
      (tuple_addW2 t b vs.toArray ws.toArray n n2 dd dd2 sl sl2 (by simpa using hv) (by simpa using hw) (by rw [List.size_toArray, List.size_toArray]; exact hsz)) ⟨ho, ho2, ?_⟩
    rw [e]
    exact h2 hw
def sIx (n d : Nat) : Option Int → Nat
  | none => d
  | some v => if v < 0 then (v + (n : Int)).toNat else min v.toNat n
theorem sIx_none (n d : Nat) : sIx n d none = d := rfl
theorem sIx_nat (n d k : Nat) : sIx n d (some (k : Int)) = min k n := by
  show (if (k : Int) < 0 then ((k : Int) + (n : Int)).toNat else min (k : Int).toNat n) = min k n
  rw [if_neg (by lia), Int.toNat_natCast]
theorem sIx_le (n d : Nat) (hd : d ≤ n) (o : Option Int) : sIx n d o ≤ n := by
  cases o with
  | none => exact hd
  | some v =>
    show (if v < 0 then (v + (n : Int)).toNat else min v.toNat n) ≤ n
    by_cases hv : v < 0
    · rw [if_pos hv]; lia
    · rw [if_neg hv]; exact Nat.min_le_right _ _
theorem clip_eq (v : Int) (n d : Nat) : (if v < 0 then max (v + (n : Int)) 0 else min v (n : Int)) = ((sIx n d (some v) : Nat) : Int) := by
  show (if v < 0 then max (v + (n : Int)) 0 else min v (n : Int)) = (((if v < 0 then (v + (n : Int)).toNat else min v.toNat n) : Nat) : Int)
  by_cases hv : v < 0
  · simp only [if_pos hv]; lia
  · simp only [if_neg hv]; lia
theorem adjust_gen (lo hi : Option Int) (n : Nat) : Builtin.Slice.sliceAdjust lo hi 1 (n : Int) = (((sIx n 0 lo : Nat) : Int), ((sIx n n hi : Nat) : Int)) := by
  have h1 : ¬ ((1 : Int) < 0) := by lia
  unfold Builtin.Slice.sliceAdjust
  simp only [h1, if_false]
  refine Prod.ext ?_ ?_
  · cases lo with
    | none => rfl
    | some v => exact clip_eq v n 0
  · cases hi with
    | none => rfl
    | some v => exact clip_eq v n n
theorem places_gen (i j : Nat) : Builtin.Slice.slicePlaces (i : Int) (j : Int) 1 = j - i := by
  unfold Builtin.Slice.slicePlaces
  have h1 : (1 : Int) > 0 := by lia
  simp only [h1, if_true, Int.ediv_one]
  split <;> lia
theorem slicePart_ {v : Value} {o : Option Int} {Q : Option Int → Shared → Prop} (p : IsPart v o) (h : Q o s) : wpAny (model prog w) A (Builtin.Slice.slicePartIndex v) Q E s := by
  cases p with
  | none => exact slicePart_none h
  | int i t => exact slicePart_int h
theorem sliceApplied_gen {sl : Addr} {vl vu : Value} {lo hi : Option Int} {n : Nat} {Q : Int × Int × Nat → Shared → Prop} (hs : s.heap.IsSliceOf sl vl vu .none) (pl : IsPart vl lo) (pu : IsPart vu hi)
    (h : Q (((sIx n 0 lo : Nat) : Int), 1, sIx n n hi - sIx n 0 lo) s) : wpAny (model prog w) A (Builtin.Slice.sliceApplied (.ref sl) (pure (n : Int))) Q E s := by
  obtain ⟨os, hos, hcs, hds⟩ := id hs
  unfold Builtin.Slice.sliceApplied Builtin.Slice.sliceFields
  refine wpAny_bind (wpAny_bind (wpAny_field hos hds (x := vl) rfl (wpAny_bind (wpAny_field hos hds (x := vu) rfl (wpAny_bind (wpAny_field hos hds (x := .none) rfl (wpAny_pure ?_)))))))
  refine wpAny_bind (slicePart_none ?_)
  show wpAny _ _ (if ((1 : Int) == 0) = true then _ else _) _ _ s
  rw [if_neg (by decide)]
  refine wpAny_bind (slicePart_ pl (wpAny_bind (slicePart_ pu (wpAny_bind (wpAny_pure ?_)))))
  show wpAny _ _ (match Builtin.Slice.sliceAdjust lo hi 1 (n : Int) with | (lo, hi) => pure (lo, (1 : Int), Builtin.Slice.slicePlaces lo hi 1)) _ _ s
  rw [adjust_gen lo hi n]
  show wpAny _ _ (pure (((sIx n 0 lo : Nat) : Int), (1 : Int), Builtin.Slice.slicePlaces ((sIx n 0 lo : Nat) : Int) ((sIx n n hi : Nat) : Int) 1)) _ _ s
  rw [places_gen]
  exact wpAny_pure h
theorem pick_gen (xs : Array Value) (i k : Nat) : ((List.range k).filterMap fun (m : Nat) => xs[((i : Int) + (m : Int) * 1).toNat]?).toArray = ((xs.toList.drop i).take k).toArray := by
  have e : (fun (m : Nat) => xs[((i : Int) + (m : Int) * 1).toNat]?) = fun m => xs[i + m]? := by
    funext m
    have : ((i : Int) + (m : Int) * 1).toNat = i + m := by lia
    rw [this]
  rw [e]
  have := pick_run xs i k
  rw [List.filterMap_map] at this
  have e2 : ((fun x => xs[x]?) ∘ fun x => i + x) = fun m => xs[i + m]? := rfl
  rw [e2] at this
  rw [this]
theorem getItem_tuple_cut {t sl : Addr} {items : Array Value} {vl vu : Value} {lo hi : Option Int} {Q : Value → Shared → Prop} (ht : IsTup s.heap t items) (hs : s.heap.IsSliceOf sl vl vu .none) (pl : IsPart vl lo) (pu : IsPart vu hi)
    (hw : ¬ (sIx items.size 0 lo = 0 ∧ sIx items.size items.size hi = items.size))
    (h : Q (.ref s.heap.objs.size) { s with heap := s.heap.push { cls := .type "tuple", data := .seq ((items.toList.drop (sIx items.size 0 lo)).take (sIx items.size items.size hi - sIx items.size 0 lo)).toArray } })
    (hsz : items.size ≤ sizeLine) : wpAny (model prog w) A (getItem (.ref t) (.ref sl)) Q E s := by
  have htake : sizeOk (.seq ((items.toList.drop (sIx items.size 0 lo)).take (sIx items.size items.size hi - sIx items.size 0 lo)).toArray) := by
    show ((items.toList.drop (sIx items.size 0 lo)).take (sIx items.size items.size hi - sIx items.size 0 lo)).toArray.size ≤ sizeLine
    rw [List.size_toArray, List.length_take, List.length_drop, Array.length_toList]
    lia
  have hj : sIx items.size items.size hi ≤ items.size := sIx_le _ _ (Nat.le_refl _) hi
  obtain ⟨os, hos, hcs, hds⟩ := id hs
  have hTs : s.TypeIs (.ref sl) "slice" := ⟨os, hos, hcs⟩
  unfold getItem
  try with_reducible refine wpAny_holding ?_
  first | refine wpAny_bind (wpAny_pure ?_) | skip
  refine wpAny_bind (wpAny_sequenceKey ht.typeIs (by decide) ?_)
  refine wpAny_bind (wpAny_callSpecial?_slot (name := Str.ofString "__getitem__") ht.typeIs PyProof.Rows.slot_tuple_getitem
    (wpAny_call_entry PyProof.Rows.slot_tuple_getitem ht.typeIs entry_tuple_getitem ?_ (args_tuple_getitem _ _)))
  show wpAny _ _ (Builtin.Tuple.tupleItemsOf (.ref t) >>= _) _ _ s
  refine wpAny_bind (tupleItemsOf_ ht ?_)
  refine wpAny_bind (wpAny_typeOf hTs ?_)
  rw [if_pos (by decide)]
  refine wpAny_bind (sliceApplied_gen hs pl pu ?_)
  have hno : ¬ ((((sIx items.size 0 lo : Nat) : Int) == 0 && (1 : Int) == 1 && (sIx items.size items.size hi - sIx items.size 0 lo) == items.size) = true) := by
    intro q
    rw [Bool.and_eq_true, Bool.and_eq_true] at q
    have q1 : ((sIx items.size 0 lo : Nat) : Int) = 0 := eq_of_beq q.1.1
    have q2 : sIx items.size items.size hi - sIx items.size 0 lo = items.size := eq_of_beq q.2
    exact hw ⟨by lia, by lia⟩
  show wpAny _ _ (if (((sIx items.size 0 lo : Nat) : Int) == 0 && (1 : Int) == 1 && (sIx items.size items.size hi - sIx items.size 0 lo) == items.size) = true then _ else _) _ _ s
  rw [if_neg hno, pick_gen]
  first
    | exact wpAny_bind (m := Builtin.Tuple.tupleExact _) (wpAny_newObj_type (wpAny_pure ⟨_, rfl, wpAny_pure h⟩) htake)
    | exact wpAny_bind (m := Builtin.Tuple.tupleExact _) (wpAny_newObj_type (wpAny_bind (wpAny_pure (wpAny_pure ⟨_, rfl, wpAny_pure h⟩))) htake)
    | exact wpAny_bind (wpAny_bind (m := Builtin.Tuple.tupleExact _) (wpAny_newObj_type (wpAny_pure (wpAny_pure ⟨_, rfl, wpAny_pure h⟩)) htake))
    | exact wpAny_bind (wpAny_bind (m := Builtin.Tuple.tupleExact _) (wpAny_newObj_type (wpAny_pure ⟨_, rfl, wpAny_pure h⟩) htake))
end
end HT
namespace L2
open PySem PySem.Spec PyProof.Rows
abbrev TO := St → Hp → (Option Int → Hp → Prop) → Prop
def PO (X : Cx) (e : Option Expr) (t : TO) : Prop :=
  ∀ (pins : List (Addr × Obj)) (s : Shared) (σ : St) (H : Hp) (Q : Option Int → Hp → Prop), Inv X pins σ H s → t σ H Q →
    wpAny (model X.prog X.w) X.A (evalPart e X.env) (fun u s' => ∃ o H', Inv X pins σ H' s' ∧ IsPart u o ∧ Q o H') X.xe s
def tNoPart : TO := fun _ H Q => Q none H
def tPart (t : TE) : TO := fun σ H Q => t σ H fun x H1 => ∃ i, x = .int i ∧ Q (some i) H1
theorem intsAre_of {ns : List Int} : ∀ {us : List Value}, Vals (ns.map V.int) us → IntsAre us ns := by
  induction ns with
  | nil => intro us r; rw [List.map_nil] at r; cases r; exact .nil
  | cons n ns ih =>
    intro us r
    rw [List.map_cons] at r
    cases r with
    | cons r1 r2 =>
      obtain ⟨t, e⟩ := r1
      subst e
      exact .cons n t (ih r2)
section
variable {X : Cx} {e : Expr} {te : TE} {lo hi : Option Expr} {tl th : TO} {pos p2 : Pos}
theorem po_none : PO X none tNoPart := by
  intro pins s σ H Q I h
  rw [evalPart_none]
  exact wpAny_pure ⟨none, H, I, .none, h⟩
theorem po_some (h : PE X e te) : PO X (some e) (tPart te) := by
  intro pins s σ H Q I hw
  rw [evalPart_some]
  refine thn (h pins s σ H _ I hw) fun u s1 ⟨x, H1, I1, r1, q1⟩ => ?_
  obtain ⟨i, rfl, q⟩ := q1
  obtain ⟨t, rfl⟩ := r1
  exact ⟨some i, H1, I1, .int i t, q⟩
def SlR (X : Cx) (r : V → Option Int → Option Int → Hp → VK → Prop) : Prop :=
  ∀ (pins : List (Addr × Obj)) (s : Shared) (σ : St) (H : Hp) (x : V) (v vl vu : Value) (lo hi : Option Int) (sl : Addr) (Q : VK), Inv X pins σ H s → RelV x v → s.heap.IsSliceOf sl vl vu .none → IsPart vl lo → IsPart vu hi → r x lo hi H Q →
    ∃ T id, typeLookup (.type T) "__getitem__" = pure (some (.builtin id)) ∧ s.TypeIs v T ∧ wpAny (model X.prog X.w) X.A (getItem v (.ref sl)) (EP X pins σ Q) X.xe s
theorem SlR.or {r r' : V → Option Int → Option Int → Hp → VK → Prop} (h : SlR X r) (h' : SlR X r') : SlR X (fun x lo hi H Q => r x lo hi H Q ∨ r' x lo hi H Q) := by
  intro pins s σ H x v vl vu lo hi sl Q I rx hs pl pu q
  rcases q with q | q
  · exact h pins s σ H x v vl vu lo hi sl Q I rx hs pl pu q
  · exact h' pins s σ H x v vl vu lo hi sl Q I rx hs pl pu q
def tSl (r : V → Option Int → Option Int → Hp → VK → Prop) (te : TE) (tl th : TO) : TE := fun σ H Q => te σ H fun x H1 => tl σ H1 fun l H2 => th σ H2 fun u H3 => r x l u H3 Q
theorem pe_slice {r : V → Option Int → Option Int → Hp → VK → Prop} (hr : SlR X r) (he : PE X e te) (hl : PO X lo tl) (hu : PO X hi th) : PE X (.Subscript e (.Slice lo hi none p2) pos) (tSl r te tl th) := by
  intro pins s σ H Q I h
  refine Subscript_ (thn (he pins s σ H _ I h) fun v s1 ⟨x, H1, I1, r1, q1⟩ => ?_)
  refine wpAny_Slice (thn (hl pins s1 σ H1 _ I1 q1) fun vl s2 ⟨l, H2, I2, pl, q2⟩ => thn (hu pins s2 σ H2 _ I2 q2) fun vu s3 ⟨u, H3, I3, pu, q3⟩ => ?_)
  rw [evalPart_none]
  refine wpAny_pure ?_
  have I4 : Inv X pins σ H3 { s3 with heap := s3.heap.push { cls := .type "slice", data := .fields #[vl, vu, .none] } } := I3.kept (t' := s3.toks) fun b ob q => Heap.get?_push_of_some _ q
  obtain ⟨T, id, hT, ht, hg⟩ := hr pins { s3 with heap := s3.heap.push { cls := .type "slice", data := .fields #[vl, vu, .none] } } σ H3 x v vl vu l u s3.heap.objs.size Q I4 r1 (Heap.IsSliceOf.new ..) pl pu q3
  show wpAny (model X.prog X.w) X.A (subscriptTail e (.Slice lo hi none p2) v (.ref s3.heap.objs.size)) (EP X pins σ Q) X.xe { s3 with heap := s3.heap.push { cls := .type "slice", data := .fields #[vl, vu, .none] } }
  exact tail_any (ops := [.ref s3.heap.objs.size, v]) ht hT hg (by with_unfolding_all rfl)
def cutV (xs : List V) (lo hi : Option Int) : List V := (xs.drop (HT.sIx xs.length 0 lo)).take (HT.sIx xs.length xs.length hi - HT.sIx xs.length 0 lo)
theorem cutV_length (xs : List V) (lo hi : Option Int) : (cutV xs lo hi).length ≤ xs.length := by
  unfold cutV
  rw [List.length_take, List.length_drop]
  lia
def rSlT (K : PySem.W.Frag) : V → Option Int → Option Int → Hp → VK → Prop := fun x lo hi H Q => ∃ a xs, x = .ref a ∧ SqT K H a xs ∧
  ¬ (HT.sIx xs.length 0 lo = 0 ∧ HT.sIx xs.length xs.length hi = xs.length) ∧ ∀ p, H p = none → Q (.ref p) (upd H p (.tup (cutV xs lo hi)))
theorem sl_tup : SlR X (rSlT X.K) := by
  intro pins s σ H x v vl vu lo hi sl Q I rx hs pl pu h
  obtain ⟨a, xs, rfl, hx, hw, q⟩ := h
  cases rx
  obtain ⟨its, r, ht, hz⟩ := I.tuple hx
  have hlen : its.toArray.size = xs.length := by rw [List.size_toArray]; exact r.length.symm
  refine ⟨"tuple", _, PyProof.Rows.slot_tuple_getitem.lookup, ht.typeIs, ?_⟩
  refine HT.getItem_tuple_cut ht hs pl pu (by rw [hlen]; exact hw) ?_ (by rw [hlen]; exact hz)
  rw [hlen]
  refine ⟨.ref s.heap.objs.size, _, I.laid (t' := s.toks) (o := .tup (cutV xs lo hi)) (fun b ob q => Heap.get?_push_of_some _ q) (Nat.le_refl _) ?_, rfl, q _ (I.hok.fresh (Nat.le_refl _))⟩
  exact ⟨Nat.le_trans (cutV_length xs lo hi) hz, _, (r.drop (HT.sIx xs.length 0 lo)).take (HT.sIx xs.length xs.length hi - HT.sIx xs.length 0 lo), IsTupN.new _ _⟩
def rCatT (K : PySem.W.Frag) : R2 := fun x y H Q => ∃ a b xs ys, x = .ref a ∧ y = .ref b ∧ SqT K H a xs ∧ SqT K H b ys ∧ xs ≠ [] ∧ xs.length + ys.length ≤ sizeLine ∧
  (ys = [] → Q (.ref a) H) ∧ (ys ≠ [] → ∀ p, H p = none → Q (.ref p) (upd H p (.tup (xs ++ ys))))
theorem Vals.nil_iff {xs : List V} {us : List Value} (r : Vals xs us) : us = [] ↔ xs = [] := by
  cases r with
  | nil => simp
  | cons _ _ => simp
theorem op_catT : OpR X (binaryOp .Add) (rCatT X.K) := by
  intro pins s σ H x y v u Q I rx ry h
  obtain ⟨a, b, xs, ys, rfl, rfl, ha, hb, hx, hz, q1, q2⟩ := h
  cases rx
  cases ry
  obtain ⟨its, r1, p1, _⟩ := I.tuple ha
  obtain ⟨its2, r2, p2, _⟩ := I.tuple hb
  refine HT.cat_tup p1 p2 (fun z => hx (r1.nil_iff.mp z)) (fun z => ⟨.ref a, H, I, rfl, q1 (r2.nil_iff.mp z)⟩) (fun z => ?_) (by rw [← r1.length, ← r2.length]; exact hz)
  refine ⟨.ref s.heap.objs.size, _, I.laid (t' := s.toks) (o := .tup (xs ++ ys)) (fun b ob q => Heap.get?_push_of_some _ q) (Nat.le_refl _) ?_, rfl, q2 (fun w => z (r2.nil_iff.mpr w)) _ (I.hok.fresh (Nat.le_refl _))⟩
  exact ⟨by rw [List.length_append]; exact hz, _, r1.append r2, IsTupN.new _ _⟩
end
end L2
namespace L2
open PySem PySem.Spec PyProof.Rows
def ixN (n : Nat) (i : Int) : Option Nat := if 0 ≤ i then (if i < n then some i.toNat else none) else if -(n : Int) ≤ i then some (i + n).toNat else none
def atI {α : Type} (xs : List α) (i : Int) : Option α := (ixN xs.length i).bind fun j => xs[j]?
theorem ixN_seq {n : Nat} {i : Int} {j : Nat} (h : ixN n i = some j) : seqIndex? i n = some j ∧ j < n ∧ -(n : Int) ≤ i ∧ i < n := by
  unfold ixN at h
  by_cases h0 : 0 ≤ i
  · rw [if_pos h0] at h
    by_cases h1 : i < n
    · rw [if_pos h1] at h
      have e : i.toNat = j := Option.some.inj h
      exact ⟨by rw [seqIndex_of h0 h1, e], by lia, by lia, h1⟩
    · rw [if_neg h1] at h; cases h
  · rw [if_neg h0] at h
    by_cases h1 : -(n : Int) ≤ i
    · rw [if_pos h1] at h
      have e : (i + n).toNat = j := Option.some.inj h
      exact ⟨by rw [seqIndex_neg (by lia) h1, e], by lia, h1, by lia⟩
    · rw [if_neg h1] at h; cases h
theorem atI_get {α : Type} {xs : List α} {i : Int} {v : α} (h : atI xs i = some v) : ∃ j, seqIndex? i xs.length = some j ∧ xs[j]? = some v ∧ j < xs.length ∧ -(xs.length : Int) ≤ i ∧ i < xs.length := by
  unfold atI at h
  cases e : ixN xs.length i with
  | none => rw [e] at h; cases h
  | some j =>
    rw [e] at h
    obtain ⟨h1, h2, h3, h4⟩ := ixN_seq e
    exact ⟨j, h1, h, h2, h3, h4⟩
def PlainIx (b : Expr) : Prop := ∀ o i, subscripted b false o i = operate [o, i] (getItem o i)
def IxR (X : Cx) (r : R2) : Prop :=
  ∀ (value slice : Expr) (pins : List (Addr × Obj)) (s : Shared) (σ : St) (H : Hp) (x y : V) (v u : Value) (Q : VK), Inv X pins σ H s → RelV x v → RelV y u → r x y H Q →
    subscripted slice false v u = operate [v, u] (getItem v u) → wpAny (model X.prog X.w) X.A (subscriptTail value slice v u) (EP X pins σ Q) X.xe s
def MtR (X : Cx) (id : String) (r : V → List V → Hp → VK → Prop) : Prop :=
  ∀ (pins : List (Addr × Obj)) (s : Shared) (σ : St) (H : Hp) (x : V) (xs : List V) (v : Value) (us : List Value) (Q : VK), Inv X pins σ H s → RelV x v → Vals xs us → r x xs H Q →
    wpAny (model X.prog X.w) X.A (call (.builtin id) (v :: us)) (EP X pins σ Q) X.xe s
section
variable {X : Cx} {a b : Expr} {ta tb : TE} {pos : Pos}
theorem IxR.or {r r' : R2} (h : IxR X r) (h' : IxR X r') : IxR X (fun x y H Q => r x y H Q ∨ r' x y H Q) := by
  intro value slice pins s σ H x y v u Q I rx ry q hs
  rcases q with q | q
  · exact h value slice pins s σ H x y v u Q I rx ry q hs
  · exact h' value slice pins s σ H x y v u Q I rx ry q hs
theorem pe_ix {r : R2} (hr : IxR X r) (ha : PE X a ta) (hb : PE X b tb) (hs : PlainIx b) : PE X (.Subscript a b pos) (tOp r ta tb) := by
  intro pins s σ H Q I h
  exact Subscript_ (binT ha hb I h fun v u s2 x y H2 I2 rx ry q => hr a b pins s2 σ H2 x y v u Q I2 rx ry q (hs _ _))
def rIxL (K : PySem.W.Frag) : R2 := fun x y H Q => ∃ p xs i v, x = .ref p ∧ y = .int i ∧ SqL K H p xs ∧ atI xs i = some v ∧ Q v H
def rIxT (K : PySem.W.Frag) : R2 := fun x y H Q => ∃ p xs i v, x = .ref p ∧ y = .int i ∧ SqT K H p xs ∧ atI xs i = some v ∧ Q v H
def rIxS : R2 := fun x y H Q => ∃ z i c, x = .str z ∧ y = .int i ∧ z.length ≤ sizeLine ∧ atI z.cps.toList i = some c ∧ Q (.str ⟨#[c]⟩) H
theorem ix_list : IxR X (rIxL X.K) := by
  intro value slice pins s σ H x y v u Q I rx ry h hs
  obtain ⟨p, xs, i, z, rfl, rfl, hq, he, q⟩ := h
  cases rx
  obtain ⟨t, rfl⟩ := ry
  obtain ⟨its, r, pl, hz⟩ := I.list hq
  obtain ⟨j, h1, h2, h3, h4, h5⟩ := atI_get he
  obtain ⟨w, ew, rw'⟩ := r.get h2
  have hl := r.length
  have hn := line63
  have fin : EP X pins σ Q w s := ⟨z, H, I, rw', q⟩
  by_cases h0 : 0 ≤ i
  · have hj : i.toNat = j := by
      rw [seqIndex_of h0 h5] at h1
      exact Option.some.inj h1
    exact item_listR pl.isList h0 (by lia) (by rw [hj]; simpa using ew) fin hs
  · have hj : (i + (its.toArray.size : Int)).toNat = j := by
      rw [seqIndex_neg (by lia) h4] at h1
      rw [List.size_toArray, ← hl]
      exact Option.some.inj h1
    exact subscriptTail_builtinR (x := w) pl.isList.typeIs slot_list_getitem.lookup
      (wpAny_getItem_list_neg (Q := fun r s' => r = w ∧ EP X pins σ Q r s') pl.isList (by lia) (by rw [List.size_toArray] <;> lia) (by lia) (by rw [hj]; simpa using ew) ⟨rfl, fin⟩) hs
theorem ix_tup : IxR X (rIxT X.K) := by
  intro value slice pins s σ H x y v u Q I rx ry h hs
  obtain ⟨p, xs, i, z, rfl, rfl, hq, he, q⟩ := h
  cases rx
  obtain ⟨t, rfl⟩ := ry
  obtain ⟨its, r, pl, hz⟩ := I.tuple hq
  obtain ⟨j, h1, h2, h3, h4, h5⟩ := atI_get he
  obtain ⟨w, ew, rw'⟩ := r.get h2
  have hl := r.length
  have hn := line63
  have fin : EP X pins σ Q w s := ⟨z, H, I, rw', q⟩
  exact subscriptTail_builtinR (x := w) pl.typeIs slot_tuple_getitem.lookup
    (getItem_tuple (j := j) (Q := fun r s' => r = w ∧ EP X pins σ Q r s') pl (by lia) (by lia) (by rw [List.size_toArray, ← hl]; exact h1) (by simpa using ew) ⟨rfl, fin⟩) hs
theorem ix_str : IxR X rIxS := by
  intro value slice pins s σ H x y v u Q I rx ry h hs
  obtain ⟨z, i, c, rfl, rfl, hz, he, q⟩ := h
  obtain ⟨t, rfl⟩ := rx
  obtain ⟨t', rfl⟩ := ry
  obtain ⟨j, h1, h2, h3, h4, h5⟩ := atI_get he
  have hl : z.cps.toList.length = z.length := by simp [Str.length]
  rw [hl] at h1 h4 h5
  have hn := line63
  exact tail_any (typeIs_str s z t) slot_str_getitem.lookup (getItem_str (c := c) (by
    have e1 : decide (i < -(2 ^ 63 : Int)) = false := decide_eq_false (by lia)
    have e2 : decide (i ≥ 2 ^ 63) = false := decide_eq_false (by lia)
    rw [e1, e2, Bool.or_false]) (by rw [h1]; simpa using h2) ⟨.str ⟨#[c]⟩, H, I.tok _, ⟨_, rfl⟩, q⟩) hs
def rIx (K : PySem.W.Frag) : R2 := fun x y H Q => rIxL K x y H Q ∨ rIxT K x y H Q ∨ rIxS x y H Q
theorem ix_seq : IxR X (rIx X.K) := ix_list.or (ix_tup.or ix_str)
theorem mapSeq_set (its : List Value) (n j : Nat) (u : Value) : Obj.mapSeq (·.setIfInBounds j u) { cls := .type "list", data := .seq its.toArray n } = { cls := .type "list", data := .seq (its.set j u).toArray n } := by
  simp [Obj.mapSeq]
theorem Inv.lst {pins : List (Addr × Obj)} {σ : St} {H : Hp} {s : Shared} {p : Addr} {xs : List V} (I : Inv X pins σ H s) (h : H p = some (.lst xs)) :
    ∃ (its : List Value) (n : Nat), Vals xs its ∧ s.heap.get? p = some { cls := .type "list", data := .seq its.toArray n } ∧ xs.length ≤ sizeLine := by
  obtain ⟨z, its, n, r, e⟩ := I.hok p _ h
  exact ⟨its, n, r, e, z⟩
theorem Inv.lstUpd {pins : List (Addr × Obj)} {σ : St} {H : Hp} {s : Shared} {p : Addr} {xs ys : List V} {its its' : List Value} {n n' : Nat} {f : Obj → Obj} (I : Inv X pins σ H s) (h : H p = some (.lst xs))
    (ho : s.heap.get? p = some { cls := .type "list", data := .seq its.toArray n }) (hf : f { cls := .type "list", data := .seq its.toArray n } = { cls := .type "list", data := .seq its'.toArray n' }) (r : Vals ys its') (hz : ys.length ≤ sizeLine) (t : Nat) :
    Inv X pins σ (upd H p (.lst ys)) { s with heap := s.heap.update p f, toks := t } := by
  have e : (s.heap.update p f).get? p = some { cls := .type "list", data := .seq its'.toArray n' } := by
    rw [Heap.get?_update_self f ho (by rw [hf] <;> rfl), hf]
  refine I.write (x := p) (e := p) (by rw [h]; trivial) (.inl rfl) (fun b u hb q => (Heap.get?_update_other _ _ (Ne.symm hb)).trans q) ⟨_, e⟩ ?_
  exact ⟨hz, its', n', r, e⟩
def rSetL : V → V → V → Hp → (Hp → Prop) → Prop := fun o i v H Q => ∃ p xs k j, o = .ref p ∧ i = .int k ∧ H p = some (.lst xs) ∧ ixN xs.length k = some j ∧ Q (upd H p (.lst (xs.set j v)))
theorem set_list : PSet X rSetL := by
  intro pins s σ H o i v ov iv u Q I ro ri rv h
  obtain ⟨p, xs, k, j, rfl, rfl, hp, hj, q⟩ := h
  cases ro
  obtain ⟨t, rfl⟩ := ri
  obtain ⟨its, n, r, ho, hz⟩ := I.lst hp
  obtain ⟨h1, h2, h3, h4⟩ := ixN_seq hj
  have hl := r.length
  have hn := line63
  have I' : Inv X pins σ (upd H p (.lst (xs.set j v))) { s with heap := s.heap.update p (Obj.mapSeq (·.setIfInBounds j u)) } :=
    I.lstUpd hp ho (mapSeq_set its n j u) (r.set rv j) (by rw [List.length_set]; exact hz) s.toks
  by_cases h0 : 0 ≤ k
  · have hk : k.toNat = j := by
      rw [seqIndex_of h0 h4] at h1
      exact Option.some.inj h1
    exact PySem.W.ki_setAt ho h0 (by lia) (by rw [List.size_toArray, ← hl]; exact h4) (by rw [hk]; exact ⟨_, I', q⟩)
  · have hk : (k + (its.toArray.size : Int)).toNat = j := by
      rw [seqIndex_neg (by lia) h3] at h1
      rw [List.size_toArray, ← hl]
      exact Option.some.inj h1
    exact PySem.W.ki_setBack ho (by lia) (by rw [List.size_toArray, ← hl]; exact h3) (by lia) (by rw [hk]; exact ⟨_, I', q⟩)
theorem slice_bounds (lo hi : Option Int) (n : Nat) : (sliceBounds lo hi none n).1 = ((HT.sIx n 0 lo : Nat) : Int) ∧ (sliceBounds lo hi none n).2.1 = ((HT.sIx n n hi : Nat) : Int) ∧ (sliceBounds lo hi none n).2.2 = 1 := by
  refine ⟨?_, ?_, rfl⟩
  · cases lo with
    | none => simp [sliceBounds, HT.sIx]
    | some i =>
      simp only [sliceBounds, HT.sIx, Option.getD_none, show (1 : Int) > 0 by decide, if_true]
      by_cases h : i < 0
      · simp only [h, if_true] <;> lia
      · simp only [h, if_false] <;> lia
  · cases hi with
    | none => simp [sliceBounds, HT.sIx]
    | some i =>
      simp only [sliceBounds, HT.sIx, Option.getD_none, show (1 : Int) > 0 by decide, if_true]
      by_cases h : i < 0
      · simp only [h, if_true] <;> lia
      · simp only [h, if_false] <;> lia
theorem slicePick_cut (its : List Value) (lo hi : Option Int) : slicePick its.toArray lo hi none = ((its.drop (HT.sIx its.length 0 lo)).take (HT.sIx its.length its.length hi - HT.sIx its.length 0 lo)).toArray := by
  obtain ⟨h1, h2, h3⟩ := slice_bounds lo hi its.toArray.size
  unfold slicePick
  rw [h1, h2, h3]
  simp only [sliceRange_one, pick_run, List.size_toArray] <;> rfl
def rSlL (K : PySem.W.Frag) : V → Option Int → Option Int → Hp → VK → Prop := fun x lo hi H Q => ∃ a xs, x = .ref a ∧ SqL K H a xs ∧ ∀ p, H p = none → Q (.ref p) (upd H p (.lst (cutV xs lo hi)))
theorem sl_list : SlR X (rSlL X.K) := by
  intro pins s σ H x v vl vu lo hi sl Q I rx hs pl pu h
  obtain ⟨a, xs, rfl, hx, q⟩ := h
  cases rx
  obtain ⟨its, r, ht, hz⟩ := I.list hx
  have hlen := r.length
  refine ⟨"list", _, slot_list_getitem.lookup, ht.isList.typeIs, ?_⟩
  refine wpAny_getItem_list_slice ht.isList hs pl pu .none (by simp) ?_ (by rw [List.size_toArray] <;> lia)
  rw [slicePick_cut, ← hlen]
  refine ⟨.ref s.heap.objs.size, _, I.laid (t' := s.toks) (o := .lst (cutV xs lo hi)) (fun b ob q => Heap.get?_push_of_some _ q) (Nat.le_refl _) ?_, rfl, q _ (I.hok.fresh (Nat.le_refl _))⟩
  exact ⟨Nat.le_trans (cutV_length xs lo hi) hz, _, 0, (r.drop (HT.sIx xs.length 0 lo)).take (HT.sIx xs.length xs.length hi - HT.sIx xs.length 0 lo), Heap.get?_push_size _ rfl⟩
def flatV : V → Bool
  | .non => true
  | .bl _ => true
  | .int _ => true
  | .str _ => true
  | _ => false
def eqV : V → V → Bool
  | .non, .non => true
  | .bl a, .bl b => a == b
  | .bl a, .int b => (if a then 1 else 0) == b
  | .int a, .bl b => a == (if b then 1 else 0)
  | .int a, .int b => a == b
  | .str a, .str b => a == b
  | _, _ => false
theorem eqAt_V {A : Around} {s : Shared} {y x : V} {u v : Value} (ry : RelV y u) (rx : RelV x v) (fy : flatV y = true) (fx : flatV x = true) : SeqAt.EqAt A s u v (eqV y x) := by
  cases y with
  | non =>
    cases ry
    cases x with
    | non => cases rx; exact SeqAt.EqAt.same _
    | bl b => cases rx; exact SeqAt.EqAt.none_bool b
    | int b => obtain ⟨t, rfl⟩ := rx; exact SeqAt.EqAt.none_int b t
    | str b => obtain ⟨t, rfl⟩ := rx; exact SeqAt.EqAt.none_str b t
    | _ => exact absurd (show false = true from fx) Bool.false_ne_true
  | bl a =>
    cases ry
    cases x with
    | non => cases rx; exact SeqAt.EqAt.bool_none a
    | bl b => cases rx; exact SeqAt.EqAt.bool_bool a b
    | int b => obtain ⟨t, rfl⟩ := rx; exact SeqAt.EqAt.bool_int a b t
    | str b => obtain ⟨t, rfl⟩ := rx; exact SeqAt.EqAt.bool_str a b t
    | _ => exact absurd (show false = true from fx) Bool.false_ne_true
  | int a =>
    obtain ⟨t', rfl⟩ := ry
    cases x with
    | non => cases rx; exact SeqAt.EqAt.int_none a t'
    | bl b => cases rx; exact SeqAt.EqAt.int_bool a t' b
    | int b => obtain ⟨t, rfl⟩ := rx; exact SeqAt.EqAt.int_int a t' b t
    | str b => obtain ⟨t, rfl⟩ := rx; exact SeqAt.EqAt.int_str a t' b t
    | _ => exact absurd (show false = true from fx) Bool.false_ne_true
  | str a =>
    obtain ⟨t', rfl⟩ := ry
    cases x with
    | non => cases rx; exact SeqAt.EqAt.str_none a t'
    | bl b => cases rx; exact SeqAt.EqAt.str_bool a t' b
    | int b => obtain ⟨t, rfl⟩ := rx; exact SeqAt.EqAt.str_int a t' b t
    | str b => obtain ⟨t, rfl⟩ := rx; exact SeqAt.EqAt.str_str a t' b t
    | _ => exact absurd (show false = true from fx) Bool.false_ne_true
  | _ => exact absurd (show false = true from fy) Bool.false_ne_true
def eqU (x : V) (u : Value) : Bool := match u with
  | .none => eqV .non x
  | .bool b => eqV (.bl b) x
  | .int i _ => eqV (.int i) x
  | .str z _ => eqV (.str z) x
  | _ => false
theorem eqU_of {x y : V} {u : Value} (r : RelV y u) (f : flatV y = true) : eqU x u = eqV y x := by
  cases y with
  | non => cases r; rfl
  | bl b => cases r; rfl
  | int i => obtain ⟨t, rfl⟩ := r; rfl
  | str z => obtain ⟨t, rfl⟩ := r; rfl
  | _ => exact absurd (show false = true from f) Bool.false_ne_true
theorem any_eqU {x : V} : ∀ {xs : List V} {us : List Value}, Vals xs us → xs.all flatV = true → us.any (eqU x) = xs.any fun y => eqV y x
  | _, _, .nil, _ => rfl
  | y :: xs, u :: us, .cons r t, f => by
    rw [List.all_cons, Bool.and_eq_true] at f
    rw [List.any_cons, List.any_cons, eqU_of r f.1, any_eqU t f.2]
theorem mem_eqAt {A : Around} {s : Shared} {x : V} {v : Value} (rx : RelV x v) (fx : flatV x = true) : ∀ {xs : List V} {us : List Value}, Vals xs us → xs.all flatV = true → ∀ u ∈ us, SeqAt.EqAt A s u v (eqU x u)
  | _, _, .nil, _ => fun u hu => by cases hu
  | y :: xs, u :: us, .cons r t, f => fun u' hu => by
    rw [List.all_cons, Bool.and_eq_true] at f
    rcases List.mem_cons.mp hu with rfl | hu
    · rw [eqU_of r f.1]; exact eqAt_V r rx f.1 fx
    · exact mem_eqAt rx fx t f.2 u' hu
def inV (x : V) (xs : List V) : Bool := xs.any fun y => eqV y x
def rIn (K : PySem.W.Frag) (neg : Bool) : R2 := fun x y H Q => ∃ p xs, y = .ref p ∧ (SqL K H p xs ∨ SqT K H p xs) ∧ flatV x = true ∧ xs.all flatV = true ∧ Q (.bl (if neg then !inV x xs else inV x xs)) H
theorem op_in_seq : OpR X (compareOp .In) (rIn X.K false) := by
  intro pins s σ H x y v u Q I rx ry h
  obtain ⟨p, xs, rfl, hq, fx, fs, q⟩ := h
  cases ry
  rcases hq with hq | hq
  · obtain ⟨its, r, pl, hz⟩ := I.list hq
    refine SeqAt.in_listAt (eqU x) pl.isList (fun w hw => mem_eqAt rx fx r fs w (by simpa using hw)) ⟨.bl _, H, I, rfl, ?_⟩
    rw [show its.toArray.any (eqU x) = its.any (eqU x) by simp, any_eqU r fs]
    exact q
  · obtain ⟨its, r, pl, hz⟩ := I.tuple hq
    refine SeqAt.in_tupleAt (eqU x) pl (fun w hw => mem_eqAt rx fx r fs w (by simpa using hw)) ⟨.bl _, H, I, rfl, ?_⟩
    rw [show its.toArray.any (eqU x) = its.any (eqU x) by simp, any_eqU r fs]
    exact q
theorem op_notIn_seq : OpR X (compareOp .NotIn) (rIn X.K true) := by
  intro pins s σ H x y v u Q I rx ry h
  obtain ⟨p, xs, rfl, hq, fx, fs, q⟩ := h
  cases ry
  rcases hq with hq | hq
  · obtain ⟨its, r, pl, hz⟩ := I.list hq
    refine SeqAt.notIn_listAt (eqU x) pl.isList (fun w hw => mem_eqAt rx fx r fs w (by simpa using hw)) ⟨.bl _, H, I, rfl, ?_⟩
    rw [show its.toArray.any (eqU x) = its.any (eqU x) by simp, any_eqU r fs]
    exact q
  · obtain ⟨its, r, pl, hz⟩ := I.tuple hq
    refine SeqAt.notIn_tupleAt (eqU x) pl (fun w hw => mem_eqAt rx fx r fs w (by simpa using hw)) ⟨.bl _, H, I, rfl, ?_⟩
    rw [show its.toArray.any (eqU x) = its.any (eqU x) by simp, any_eqU r fs]
    exact q
theorem call_list_of : CallR X (.type "list") (fun xs H Q => ∃ p ys, xs = [.ref p] ∧ (SqL X.K H p ys ∨ SqT X.K H p ys) ∧ ∀ l, H l = none → Q (.ref l) (upd H l (.lst ys))) := by
  intro pins s σ H xs us Q I r h
  obtain ⟨p, ys, rfl, hq, q⟩ := h
  obtain ⟨u, rfl, rx⟩ := vals1 r
  cases rx
  have fin : ∀ (its : List Value), Vals ys its → ys.length ≤ sizeLine → ∀ (h' : Heap) (c' : Nat), (∀ b o', s.heap.get? b = some o' → h'.get? b = some o') →
      h'.get? s.heap.objs.size = some { cls := .type "list", dict := none, data := .seq its.toArray c', slots := #[] } → EP X pins σ Q (.ref s.heap.objs.size) { s with heap := h' } := fun its r' hz h' c' kp e =>
    ⟨.ref s.heap.objs.size, _, I.laid (t' := s.toks) kp (Nat.le_refl _) (show ObjOk X.prog X.w _ h' _ (.lst ys) from ⟨hz, its, c', r', e⟩), rfl, q _ (I.hok.fresh (Nat.le_refl _))⟩
  rcases hq with hq | hq
  · obtain ⟨its, r', pl, hz⟩ := I.list hq
    have hlen := r'.length
    obtain ⟨o, ho, hc, n, hd⟩ := pl.isList
    exact call_list_seq p (.inl rfl) ho hc hd (fun h' c' kp e => fin its r' hz h' c' kp e) (by simp only [List.size_toArray] <;> lia)
  · obtain ⟨its, r', pl, hz⟩ := I.tuple hq
    have hlen := r'.length
    obtain ⟨o, ho, hc, n, hd⟩ := pl
    exact call_list_seq p (.inr rfl) ho hc hd (fun h' c' kp e => fin its r' hz h' c' kp e) (by simp only [List.size_toArray] <;> lia)
theorem call_tuple_of : CallR X (.type "tuple") (fun xs H Q => ∃ p ys, xs = [.ref p] ∧ ((SqL X.K H p ys ∧ ∀ l, H l = none → Q (.ref l) (upd H l (.tup ys))) ∨ (SqT X.K H p ys ∧ Q (.ref p) H))) := by
  intro pins s σ H xs us Q I r h
  obtain ⟨p, ys, rfl, h⟩ := h
  obtain ⟨u, rfl, rx⟩ := vals1 r
  cases rx
  rcases h with ⟨hq, q⟩ | ⟨hq, q⟩
  · obtain ⟨its, r', pl, hz⟩ := I.list hq
    have hlen := r'.length
    refine call_tuple_list pl.isList (fun h' kp => ?_) (by simp only [List.size_toArray] <;> lia)
    have I1 : Inv X pins σ H { s with heap := h' } := I.kept (t' := s.toks) kp
    have I2 : Inv X pins σ (upd H h'.objs.size (.tup ys)) { s with heap := h'.push { cls := .type "tuple", data := .seq its.toArray } } :=
      I1.laid (t' := s.toks) (fun b o e => Heap.get?_push_of_some _ e) (Nat.le_refl _) (show ObjOk X.prog X.w _ _ _ (.tup ys) from ⟨hz, its, r', IsTupN.new _ _⟩)
    exact ⟨.ref h'.objs.size, _, I2, rfl, q _ (I1.hok.fresh (Nat.le_refl _))⟩
  · obtain ⟨its, r', pl, hz⟩ := I.tuple hq
    exact call_tuple_same pl ⟨.ref p, H, I, rfl, q⟩
def tyV (K : PySem.W.Frag) (T : String) (x : V) (H : Hp) : Prop := match x with
  | .str _ => T = "str"
  | .int _ => T = "int"
  | .ref p => (T = "list" ∧ ∃ xs, SqL K H p xs) ∨ (T = "tuple" ∧ ∃ o, K.lookup p = some o ∧ o.cls = .type "tuple" ∧ o.dict = none) ∨
      (T = "dict" ∧ ((∃ kvs, H p = some (.dK kvs)) ∨ ∃ kvs, H p = some (.dT kvs))) ∨ (T = "set" ∧ ∃ S n, H p = some (.set S n))
  | _ => False
theorem tyV_is {pins : List (Addr × Obj)} {σ : St} {H : Hp} {s : Shared} {T : String} {x : V} {v : Value} (I : Inv X pins σ H s) (r : RelV x v) (ty : tyV X.K T x H) :
    s.TypeIs v T ∧ ∀ a, v = .ref a → ∃ ob, s.heap.get? a = some ob ∧ ob.dict = none := by
  cases x with
  | str z =>
    obtain ⟨t, rfl⟩ := r
    cases (show T = "str" from ty)
    exact ⟨typeIs_str s z t, fun _ e => nomatch e⟩
  | int i =>
    obtain ⟨t, rfl⟩ := r
    cases (show T = "int" from ty)
    exact ⟨typeIs_int s i t, fun _ e => nomatch e⟩
  | ref p =>
    cases r
    rcases ty with ⟨rfl, xs, hq⟩ | ⟨rfl, o, hk, hc, hd⟩ | ⟨rfl, hk⟩ | ⟨rfl, S, n, hk⟩
    · obtain ⟨its, _, pl, _⟩ := I.list hq
      refine ⟨pl.isList.typeIs, fun a e => ?_⟩
      cases e
      obtain ⟨o, n, e, c, hd, _⟩ := pl
      exact ⟨o, e, hd⟩
    · refine ⟨⟨o, I.kIn p o hk, hc⟩, fun a e => ?_⟩
      cases e
      exact ⟨o, I.kIn _ o hk, hd⟩
    · have z : ∃ o, s.heap.get? p = some o ∧ o.ExactDict := by
        rcases hk with ⟨kvs, hk⟩ | ⟨kvs, hk⟩
        · obtain ⟨_, _, _, _, o, _, _, e, ex, _⟩ := I.hok p _ hk
          exact ⟨o, e, ex⟩
        · obtain ⟨_, _, _, _, o, _, _, e, ex, _⟩ := I.hok p _ hk
          exact ⟨o, e, ex⟩
      obtain ⟨o, e, ex⟩ := z
      refine ⟨⟨o, e, ex.1⟩, fun a e2 => ?_⟩
      cases e2
      exact ⟨o, e, ex.2.1⟩
    · obtain ⟨o, _, _, _, e, ex, _⟩ := I.hok p _ hk
      refine ⟨⟨o, e, ex.1⟩, fun a e2 => ?_⟩
      cases e2
      exact ⟨o, e, ex.2.1⟩
  | _ => exact False.elim ty
def tBM0 (K : PySem.W.Frag) (T : String) (r : V → List V → Hp → VK → Prop) (to : TE) : TE := fun σ H Q => to σ H fun x H1 => tyV K T x H1 ∧ r x [] H1 Q
def tBM (K : PySem.W.Frag) (T : String) (r : V → List V → Hp → VK → Prop) (to : TE) (t : TA) : TE := fun σ H Q => to σ H fun x H1 => tyV K T x H1 ∧ t σ H1 fun xs H2 => r x xs H2 Q
variable {o e : Expr} {es : List Expr} {to : TE} {t : TA} {name : Str} {apos cpos : Pos} {T id : String} {r : V → List V → Hp → VK → Prop}
theorem pe_bm0 (pa : PlainAttrs T) (slot : Slot T name id) (hty : typeOf (.builtin id) = pure (.type "method_descriptor")) (hm : MtR X id r) (ho : PE X o to)
    (hbase : attributeBase o name X.env (eval o X.env) = eval o X.env := by rfl) (hline : (apos.endLine == cpos.line) = true := by rfl) : PE X (.Call (.Attribute o name apos) [] [] cpos) (tBM0 X.K T r to) := by
  intro pins s σ H Q I h
  refine wpAny_Call_method0_late hbase hline (thn (ho pins s σ H _ I h) fun v s1 ⟨x, H1, I1, r1, ty, q1⟩ => ?_)
  obtain ⟨h1, h2⟩ := tyV_is I1 r1 ty
  exact ⟨T, id, pa, slot, hty, h1, h2, Calls.callWith_builtin rfl (PySem.evalArgs_none (hm pins s1 σ H1 x [] v [] Q I1 r1 .nil q1))⟩
theorem pe_bm (pa : PlainAttrs T) (slot : Slot T name id) (hty : typeOf (.builtin id) = pure (.type "method_descriptor")) (hm : MtR X id r) (ho : PE X o to) (ha : PA X (e :: es) t)
    (hbase : attributeBase o name X.env (eval o X.env) = eval o X.env := by rfl)
    (hfew : ((backTo cpos (starEach (e :: es) X.env)).all (fun x => !x.1) && (backToKw cpos (keywordEach [] X.env)).all (fun x => x.1.isSome)
      && decide ((e :: es).length + ([] : List Keyword).length + (if ([] : List Keyword).isEmpty then 0 else 1) < 30)) = true := by rfl)
    (hline : (apos.endLine == cpos.line) = true := by rfl) (hs : starEach (e :: es) X.env = (false, eval e X.env) :: starEach es X.env := by rfl) (hplain : (backTo cpos (starEach es X.env)).any (·.1) = false := by rfl) :
    PE X (.Call (.Attribute o name apos) (e :: es) [] cpos) (tBM X.K T r to t) := by
  intro pins s σ H Q I h
  refine wpAny_Call_method_late hbase hfew hline rfl (thn (ho pins s σ H _ I h) fun v s1 ⟨x, H1, I1, r1, ty, q1⟩ => ?_)
  obtain ⟨h1, h2⟩ := tyV_is I1 r1 ty
  refine ⟨T, id, pa, slot, hty, h1, h2, ?_⟩
  have hA := ha cpos pins s1 σ H1 _ I1 q1
  rw [hs] at hA ⊢
  refine Calls.callWith_builtin (by show (false || (backTo cpos (starEach es X.env)).any (·.1)) = false; rw [hplain] <;> rfl) (Calls.evalArgs_plain ?_)
  exact thn hA fun us s2 ⟨vs, H2, I2, r2, q2⟩ => hm pins s2 σ H2 x vs v us Q I2 r1 r2 q2
/- xs.append(e), list.index on a module's tuple .. are MtR facts of 06m -/
end
end L2
namespace L2
open PySem PySem.Spec PyProof.Rows
def MtM (X : Cx) (id : String) (r : V → List V → Hp → VK → Prop) : Prop :=
  ∀ (pins : List (Addr × Obj)) (s : Shared) (σ : St) (H : Hp) (x : V) (xs : List V) (v : Value) (us : List Value) (Q : VK), Inv X pins σ H s → RelV x v → Vals xs us → r x xs H Q →
    wpAny (model X.prog X.w) X.A (call (.builtin id) (v :: us)) (EP X pins σ Q) X.xe s
theorem Vals.one : ∀ {x : V} {us : List Value}, Vals [x] us → ∃ u, us = [u] ∧ RelV x u
  | _, _, .cons r .nil => ⟨_, rfl, r⟩
theorem Vals.zero : ∀ {us : List Value}, Vals [] us → us = []
  | _, .nil => rfl
theorem Vals.dropLast {xs : List V} {us : List Value} (h : Vals xs us) : Vals xs.dropLast us.dropLast := by
  induction h with
  | nil => exact .nil
  | cons r t ih =>
    cases t with
    | nil => exact .nil
    | cons q t' => exact .cons r ih
theorem Vals.rep {xs : List V} {us : List Value} (h : Vals xs us) : ∀ k : Nat, Vals (List.replicate k xs).flatten (List.replicate k us).flatten
  | 0 => .nil
  | k + 1 => by
    rw [List.replicate_succ, List.replicate_succ, List.flatten_cons, List.flatten_cons]
    exact Vals.append h (Vals.rep h k)
theorem erase_last {α : Type} (l : List α) : l.eraseIdx (l.length - 1) = l.dropLast := by
  induction l with
  | nil => rfl
  | cons a r ih =>
    cases r with
    | nil => rfl
    | cons b r =>
      have e : (a :: b :: r).length - 1 = ((b :: r).length - 1) + 1 := by
        have h1 : (a :: b :: r).length = r.length + 2 := rfl
        have h2 : (b :: r).length = r.length + 1 := rfl
        lia
      rw [e, List.eraseIdx_cons_succ, ih]
      all_goals rfl
theorem foldl_rep (its : List Value) : ∀ (k : Nat) (acc : List Value),
    List.foldl (fun x1 x2 => x1 ++ x2) acc.toArray (List.replicate k its.toArray) = (acc ++ (List.replicate k its).flatten).toArray
  | 0, acc => by simp
  | k + 1, acc => by
    have e : acc.toArray ++ its.toArray = (acc ++ its).toArray := by simp
    have e2 : (acc ++ its) ++ (List.replicate k its).flatten = acc ++ (List.replicate (k + 1) its).flatten := by
      rw [List.replicate_succ, List.flatten_cons, List.append_assoc]
    rw [← e2, ← foldl_rep its k (acc ++ its), ← e, List.replicate_succ, List.foldl_cons]
section
variable {X : Cx} {pins : List (Addr × Obj)} {σ : St} {H : Hp} {s : Shared} {l b : Addr} {xs ys zs : List V}
theorem Inv.lset {its its' : List Value} {n : Nat} {f : Array Value → Array Value} {t' : Nat} (I : Inv X pins σ H s) (hH : H l = some (.lst xs))
    (e : s.heap.get? l = some { cls := .type "list", data := .seq its.toArray n }) (hf : f its.toArray = its'.toArray) (hv : Vals ys its') (hz : ys.length ≤ sizeLine) :
    Inv X pins σ (upd H l (.lst ys)) { s with heap := s.heap.update l (Obj.mapSeq f), toks := t' } := by
  have q := PySem.IsL.update e f
  rw [hf] at q
  refine I.write (x := l) (e := l) (by rw [hH]; exact trivial) (.inl rfl) (fun b' u hb hu => (Heap.get?_update_other s.heap (Obj.mapSeq f) (Ne.symm hb)).trans hu) ⟨_, q⟩ ?_
  exact ⟨hz, its', _, hv, q⟩
theorem Inv.lnew {its : List Value} {t' : Nat} (I : Inv X pins σ H s) (hv : Vals ys its) (hz : ys.length ≤ sizeLine) :
    Inv X pins σ (upd H s.heap.objs.size (.lst ys)) { s with heap := s.heap.push { cls := .type "list", data := .seq its.toArray }, toks := t' } :=
  I.laid (fun _ _ q => Heap.get?_push_of_some _ q) (Nat.le_refl _) ⟨hz, its, 0, hv, Heap.get?_push_size _ rfl⟩
theorem Inv.fresh (I : Inv X pins σ H s) : H s.heap.objs.size = none := I.hok.fresh (Nat.le_refl _)
theorem Inv.lstM (I : Inv X pins σ H s) (hH : H l = some (.lst xs)) : xs.length ≤ sizeLine ∧ ∃ (its : List Value) (n : Nat), Vals xs its ∧ xs.length = its.length ∧ s.heap.get? l = some { cls := .type "list", data := .seq its.toArray n } := by
  obtain ⟨z, its, n, r, e⟩ := I.hok l _ hH
  exact ⟨z, its, n, r, r.length, e⟩
end
section
variable {X : Cx}
def rAppend : V → List V → Hp → VK → Prop := fun x vs H Q => ∃ l xs y, x = .ref l ∧ vs = [y] ∧ H l = some (.lst xs) ∧ xs.length < sizeLine ∧ Q .non (upd H l (.lst (xs ++ [y])))
theorem mt_append : MtM X "list.append" rAppend := by
  intro pins s σ H x vs v us Q I rx rv h
  obtain ⟨l, xs, y, rfl, rfl, hH, hz, q⟩ := h
  cases rx
  obtain ⟨u, rfl, ru⟩ := rv.one
  obtain ⟨z, its, n, r, hl, e⟩ := I.lstM hH
  refine call_meets F.slot_list_append ⟨_, e, rfl⟩ F.entry_list_append (F.args_list_append_2 _ _) (PySem.list_append l its.toArray n u (by rw [List.size_toArray]; lia)) ⟨e, ?_⟩
  refine ⟨.non, _, I.lset (its' := its ++ [u]) hH e (by simp) (r.append (.cons ru .nil)) ?_, rfl, q⟩
  rw [List.length_append, List.length_singleton]
  lia
def rPop : V → List V → Hp → VK → Prop := fun x vs H Q => ∃ l xs y, x = .ref l ∧ vs = [] ∧ H l = some (.lst xs) ∧ xs[xs.length - 1]? = some y ∧ Q y (upd H l (.lst xs.dropLast))
theorem mt_pop : MtM X "list.pop" rPop := by
  intro pins s σ H x vs v us Q I rx rv h
  obtain ⟨l, xs, y, rfl, rfl, hH, hy, q⟩ := h
  cases rx
  have hus := rv.zero
  subst hus
  obtain ⟨z, its, n, r, hl, e⟩ := I.lstM hH
  obtain ⟨u, hu, ru⟩ := r.get hy
  have hy' : its.toArray[its.toArray.size - 1]? = some u := by
    show its.toArray[its.length - 1]? = some u
    rw [← Array.getElem?_toList, ← hl]
    exact hu
  refine call_meets F.slot_list_pop ⟨_, e, rfl⟩ F.entry_list_pop (F.args_list_pop_1 _) (MeetsSeq.list_pop_last l its.toArray n u hy' (by rw [List.size_toArray]; lia)) ⟨e, ?_⟩
  refine ⟨y, _, I.lset (its' := its.dropLast) hH e ?_ r.dropLast ?_, ru, q⟩
  · show its.toArray.eraseIdxIfInBounds (its.toArray.size - 1) = its.dropLast.toArray
    rw [List.size_toArray, List.eraseIdxIfInBounds_toArray, erase_last]
  · rw [List.length_dropLast]
    lia
def rCat : R2 := fun x y H Q => ∃ l b xs zs, x = .ref l ∧ y = .ref b ∧ H l = some (.lst xs) ∧ H b = some (.lst zs) ∧ xs.length + zs.length ≤ sizeLine ∧ ∀ p, H p = none → Q (.ref p) (upd H p (.lst (xs ++ zs)))
theorem op_cat : OpR X (binaryOp .Add) rCat := by
  intro pins s σ H x y v u Q I rx ry h
  obtain ⟨l, b, xs, zs, rfl, rfl, hH, hB, hz, q⟩ := h
  cases rx
  cases ry
  obtain ⟨z, its, n, r, hl, e⟩ := I.lstM hH
  obtain ⟨z2, its2, n2, r2, hl2, e2⟩ := I.lstM hB
  refine PySem.P.add_list e e2 ?_ (by rw [List.size_toArray, List.size_toArray]; lia)
  have ea : its.toArray ++ its2.toArray = (its ++ its2).toArray := by simp
  rw [ea]
  exact ⟨.ref _, _, I.lnew (t' := s.toks) (r.append r2) (by rw [List.length_append]; lia), rfl, q _ I.fresh⟩
theorem len_rep {α : Type} (xs : List α) (k : Nat) : (List.replicate k xs).flatten.length = k * xs.length := by
  induction k with
  | zero => simp
  | succ k ih => rw [List.replicate_succ, List.flatten_cons, List.length_append, ih, Nat.succ_mul, Nat.add_comm]
end
section
variable {prog : Program} {w : World} {A : Around} {E : Value → Shared → Prop} {s : Shared}
set_option maxRecDepth 100000 in
end
section
variable {X : Cx}
end
end L2
namespace Att
open PySem PySem.W PySem.Calls PyProof.Rows
theorem ints_of_wellAll {P : Params} {h : Heap} : ∀ (ns : List Int) (vs : List Value), WellAll P h vs (ns.map WData.int) → IntsAre vs ns := by
  intro ns
  induction ns with
  | nil =>
    intro vs w
    rw [List.map_nil] at w
    cases w
    exact .nil
  | cons n ns ih =>
    intro vs w
    rw [List.map_cons] at w
    cases w with
    | cons a b =>
      cases a
      exact .cons _ _ (ih _ b)
theorem script_of {l : OpenLaw} {n : Nat} (hn : l.most = some n) {P : Params} {h : Heap} {args : List WData} {vals : List Value}
    (hpre : l.row.toRowW.claim.pre args = true) (hwl : WellAll P h vals args) :
    ∃ a vs ns, vals = [Value.ref a] ∧ args = [WData.list (ns.map WData.int)] ∧ h.get? a = some { cls := .type "list", data := .seq vs.toArray } ∧ IntsAre vs ns ∧ ns.length ≤ n := by
  have hsh : WShape.hasAll [] args [.list .int] = true := (pre_splitW hpre).1
  have hc : l.pre.holds [] { args := args } = true := (pre_splitW hpre).2
  obtain ⟨d, r, rfl, h1, h2⟩ := hasAllW_cons hsh
  obtain rfl := hasAllW_nil h2
  obtain ⟨xs, rfl, h3⟩ := hasW_list h1
  obtain ⟨ns, rfl⟩ := items_int h3
  have hlen : ns.length ≤ n := by
    unfold OpenLaw.pre at hc
    have h4 : (WTm.not (.lt (.lit (.int (n : Int))) (.len (.arg 0)))).holds [] { args := [.list (ns.map .int)] } = true := by
      have h4 := (holds_andW hc).1
      rw [hn] at h4
      exact h4
    have h5 := condW_of h4 (w_not (w_lt w_lit (w_len_list (w_arg rfl))))
    rw [List.length_map] at h5
    refine Nat.le_of_not_lt fun q => ?_
    have q' : (n : Int) < ((ns.length : Nat) : Int) := by lia
    first
      | (rw [decide_eq_true q'] at h5; exact absurd h5 (by decide))
      | (simp at h5; lia)
  cases hwl with
  | cons w1 w2 =>
    cases w2
    cases w1 with
    | list ho hall => exact ⟨_, _, ns, rfl, rfl, ho, ints_of_wellAll ns _ hall, hlen⟩
theorem post_true (l : OpenLaw) (args : List WData) : l.row.toRowW.claim.post args (.bool true) args = true :=
  postW_of (r := l.row.toRowW) (X := (true == true))
    (show WShape.has [] (.bool true) .bool = true by first | rfl | decide | simp [WShape.has, WShape.arms, WShape.armsAll])
    (show (WTm.eq .res (.lit (.bool true))).value [] { args := args, res := some (.bool true), after := args } = some (.bool (true == true)) from w_eq_bool (w_res rfl) w_lit) rfl
theorem attach_call {l : OpenLaw} {n : Nat} {q : Program} {loose : List Str} {XP : (Str → Option Value) → Heap → Prop} {YP : World → Heap → Prop} {d : DefRec}
    (hn : l.most = some n) (hdf : d.params.defaults = [])
    (call : ∀ (w : World) (s₀ s₁ : Shared) (mg mb : Str → Option Value) (fa : Addr) (o : Obj) (pm cd doc : Value) (a : Addr) (vs : List Value) (ns : List Int),
      Ground q loose [] XP w s₀ mg mb s₁.heap → YP w s₁.heap →
      s₁.heap.get? fa = some o → o.data = .func (docDef d.name d.params d.body d.scope pm cd doc) → s₁.heap.CodeRec cd d.name → mg d.name = some (.ref fa) →
      s₁.heap.get? a = some { cls := .type "list", data := .seq vs.toArray } → IntsAre vs ns → ns.length ≤ n → s₁.gens = #[] →
      codeAny (model l.prog w) callerA (.call (.ref fa) ⟨[.ref a], []⟩) (fun r s' => r = .ok (.ret (.bool true)) ∧ OldK s₁.heap s'.heap ∧ s'.os = s₁.os ∧ AllBare s'.gens) s₁) :
    WalkO q loose XP YP l.row.toRowW d [] (fun f vs => PySem.call f vs) := by
  intro w s₀ s₁ mg mb G Y fa o pm cd doc dV kV ho hd hcd hD hmg hg args vals as hpre hlay hrd hwl hlo
  obtain rfl : dV = .none := Dflts.none hD hdf
  obtain rfl : kV = .none := Dflts.noKw hD
  obtain ⟨a, vs, ns, rfl, rfl, hobj, hints, hlen⟩ := script_of hn hpre hwl
  refine enter_call (codeAny_mono (call w s₀ s₁ mg mb fa o pm cd doc a vs ns G Y ho (fd_plain hd) hcd hmg hobj hints hlen hg) fun r s' hq => ?_)
  obtain ⟨rfl, h2, h3, h4⟩ := hq
  exact ⟨.inl ⟨.bool true, .bool true, [], rfl, fun _ => rfl, .bool true, post_true l _, fun _ => ⟨List.Pairwise.nil, fun _ hm => (nomatch hm)⟩⟩, h2, h3, h4⟩
section
variable {prog : Program} {w : World} {A : Around} {E : Value → Shared → Prop} {s : Shared} {K : Frag}
end
end Att
namespace L2
open PySem PySem.Spec PyProof.Rows
theorem vals_ints : ∀ {vs : List Value} {ns : List Int}, IntsAre vs ns → Vals (ns.map V.int) vs
  | _, _, .nil => .nil
  | _, _, .cons n t h => .cons ⟨t, rfl⟩ (vals_ints h)
def Only (H : Hp) : Prop := ∀ b, H b = none ∨ ∃ o xs, H b = some (.frz o (.lst xs))
theorem law_call {P : Program} {w : World} {K : PySem.W.Frag} {mg mb : Str → Option Value} {CX : CXT} {k : Nat} {fa a : Addr} {fd : FuncData} {x : Str} {sp : Sp} {s₁ : Shared} {vs : List Value} {ns : List Int}
    (KX : K.In s₁.heap) (hns : s₁.heap.Ns mainGlobals mg) (hb : s₁.heap.Ns builtinsNs mb) (hbb : ∀ x : Str, x ≠ "__name__" → mb x = bootBuiltins x) (hlim : s₁.heap.NoLimit) (hg : s₁.gens = #[])
    (ha : s₁.heap.get? a = some { cls := .type "list", data := .seq vs.toArray }) (hi : IntsAre vs ns) (hl : ns.length ≤ sizeLine) (hr : Room k callerA)
    (F : ∀ base : Heap, K.In base → base.Ns mainGlobals mg → FnOk P w K mg base CX k fa fd [x] sp) (hbind : ∀ (s : Shared) (u : Value), BindsTo s fd ⟨[u], []⟩ [(x, u)])
    (hsp : ∀ H : Hp, Only H → SqL K H a (ns.map V.int) → sp [.ref a] H (fun v _ => v = .bl true) fun _ _ _ => False)
    (hCX : ∀ H e s', CX [] H s₁ (fun _ _ _ => False) e s' → False) :
    codeAny (model P w) callerA (.call (.ref fa) ⟨[.ref a], []⟩) (fun r s' => r = .ok (.ret (.bool true)) ∧ OldK s₁.heap s'.heap ∧ s'.os = s₁.os ∧ AllBare s'.gens) s₁ := by
  have rv := vals_ints hi
  have lenV := hi.length
  have core : ∀ H : Hp, Only H → SqL K H a (ns.map V.int) → HOk P w H s₁.heap → (∀ b, H b ≠ none → b = a) → (H a ≠ none → K.lookup a = none) →
      codeAny (model P w) callerA (.call (.ref fa) ⟨[.ref a], []⟩) (fun r s' => r = .ok (.ret (.bool true)) ∧ OldK s₁.heap s'.heap ∧ s'.os = s₁.os ∧ AllBare s'.gens) s₁ := by
    intro H hO hS hok hA hK
    have base_of : ∀ {b : Addr} {o : Obj}, s₁.heap.get? b = some o → H b = none → (hidT s₁.heap H).get? b = some o := fun e n => hidT_get e n
    have noA : ∀ {b : Addr} {o : Obj} {es : Array DictEntry} {ep : Nat}, s₁.heap.get? b = some o → o.data = .dict es ep → H b = none := fun {b o es ep} e d => by
      cases q : H b with
      | none => rfl
      | some u =>
        have e' : b = a := hA b (by rw [q]; simp)
        subst e'
        rw [ha] at e; cases e
        have d' : Data.seq vs.toArray _ = Data.dict es ep := d
        cases d'
    have nsK : ∀ {b : Addr} {m : Str → Option Value}, s₁.heap.Ns b m → (hidT s₁.heap H).Ns b m := fun {b m} ⟨o, es, ep, e, d, r⟩ => ⟨o, es, ep, base_of e (noA e d), d, r⟩
    have hKb : K.In (hidT s₁.heap H) := fun b o e => base_of (KX b o e) (by
      cases q : H b with
      | none => rfl
      | some u =>
        have e' : b = a := hA b (by rw [q]; simp)
        subst e'
        rw [hK (by rw [q]; simp)] at e; cases e)
    have hM : Mod K mg (hidT s₁.heap H) := ⟨hKb, nsK hns, ⟨mb, nsK hb, hbb⟩, let ⟨mc, h1, h2⟩ := hlim; ⟨mc, nsK h1, h2⟩⟩
    have e0 : Env0 P w K mg (hidT s₁.heap H) callerA [] s₁ H := ⟨rfl, hM, fun b o e => of_hidT e, Nat.le_of_eq (hidT_size _ _), trivial, fun b hb => absurd (show b ∈ ([] : List Addr) from hb) (by simp), hok, .of_eq hg⟩
    refine codeAny_mono ((F _ hKb (nsK hns)).run callerA [] s₁ H ⟨[.ref a], []⟩ [.ref a] [.ref a] _ _ hr e0 (hbind s₁ (.ref a)) (.cons rfl .nil) (hsp H hO hS)) fun r s' h => ?_
    cases r with
    | error e => exact (hCX H e s' h).elim
    | ok fl =>
      cases fl with
      | next => exact False.elim h
      | brk => exact False.elim h
      | cont => exact False.elim h
      | ret u =>
        obtain ⟨v, H', os, bare, un, hok', r', q⟩ := h
        have q' : v = .bl true := q
        subst q'
        obtain rfl : u = Value.bool true := r'
        refine ⟨rfl, OldK.of_keep fun b o e => ?_, os, bare⟩
        cases q : H b with
        | none => exact un.keep b o e q (by intro z; exact absurd (show b ∈ ([] : List Addr) from z) (by simp)) (by simp)
        | some u =>
          rcases hO b with z | ⟨ob, xs, z⟩
          · rw [q] at z; cases z
          · have z2 := un.frzs b ob _ z
            obtain ⟨e1, _⟩ := hok b _ z
            obtain ⟨e2, _⟩ := hok' b _ z2
            rw [e] at e1; cases e1
            exact e2
  cases hk : K.lookup a with
  | some o =>
    have e := KX a o hk
    rw [ha] at e
    cases e
    refine core (fun _ => none) (fun _ => .inl rfl) (.inr ⟨_, vs.toArray, _, hk, rfl, rfl, rfl, by rw [List.size_toArray, lenV]; exact hl, by simpa using rv⟩) (fun b u z => by have z' : (none : Option HO) = some u := z; cases z') (fun b z => absurd rfl z) fun z => absurd rfl z
  | none =>
    refine core (fun b => if b = a then some (.frz { cls := .type "list", data := .seq vs.toArray } (.lst (ns.map V.int))) else none) (fun b => ?_) (.inl (.inr ⟨{ cls := .type "list", data := .seq vs.toArray }, if_pos rfl⟩)) (fun b u z => ?_) (fun b z => ?_) fun _ => hk
    · by_cases hb : b = a
      · exact .inr ⟨_, _, if_pos hb⟩
      · exact .inl (if_neg hb)
    · by_cases hb : b = a
      · have z' := (if_pos hb).symm.trans z
        cases z'
        subst hb
        exact ⟨ha, by rw [List.length_map]; exact hl, vs, _, rv, ha⟩
      · have z' := (if_neg hb).symm.trans z
        cases z'
    · by_cases hb : b = a
      · exact hb
      · exact absurd (if_neg hb) z
end L2
namespace L2
open PySem PySem.Spec PyProof.Rows
theorem walk_of {l : PySem.W.OpenLaw} {n k : Nat} {q : Program} {loose : List Str} {XP : (Str → Option Value) → Heap → Prop} {YP : World → Heap → Prop} {d : DefRec} {K : Params → PySem.W.Frag} {CX : World → CXT} {sp : World → Sp} {x : Str}
    (hn : l.most = some n) (hn2 : n ≤ sizeLine) (hdf : d.params.defaults = []) (hr : Room k callerA)
    (hY : ∀ (w : World) (h : Heap), YP w h → (K w.params).In h)
    (F : ∀ (w : World) (mg : Str → Option Value) (fa : Addr) (h : Heap), (K w.params).In h → h.Ns mainGlobals mg → mg d.name = some (.ref fa) →
      ∃ fd : FuncData, (∀ (s : Shared) (u : Value), BindsTo s fd ⟨[u], []⟩ [(x, u)]) ∧
        ∀ base : Heap, (K w.params).In base → base.Ns mainGlobals mg → FnOk l.prog w (K w.params) mg base (CX w) k fa fd [x] (sp w))
    (hsp : ∀ (w : World) (H : Hp) (a : Addr) (ns : List Int), ns.length ≤ n → Only H → SqL (K w.params) H a (ns.map V.int) → sp w [.ref a] H (fun v _ => v = .bl true) fun _ _ _ => False)
    (hCX : ∀ (w : World) (H : Hp) (s : Shared) (e : Value) (s' : Shared), CX w [] H s (fun _ _ _ => False) e s' → False) :
    PySem.W.WalkO q loose XP YP l.row.toRowW d [] (fun f vs => PySem.call f vs) := by
  refine Att.attach_call hn hdf fun w s₀ s₁ mg mb fa o pm cd doc a vs ns G Y ho hd hcd hmg hobj hints hlen hg => ?_
  have KX := hY w _ Y
  obtain ⟨fd, hb, hF⟩ := F w mg fa _ KX G.T.g hmg
  exact law_call KX G.T.g G.T.b G.T.builtins G.T.nolimit hg hobj hints (Nat.le_trans hlen hn2) hr hF hb (fun H hO hS => hsp w H a ns hlen hO hS) fun H e s' => hCX w H s₁ e s'
end L2
/- THE LAST THEOREM (shape; LID, My.* are yours):
   My.Adr: a structure of the addresses that your layer names (classes, functions); My.Txt K t: a structure (Prop) of the equations over K;
   My.txt_mk : {K} {implicit addresses ..} (e1 : nsIn K mainGlobals "law" = some (some (.ref f))) (e2 : K.lookup f = some ⟨oc, od, .func (fnOf "law" "law" params body scope dV kV doc pm an cdv ct), sl⟩) (e3 : codeIn K cdv "law" = true) .. : ∃ t, My.Txt K t
set_option maxRecDepth 100000 in
set_option maxHeartbeats 0 in
theorem PySem.Challenge.cw_LID_holds : PySem.Challenge.rw_LID.Holds := by
  w_on; o_law; k_head; (case hw => w_witness2)
  k_fill
  refine L2.walk_of (l := PySem.Challenge.rw_LID) (n := 63) (k := 40) (x := "script") (CX := fun w => ..) (sp := fun _ => My.sp_law) rfl (by decide) rfl ⟨rfl, by decide, by decide⟩ (fun w h Y => PySem.W.kIn_of Y) ?F ?S ?C
  case F =>
    intro w mg fa h KX G hmg
    have T : ∃ t, My.Txt (L2.KOf KX) t := by
      dsimp only [L2.KOf]                          -- K must stand as «<heap const> w.params» for k_is
      refine' My.txt_mk ?e1 ?e2 ?e3 ..
      (case e1 => PySem.W.k_is)                    -- in the order: a name -> its address -> its object -> its parts
      (case e2 => PySem.W.k_is)
      ..
    obtain ⟨t, T⟩ := T
    have e0 := hmg.symm.trans (PySem.W.mg_of KX G T.law)
    cases e0                                       -- fa is the law's own address
    exact ⟨_, fun s u => .of_eq rfl, fun base kb nb => My.law_fn T kb nb⟩     -- if «.of_eq rfl» comes too early: refine' ⟨_, ?b, fun base kb nb => My.law_fn T kb nb⟩; exact fun s u => .of_eq rfl
  case S => exact fun w H a ns hl hO hS => ..
  case C => exact ..
(the tactic k_is has no namespace: write k_is) -/
namespace L2
open PySem PySem.Spec PyProof.Rows
def defArgs (s : Stmt) : Arguments := match s with
  | .FunctionDef _ a _ _ _ _ _ _ _ _ => a
  | _ => { posonlyargs := [], args := [], vararg := none, kwonlyargs := [], kw_defaults := [], kwarg := none, defaults := [] }
def defBody (s : Stmt) : List Stmt := match s with
  | .FunctionDef _ _ b _ _ _ _ _ _ _ => b
  | _ => []
def defScope (s : Stmt) : Scope := match s with
  | .FunctionDef _ _ _ _ _ _ sc _ _ _ => sc
  | _ => { kind := .function, names := [], isGenerator := false, isCoroutine := false }
abbrev CX0 : CXT := fun _ _ _ _ _ _ => False
abbrev E0 : XK := fun _ _ _ => False
theorem pass0 {X : Cx} : Passes CX0 X E0 := fun _ _ _ _ _ _ _ h => h.elim
structure Fun (K : PySem.W.Frag) (x qual : Str) (st : Stmt) (f : Addr) (fd : FuncData) : Prop where
  ex : ∃ (oc : Value) (od : Option Addr) (kV doc pm : Value) (an : Option Addr) (cdv ct : Value) (osl : Array (Option Value)),
    fd = PySem.W.fnOf x qual (defArgs st) (defBody st) (defScope st) .none kV doc pm an cdv ct ∧ K.lookup f = some ⟨oc, od, .func fd, osl⟩ ∧ PySem.W.codeIn K cdv qual = true
  kp : PySem.W.keepIn K (.ref f) = true
section
variable {P : Program} {w : World} {K : PySem.W.Frag} {mg : Str → Option Value} {base : Heap}
theorem Fun.ok {x qual : Str} {st : Stmt} {f : Addr} {fd : FuncData} {N ps : List Str} {k : Nat} {sp : Sp} (F : Fun K x qual st f fd) (S : FnScope N ps (defScope st)) (len : ∀ vs H Q E, sp vs H Q E → vs.length = ps.length)
    (hbody : ∀ (cdv : Value) (A : Around) (outer : List Env) (s : Shared) (H : Hp) (vs : List V) (Q : VK) (E : XK), Room k (A.deeper (envOfC qual (defScope st) s.heap.objs.size f cdv)) → sp vs H Q E →
      ∃ t, PSs (cxOf CX0 P w K mg base N qual (defScope st) f cdv A outer s H E).nox (defBody st) t ∧ t { nx := fun _ H' => Q .non H', rt := Q } (start N vs) H) : FnOk P w K mg base CX0 (k + 1) f fd ps sp := by
  obtain ⟨oc, od, kV, doc, pm, an, cdv, ct, osl, rfl, lk, hcd⟩ := F.ex
  refine fn_of lk hcd S len fun A outer s H vs Q E hr hsp => ?_
  obtain ⟨t, h, q⟩ := hbody cdv A outer s H vs Q E hr hsp
  exact ⟨t, h.nox, q⟩
theorem Fun.binds {x qual : Str} {st : Stmt} {f : Addr} {fd : FuncData} {ps : List Str} (F : Fun K x qual st f fd)
    (h : ∀ (kV doc pm : Value) (an : Option Addr) (cdv ct : Value) (us : List Value), us.length = ps.length → bindArgs (PySem.W.fnOf x qual (defArgs st) (defBody st) (defScope st) .none kV doc pm an cdv ct) ⟨us, []⟩ = pure (ps.zip us)) : Binds K fd ps [] := by
  obtain ⟨oc, od, kV, doc, pm, an, cdv, ct, osl, rfl, lk, hcd⟩ := F.ex
  exact .all (h kV doc pm an cdv ct)
theorem fun_mk {x qual : Str} {st : Stmt} {f : Addr} {oc : Value} {od an : Option Addr} {osl : Array (Option Value)} {kV doc pm cdv ct : Value} (l : K.lookup f = some ⟨oc, od, .func (PySem.W.fnOf x qual (defArgs st) (defBody st) (defScope st) .none kV doc pm an cdv ct), osl⟩)
    (c : PySem.W.codeIn K cdv qual = true) (k : PySem.W.keepIn K (.ref f) = true) : Fun K x qual st f (PySem.W.fnOf x qual (defArgs st) (defBody st) (defScope st) .none kV doc pm an cdv ct) := ⟨⟨oc, od, kV, doc, pm, an, cdv, ct, osl, rfl, l, c⟩, k⟩
end
theorem hu_of {A : Around} {k : Nat} (hr : Room k A) : A.units + 1 < cLine := Nat.lt_of_le_of_lt (Nat.add_le_add_left (by decide : 1 ≤ 64) _) hr.units
section
variable {X : Cx}
theorem pv (i : Nat) {x : Str} {pos : Pos} (hN : X.N[i]? = some x := by rfl) (hv : Vis X.env.scope x := by first | exact Or.inl rfl | exact Or.inr (Or.inl rfl) | exact Or.inr (Or.inr rfl)) (hd : (x == ("__debug__" : Str)) = false := by decide)
    (hcd : (x == ("__classdict__" : Str)) = false := by decide) : PE X (.Name x pos) (tVar i) := pe_var hN hv hd hcd
end
theorem iteF {A B : Prop} (h : B) : if false = true then A else B := by
  rw [if_neg Bool.false_ne_true]
  exact h
theorem iteT {A B : Prop} (h : A) : if true = true then A else B := by
  rw [if_pos rfl]
  exact h
def Same (H H' : Hp) : Prop := ∀ b o, H b = some o → H' b = some o
theorem Same.refl (H : Hp) : Same H H := fun _ _ h => h
theorem Same.trans {H H1 H2 : Hp} (a : Same H H1) (b : Same H1 H2) : Same H H2 := fun c o h => b c o (a c o h)
theorem Same.free {H H' : Hp} (e : Same H H') {l : Addr} (h : H' l = Option.none) : H l = Option.none := by
  cases q : H l with
  | none => rfl
  | some o =>
    rw [e l o q] at h
    cases h
end L2
end
section
set_option Elab.async false
set_option linter.all false
set_option maxRecDepth 100000
set_option maxHeartbeats 4000000
namespace L2
open PySem PySem.Spec PyProof.Rows
section
variable {prog : Program} {w : World} {A : Around} {R : Result → Shared → Prop} {s : Shared}
theorem compLoop_own {elt target iter : Expr} {ifs : List Expr} {scope : Scope} {pos : Pos} {it acc : Value} {env : Env} (I : Nat → Shared → Prop)
    (turn : ∀ n s, I n s → wpAny (model prog w) A (pyNext it) (fun r s₁ => match r with
      | none => R (.ok .next) s₁
      | some v => wpAny (model prog w) A (letOwnedTupleGo target it v) (fun _ s₁ => wpAny (model prog w) A (assign target env v) (fun _ s₂ =>
          wpAny (model prog w) A (forIn ifs true fun c r => if r = true then do let ok ← isTrue c env (eval c env); pure (ForInStep.yield ok) else pure (ForInStep.yield r)) (fun ok s₃ =>
            if ok = true then wpAny (model prog w) A (eval elt env) (fun x s₄ =>
              wpAny (model prog w) A (call (.builtin "list.append") [acc, x]) (fun _ s₅ => ∃ m, m < n ∧ I m s₅) (fun _ _ => False) s₄) (fun _ _ => False) s₃
            else ∃ m, m < n ∧ I m s₃) (fun _ _ => False) s₂) (fun _ _ => False) s₁) (fun _ _ => False) s₁) (fun _ _ => False) s)
    (n : Nat) (h : I n s) :
    codeAny (model prog w) A (.compLoop (.ListComp elt [⟨target, iter, ifs, 0⟩] scope pos) 0 it acc env) R s := by
  refine codeAny_loop rfl I (fun n s hI => ?_) n h
  show wpAny _ A ((compTurn (.ListComp elt [⟨target, iter, ifs, 0⟩] scope pos) 0 it acc env).onRaise (fun x => do noteFrame x env; theTreesLotGoes x)) _ _ s
  refine wpAny_noted ?_
  rw [compTurn_list]
  refine wpAny_bind (wpAny_standAt (wpAny_bind (wpAny_mono (turn n s hI) (fun r s₁ h₁ => ?_) fun _ _ h' => h'.elim)))
  cases r with
  | none => exact wpAny_pure h₁
  | some v =>
    refine wpAny_bind (wpAny_mono h₁ (fun _ s₁' h₁' => ?_) fun _ _ h' => h'.elim)
    refine wpAny_bind (wpAny_mono h₁' (fun _ s₂ h₂ => wpAny_bind (wpAny_mono h₂ (fun ok s₃ h₃ => ?_) fun _ _ h' => h'.elim)) fun _ _ h' => h'.elim)
    cases ok with
    | false => exact wpAny_pure ⟨rfl, h₃⟩
    | true =>
      exact wpAny_bind (wpAny_bind (wpAny_mono h₃ (fun x s₄ h₄ => wpAny_bind (wpAny_mono h₄ (fun _ s₅ h₅ => wpAny_pure (wpAny_pure ⟨rfl, h₅⟩)) fun _ _ h' => h'.elim)) fun _ _ h' => h'.elim))
end
theorem closure_go {env : Env} {f : Str × NameKind → List (Str × Addr) → Sem (ForInStep (List (Str × Addr)))}
    (hf : ∀ n k cs, f (n, k) cs = if (k == NameKind.free) = true then (do let c ← cellOf env n; pure (.yield ((n, c) :: cs))) else pure (.yield cs)) :
    ∀ (names : List (Str × NameKind)) (cs : List (Str × Addr)), (∀ x ∈ names, x.2 = NameKind.free → ∃ c, env.cells.lookup x.1 = some c) → (∀ n c, cs.lookup n = some c → env.cells.lookup n = some c) →
      ∃ cl, (forIn names cs f : Sem (List (Str × Addr))) = pure cl ∧ (∀ n c, cl.lookup n = some c → env.cells.lookup n = some c) ∧ (∀ n, (cs.lookup n).isSome = true → (cl.lookup n).isSome = true) ∧ ∀ x ∈ names, x.2 = NameKind.free → (cl.lookup x.1).isSome = true
  | [], cs, _, h2 => ⟨cs, rfl, h2, fun _ h => h, fun _ h => nomatch h⟩
  | (n, k) :: r, cs, h1, h2 => by
    have h1r : ∀ x ∈ r, x.2 = NameKind.free → ∃ c, env.cells.lookup x.1 = some c := fun x hx => h1 x (List.mem_cons_of_mem _ hx)
    rw [List.forIn_cons, hf]
    by_cases hk : k = NameKind.free
    · subst hk
      obtain ⟨c, hc⟩ := h1 (n, NameKind.free) List.mem_cons_self rfl
      have h2' : ∀ m d, ((n, c) :: cs).lookup m = some d → env.cells.lookup m = some d := fun m d hd => by
        rw [List.lookup_cons] at hd
        cases e : (m == n) with
        | true =>
          rw [e] at hd
          have : m = n := by simpa using e
          rw [this]; cases hd; exact hc
        | false => rw [e] at hd; exact h2 m d hd
      obtain ⟨cl, e1, e2, e3, e4⟩ := closure_go hf r ((n, c) :: cs) h1r h2'
      refine ⟨cl, ?_, e2, fun m hm => e3 m ?_, fun x hx hk => ?_⟩
      · rw [← e1]
        have ec : cellOf env n = pure c := by unfold cellOf; rw [hc]
        rw [ec]
        rfl
      · rw [List.lookup_cons]
        cases e : (m == n) with
        | true => rfl
        | false => exact hm
      · rcases List.mem_cons.mp hx with rfl | hx
        · exact e3 n (by rw [List.lookup_cons, beq_self_eq_true]; rfl)
        · exact e4 x hx hk
    · have hb : (k == NameKind.free) = false := by simpa using hk
      obtain ⟨cl, e1, e2, e3, e4⟩ := closure_go hf r cs h1r h2
      refine ⟨cl, ?_, e2, e3, fun x hx hk' => ?_⟩
      · rw [← e1, hb]
        rfl
      · rcases List.mem_cons.mp hx with rfl | hx
        · exact absurd hk' hk
        · exact e4 x hx hk'
theorem closure_of {scope : Scope} {env : Env} (h1 : ∀ x ∈ scope.names, x.2 = NameKind.free → ∃ c, env.cells.lookup x.1 = some c) :
    ∃ cl, closureFor scope env = pure cl ∧ (∀ n c, cl.lookup n = some c → env.cells.lookup n = some c) ∧ ∀ x ∈ scope.names, x.2 = NameKind.free → (cl.lookup x.1).isSome = true := by
  obtain ⟨cl, e1, e2, _, e4⟩ := closure_go (env := env) (f := fun (x : Str × NameKind) cs => if (x.2 == NameKind.free) = true then (do let c ← cellOf env x.1; pure (.yield ((x.1, c) :: cs))) else pure (.yield cs)) (fun _ _ _ => rfl) scope.names [] h1 (fun _ _ h => nomatch h)
  refine ⟨cl, Eq.trans (show closureFor scope env = ((forIn scope.names ([] : List (Str × Addr)) fun (x : Str × NameKind) cs => if (x.2 == NameKind.free) = true then (do let c ← cellOf env x.1; pure (.yield ((x.1, c) :: cs))) else pure (.yield cs)) >>= fun cs => pure cs) from rfl) ?_, e2, e4⟩
  rw [e1]
  all_goals rfl
theorem lookup_relabel {env : Env} {x : Str} : ∀ (names : List (Str × NameKind)),
    (names.map fun (n, k) => if (k == NameKind.free && env.scope.kind == .function && env.kindOf n == some .cell) then (n, NameKind.cell) else (n, k)).lookup x =
      (names.lookup x).map fun k => if (k == NameKind.free && env.scope.kind == .function && env.kindOf x == some .cell) then NameKind.cell else k
  | [] => rfl
  | (n, k) :: r => by
    have ih := lookup_relabel (env := env) (x := x) r
    show List.lookup x ((if (k == NameKind.free && env.scope.kind == .function && env.kindOf n == some .cell) = true then (n, NameKind.cell) else (n, k)) :: _) = _
    cases hx : x == n with
    | true =>
      have e : x = n := by simpa using hx
      subst e
      by_cases hc : (k == NameKind.free && env.scope.kind == .function && env.kindOf x == some .cell) = true
      · rw [if_pos hc]; simp only [List.lookup_cons, hx, Option.map_some, if_pos hc]
      · rw [if_neg hc]; simp only [List.lookup_cons, hx, Option.map_some, if_neg hc]
    | false =>
      by_cases hc : (k == NameKind.free && env.scope.kind == .function && env.kindOf n == some .cell) = true
      · rw [if_pos hc]; simp only [List.lookup_cons, hx]; exact ih
      · rw [if_neg hc]; simp only [List.lookup_cons, hx]; exact ih
theorem rel_free {scope : Scope} {env : Env} {x : Str} (hcell : ∀ y ∈ scope.names, y.2 ≠ NameKind.cell) (h : (relabel scope env).names.lookup x = some .cell ∨ (relabel scope env).names.lookup x = some .free) : scope.names.lookup x = some .free := by
  have e : (relabel scope env).names.lookup x = _ := lookup_relabel (env := env) (x := x) scope.names
  rw [e] at h
  cases q : scope.names.lookup x with
  | none => rw [q] at h; rcases h with h | h <;> cases h
  | some k =>
    rw [q] at h
    by_cases hk : k = NameKind.free
    · rw [hk]
    · have hb : (k == NameKind.free) = false := by simpa using hk
      simp only [Option.map_some, hb, Bool.false_and, Bool.false_eq_true, if_false] at h
      rcases h with h | h
      · cases h; exact absurd rfl (hcell _ (PySem.mem_of_lookup q))
      · exact h
theorem rel_any {scope : Scope} {env : Env} {x : Str} (h : (relabel scope env).names.lookup x ≠ none) : scope.names.lookup x ≠ none := by
  have e : (relabel scope env).names.lookup x = _ := lookup_relabel (env := env) (x := x) scope.names
  intro q
  rw [e, q] at h
  exact h rfl
structure CompOk (sc : Scope) (N : List Str) (scope : Scope) (NY : List Str) (js : List Nat) : Prop where
  kind : scope.kind = .function
  cell : ∀ y ∈ scope.names, y.2 ≠ NameKind.cell
  names : ∀ x ∈ scope.names, x.2 = NameKind.local → scope.names.lookup x.1 = some .local
  free : ∀ x ∈ scope.names, x.2 = NameKind.free → sc.names.lookup x.1 = some .cell ∨ sc.names.lookup x.1 = some .free
  pre : NY.take N.length = N
  cap : ∀ p ∈ N.zipIdx, js.contains p.2 = true ∨ scope.names.lookup p.1 = none ∨ scope.names.lookup p.1 = some .free
def emS (js : List Nat) (k : Nat) (σ : St) : St := js.foldl (fun s j => s.set j none) σ ++ List.replicate k none
theorem clear_len : ∀ (js : List Nat) (σ : St), (js.foldl (fun s j => s.set j none) σ).length = σ.length
  | [], _ => rfl
  | j :: r, σ => by rw [List.foldl_cons, clear_len r, List.length_set]
theorem clear_get : ∀ (js : List Nat) (σ : St) (i : Nat) (v : V), (js.foldl (fun s j => s.set j none) σ)[i]? = some (some v) → σ[i]? = some (some v) ∧ js.contains i = false
  | [], σ, i, v, h => ⟨h, rfl⟩
  | j :: r, σ, i, v, h => by
    rw [List.foldl_cons] at h
    obtain ⟨h1, h2⟩ := clear_get r _ i v h
    by_cases e : j = i
    · subst e
      by_cases hj : j < σ.length
      · rw [List.getElem?_set_self hj] at h1; cases h1
      · rw [List.getElem?_eq_none (by rw [List.length_set]; lia)] at h1; cases h1
    · rw [List.getElem?_set_ne e] at h1
      refine ⟨h1, ?_⟩
      rw [List.contains_cons, h2]
      have : (i == j) = false := by simpa using fun z => e z.symm
      rw [this]; rfl
theorem emS_get {js : List Nat} {k : Nat} {σ : St} {i : Nat} {v : V} (h : (emS js k σ)[i]? = some (some v)) : σ[i]? = some (some v) ∧ js.contains i = false := by
  unfold emS at h
  by_cases hi : i < σ.length
  · rw [List.getElem?_append_left (by rw [clear_len]; exact hi)] at h
    exact clear_get js σ i v h
  · rw [List.getElem?_append_right (by rw [clear_len]; lia), List.getElem?_replicate] at h
    split at h <;> cases h
theorem emS_len {js : List Nat} {k : Nat} {σ : St} : (emS js k σ).length = σ.length + k := by
  unfold emS
  rw [List.length_append, clear_len, List.length_replicate]
def cxComp (X : Cx) (NY : List Str) (scope : Scope) (cl : List (Str × Addr)) (C : Addr) (s₀ : Shared) (H₀ : Hp) (fp : List Addr) : Cx :=
  { X with N := NY, s₀ := s₀, H₀ := H₀, env := compEnvC scope cl C X.env, outer := X.stack, ex := fp, fn := fun _ => false, pn := [], xe := fun _ _ => False }
def PIfs (X : Cx) (ifs : List Expr) (t : TT) : Prop :=
  ∀ (pins : List (Addr × Obj)) (s : Shared) (σ : St) (H : Hp) (Q : Bool → Hp → Prop), Inv X pins σ H s → t σ H Q →
    wpAny (model X.prog X.w) X.A (forIn ifs true fun c r => if r = true then do let ok ← isTrue c X.env (eval c X.env); pure (ForInStep.yield ok) else pure (ForInStep.yield r)) (TP X pins σ Q) X.xe s
def tYes : TT := fun _ H Q => Q true H
theorem pif_nil {X : Cx} : PIfs X [] tYes := fun _ _ _ H _ I h => wpAny_tests_nil ⟨H, I, h⟩
theorem pif_one {X : Cx} {c : Expr} {t : TT} (h : PT X c t) : PIfs X [c] t := fun pins s σ H Q I q => wpAny_tests_one (h pins s σ H Q I q)
def sApp (D : Addr) (tc : TT) (te : TE) : TS := fun E σ H => tc σ H fun b H1 => if b = true then te σ H1 fun y H2 => ∃ ys, H2 D = some (.lst ys) ∧ ys.length < sizeLine ∧ E.nx σ (upd H2 D (.lst (ys ++ [y]))) else E.nx σ H1
def tComp (js : List Nat) (k : Nat) (wi : TI) (g : TG) (tc : TT) (te : TE) : TE := fun σ H Q => wi σ H fun J H1 => ∀ D, H1 D = none →
  ∃ W : Nat → Nat → St → Hp → Prop, (∃ m, W 0 m (emS js k σ) (upd H1 D (.lst []))) ∧ ∀ i m σ H, W i m σ H →
    (J.stop i H ∧ Q (.ref D) H) ∨ (J.go i H ∧ ∃ N : St → Hp → Prop, (∀ σ' H', N σ' H' → ∃ m', m' < m ∧ W (i + 1) m' σ' H') ∧ ∀ x H', J.yld i H x H' → g x σ H' fun σ2 H2 => sApp D tc te { nx := N, rt := fun _ _ => False, ct := N, bk := fun _ H' => Q (.ref D) H' } σ2 H2)
section
variable {X : Cx} {pins : List (Addr × Obj)} {σ : St} {H2 : Hp} {s₂ : Shared} {N NY : List Str} {sc scope : Scope} {cl : List (Str × Addr)} {C : Addr} {fp : List Addr} {js : List Nat} {k : Nat}
theorem comp_ok (I2 : Inv X pins σ H2 s₂) (hf : ∀ b ∈ fp, FpOk X pins H2 b) (hfl : ∀ b ∈ fp, ∃ o, s₂.heap.get? b = some o) (hkind : scope.kind = .function) (hcell : ∀ y ∈ scope.names, y.2 ≠ NameKind.cell)
    (hcl1 : ∀ n c, cl.lookup n = some c → X.env.cells.lookup n = some c) (hcl2 : ∀ x ∈ scope.names, x.2 = NameKind.free → (cl.lookup x.1).isSome = true) (hC : s₂.heap.objs.size ≤ C) :
    (cxComp X NY scope cl C s₂ H2 fp).Ok where
  mod := I2.ok.mod
  kind := hkind
  glob := I2.ok.glob
  blt := I2.ok.blt
  above := hC
  inj := fun x y c h1 h2 => I2.ok.inj x y c (hcl1 x c h1) (hcl1 y c h2)
  has := fun x hx => by
    have e : scope.names.lookup x = some .free := rel_free (env := X.env) hcell hx
    exact Option.isSome_iff_exists.mp (hcl2 (x, .free) (PySem.mem_of_lookup e) rfl)
  cab := fun _ _ h _ => nomatch h
  hd := I2.ok.hd
  frames := I2.ok.frames
  stk := .inl rfl
  exf := fun b hb => by
    obtain ⟨o, ho⟩ := hfl b hb
    exact ⟨Nat.ne_of_lt (Nat.lt_of_lt_of_le (Heap.lt_size ho) hC), fun x c h => (hf b hb).2.2.2.2.1 x c (hcl1 x c h)⟩
  bs := I2.bs
  bsz := Nat.le_trans I2.ok.bsz I2.sz
  noex := fun b o e hb => by
    rcases (hf b hb).2.2.2.1 with z | z
    · exact I2.ok.noex b o e z
    · exact absurd (Nat.lt_of_lt_of_le (Heap.lt_size e) (Nat.le_trans I2.ok.bsz z)) (Nat.lt_irrefl _)
  exfs := fun b hb z => by
    rcases List.mem_cons.mp (I2.stkSub b z) with e | e
    · exact (hf b hb).2.1 e
    · exact (hf b hb).2.2.1 e
  funs := I2.stack
  frf := I2.stkFree
variable {elt iter target : Expr} {ifs : List Expr} {pos : Pos} {it : Addr} {tn : Nat → Heap → Prop} {J : It} {g : TG} {tc : TT} {te : TE} {Q : VK} {RR : Value → Addr → Result → Shared → Prop} {E : Value → Shared → Prop}
theorem comp_block (ok : CompOk sc N scope NY js) (hsc : X.env.scope = sc) (hN : X.N = N) (hk : NY.length = N.length + k) (hc : X.calm = true) (I2 : Inv X pins σ H2 s₂) (T : Turn X.prog X.w X.K target J fp it tn) (st2 : tn 0 s₂.heap) (f2 : ∀ b ∈ fp, FpOk X pins H2 b)
    (hcl1 : ∀ n c, cl.lookup n = some c → X.env.cells.lookup n = some c) (hcl2 : ∀ x ∈ scope.names, x.2 = NameKind.free → (cl.lookup x.1).isSome = true)
    (hg : ∀ cl C s₀ H₀ fp, PG (cxComp X NY scope cl C s₀ H₀ fp) target g) (hi : ∀ cl C s₀ H₀ fp, PIfs (cxComp X NY scope cl C s₀ H₀ fp) ifs tc) (he : ∀ cl C s₀ H₀ fp, PE (cxComp X NY scope cl C s₀ H₀ fp) elt te)
    (loop : ∀ D, H2 D = none →
      ∃ W : Nat → Nat → St → Hp → Prop, (∃ m, W 0 m (emS js k σ) (upd H2 D (.lst []))) ∧ ∀ i m σ H, W i m σ H →
        (J.stop i H ∧ Q (.ref D) H) ∨ (J.go i H ∧ ∃ N : St → Hp → Prop, (∀ σ' H', N σ' H' → ∃ m', m' < m ∧ W (i + 1) m' σ' H') ∧ ∀ x H', J.yld i H x H' → g x σ H' fun σ2 H2 => sApp D tc te { nx := N, rt := fun _ _ => False, ct := N, bk := fun _ H' => Q (.ref D) H' } σ2 H2))
    (hRR : ∀ D C H' s' m, s'.heap.Ns C m → Inv X pins σ H' s' → H' C = none → C ≠ X.env.locals → X.s₀.heap.objs.size ≤ C → (∀ x c, X.env.cells.lookup x = some c → c ≠ C) → (∀ p ∈ X.pn ++ pins, p.1 ≠ C) → D ≠ C → Q (.ref D) H' → RR (.ref D) C (.ok .next) s') :
    wpAny (model X.prog X.w) X.A (newList []) (fun acc s₃ => wpAny (model X.prog X.w) X.A (newFunctionEnv scope X.env.globals cl [] X.env.qual none .none (some X.env)) (fun cenv s₄ =>
      codeAny (model X.prog X.w) X.A (.compStart (.ListComp elt [⟨target, iter, ifs, 0⟩] scope pos) 0 (.ref it) acc { cenv with scope := relabel scope X.env }) (RR acc cenv.locals) s₄) E s₃) E s₂ := by
  refine wpAny_newObj_type (wpAny_newFunctionEnv ok.cell (by intro y hy; simp at hy) (fun h₁ hns₁ hsb₁ => ?_) ok.kind)
  dsimp only at hns₁ hsb₁ ⊢
  generalize hG : s₂.heap.push { cls := .type "list", dict := none, data := .seq ([] : List Value).toArray } = G at hns₁ hsb₁ ⊢
  have hC : G.objs.size = s₂.heap.objs.size + 1 := by rw [← hG, Heap.size_push]
  have hDC : s₂.heap.objs.size ≠ G.objs.size := by rw [hC]; exact Nat.ne_of_lt (Nat.lt_succ_self _)
  have hCle : s₂.heap.objs.size ≤ G.objs.size := by rw [hC]; exact Nat.le_succ _
  have below : ∀ b, b < s₂.heap.objs.size → b ≠ G.objs.size := fun b hb => by rw [hC]; exact Nat.ne_of_lt (Nat.lt_succ_of_lt hb)
  have old : ∀ b o, s₂.heap.get? b = some o → h₁.get? b = some o := fun b o e => hsb₁.extBut b o (below b (Heap.lt_size e)) (Heap.get?_push_of_some _ (hG ▸ Heap.get?_push_of_some _ e))
  have hacc : h₁.get? s₂.heap.objs.size = some { cls := .type "list", dict := none, data := .seq ([] : List Value).toArray } := hsb₁.extBut _ _ hDC (Heap.get?_push_of_some _ (hG ▸ Heap.get?_push_size _ rfl))
  have hfl : ∀ b ∈ fp, ∃ o, s₂.heap.get? b = some o := fun b hb => let ⟨o, ho, _⟩ := T.obj 0 _ st2 b hb; ⟨o, ho⟩
  have fD : H2 s₂.heap.objs.size = none := I2.hok.fresh (Nat.le_refl _)
  have fC : H2 G.objs.size = none := I2.hok.fresh hCle
  have I4 : Inv (cxComp X NY scope cl G.objs.size s₂ H2 fp) [] (emS js k σ) (upd H2 s₂.heap.objs.size (.lst [])) { s₂ with heap := h₁, toks := s₂.toks + ([] : List (Str × Value)).length } := by
    refine ⟨comp_ok I2 f2 hfl ok.kind ok.cell hcl1 hcl2 hCle, rfl, I2.bare, Un.laid old (Nat.le_refl _) fD, ⟨_, hns₁, fun i y v h1 h2 h3 => ?_⟩, fun x c h => ?_, ?_, fun x c h => ?_, fun p hp => absurd (show p ∈ ([] : List (Addr × Obj)) from hp) (by simp), I2.hok.laid old (Nat.le_refl _) ⟨Nat.zero_le _, [], 0, .nil, hacc⟩, ?_⟩
    · obtain ⟨e1, e2⟩ := emS_get h2
      have hi : i < N.length := by
        have := (List.getElem?_eq_some_iff.mp e1).1
        rw [I2.len, hN] at this; exact this
      have hy : N[i]? = some y := by
        rw [← ok.pre, List.getElem?_take_of_lt hi]; exact h1
      have hz : (y, i) ∈ N.zipIdx := by
        rw [List.mem_zipIdx_iff_getElem?]; exact hy
      have nn : scope.names.lookup y ≠ none := rel_any (env := X.env) (x := y) (by
        rcases h3 with z | z | z
        · intro q; rw [show (relabel scope X.env).names.lookup y = _ from z] at q; cases q
        · intro q; rw [show (relabel scope X.env).names.lookup y = _ from z] at q; cases q
        · intro q; rw [show (relabel scope X.env).names.lookup y = _ from z] at q; cases q)
      have hfr : scope.names.lookup y = some .free := by
        rcases ok.cap (y, i) hz with z | z | z
        · rw [e2] at z; cases z
        · exact absurd z nn
        · exact z
      have hX := ok.free (y, .free) (PySem.mem_of_lookup hfr) rfl
      rw [← hsc] at hX
      obtain ⟨m, hn, hl⟩ := I2.loc
      obtain ⟨u, ru, lk⟩ := hl i y v (by rw [hN]; exact hy) e1 (by
        rcases hX with z | z
        · exact .inr (.inl z)
        · exact .inr (.inr z))
      refine ⟨u, ru, ?_⟩
      rcases lk with ⟨lk, _⟩ | ⟨_, c, hc1, hc2⟩
      · have lk : X.env.scope.names.lookup y = some .local := lk
        rcases hX with z | z <;> · rw [z] at lk; cases lk
      · have hs := hcl2 (y, .free) (PySem.mem_of_lookup hfr) rfl
        obtain ⟨c', hc'⟩ := Option.isSome_iff_exists.mp hs
        have e3 := hcl1 y c' hc'
        rw [hc1] at e3; cases e3
        refine .inr ⟨?_, c, hc', hc2.keeps old⟩
        show (relabel scope X.env).names.lookup y = some .cell ∨ (relabel scope X.env).names.lookup y = some .free
        have e : (relabel scope X.env).names.lookup y = _ := lookup_relabel (env := X.env) (x := y) scope.names
        rw [e, hfr, Option.map_some]
        split
        · exact .inl rfl
        · exact .inr rfl
    · obtain ⟨v, q⟩ := I2.cell x c (hcl1 x c h)
      exact ⟨v, q.keeps old⟩
    · show upd H2 s₂.heap.objs.size (.lst []) G.objs.size = none
      rw [upd_ne (Ne.symm hDC)]; exact fC
    · have q := I2.freeC x c (hcl1 x c h)
      obtain ⟨v, o, ho, _⟩ := I2.cell x c (hcl1 x c h)
      show upd H2 s₂.heap.objs.size (.lst []) c = none
      rw [upd_ne (Nat.ne_of_lt (Heap.lt_size ho))]; exact q
    · show (emS js k σ).length = NY.length
      rw [emS_len, I2.len, hN, hk]
  have st4 : tn 0 h₁ := T.keep _ _ _ st2 fun b _ o e => old b o e
  obtain ⟨W, ⟨m0, w0⟩, turn⟩ := loop s₂.heap.objs.size fD
  have stat : ∀ {H' : Hp}, (∀ b ∈ fp, H' b = none) → ∀ b ∈ fp, FpOk (cxComp X NY scope cl G.objs.size s₂ H2 fp) [] H' b := fun hn b hb => by
    obtain ⟨o, ho⟩ := hfl b hb
    refine ⟨hn b hb, below b (Heap.lt_size ho), fun z => ?_, .inl hb, fun x c h => (f2 b hb).2.2.2.2.1 x c (hcl1 x c h), fun p hp => absurd (show p ∈ ([] : List (Addr × Obj)) from hp) (by simp)⟩
    rcases List.mem_cons.mp (I2.stkSub b z) with e | e
    · exact (f2 b hb).2.1 e
    · exact (f2 b hb).2.2.1 e
  have go : ∀ s₄ : Shared, s₄ = { s₂ with heap := h₁, toks := s₂.toks + ([] : List (Str × Value)).length } →
      codeAny (model X.prog X.w) X.A (.compLoop (.ListComp elt [⟨target, iter, ifs, 0⟩] scope pos) 0 (.ref it) (.ref s₂.heap.objs.size) (compEnvC scope cl G.objs.size X.env)) (RR (.ref s₂.heap.objs.size) G.objs.size) s₄ := by
    rintro s₄ rfl
    refine compLoop_own (fun n s' => ∃ i σ' H', Inv (cxComp X NY scope cl G.objs.size s₂ H2 fp) [] σ' H' s' ∧ tn i s'.heap ∧ (∀ b ∈ fp, H' b = none) ∧ W i n σ' H') ?_ m0
      ⟨0, _, _, I4, st4, fun b hb => by
        obtain ⟨o, ho⟩ := hfl b hb
        rw [upd_ne (Nat.ne_of_lt (Heap.lt_size ho))]; exact (f2 b hb).1, w0⟩
    rintro n s3 ⟨i, σ3, H3, I3, st3, fr3, w3⟩
    rcases turn i n σ3 H3 w3 with ⟨stop, qn⟩ | ⟨go, Nx, hNx, step⟩
    · refine thn (T.done (cxComp X NY scope cl G.objs.size s₂ H2 fp) rfl rfl rfl hc i [] s3 σ3 H3 _ I3 (stat fr3) st3 stop) fun r s5 ⟨hr, I5⟩ => ?_
      subst hr
      have IX : Inv X pins σ H3 s5 := I2.call' (ch := fp) I5.os I5.base I5.hok I5.bare fun b hb => ⟨(f2 b hb).2.2.2.1, (f2 b hb).2.1, (f2 b hb).2.2.2.2.1, (f2 b hb).2.2.2.2.2⟩
      obtain ⟨m, hm, _⟩ := I5.loc
      refine hRR _ _ H3 s5 m hm IX I5.free (fun z => ?_) (Nat.le_trans I2.sz hCle) (fun x c h z => ?_) (fun p hp z => ?_) hDC qn
      · have := I2.lt; rw [← z] at this; exact Nat.lt_irrefl _ (Nat.lt_of_lt_of_le this hCle)
      · obtain ⟨v, o, ho, _⟩ := I2.cell x c h
        have := Heap.lt_size ho; rw [z] at this; exact Nat.lt_irrefl _ (Nat.lt_of_lt_of_le this hCle)
      · have := Heap.lt_size (I2.pin p hp).1; rw [z] at this; exact Nat.lt_irrefl _ (Nat.lt_of_lt_of_le this hCle)
    · refine thn (T.item (cxComp X NY scope cl G.objs.size s₂ H2 fp) rfl rfl rfl hc i [] s3 σ3 H3 _ I3 (stat fr3) st3 go) fun r s5 ⟨u, hr, h5⟩ => ?_
      subst hr
      refine thn h5 fun _ s6 ⟨x, H6, I6, r6, y6, st6, fr6⟩ => ?_
      have I6' := I6.pinned (stat fr6) (T.obj _ _ st6)
      have again : ∀ {σ7 : St} {H7 : Hp} {s7 : Shared}, Inv (cxComp X NY scope cl G.objs.size s₂ H2 fp) ([] ++ pinsAt fp s6.heap) σ7 H7 s7 → Nx σ7 H7 → ∃ m, m < n ∧ ∃ i σ' H', Inv (cxComp X NY scope cl G.objs.size s₂ H2 fp) [] σ' H' s7 ∧ tn i s7.heap ∧ (∀ b ∈ fp, H' b = none) ∧ W i m σ' H' := fun {σ7 H7 s7} I7 n7 => by
        obtain ⟨m', hm, w7⟩ := hNx σ7 H7 n7
        refine ⟨m', hm, i + 1, σ7, H7, I7.unpinned, T.keep _ _ _ st6 fun b hb o e => (I7.pin (b, o) (List.mem_append_right _ (List.mem_append_right _ (mem_pinsAt hb e)))).1, fun b hb => ?_, w7⟩
        obtain ⟨o, e, d⟩ := T.obj _ _ st6 b hb
        exact (I7.pin (b, o) (List.mem_append_right _ (List.mem_append_right _ (mem_pinsAt hb e)))).2.1
      refine thn (hg cl G.objs.size s₂ H2 fp _ s6 σ3 H6 x u _ I6' r6 (step x H6 y6)) fun _ s7 ⟨σ7, H7, I7, q7⟩ => ?_
      refine thn (hi cl G.objs.size s₂ H2 fp _ s7 σ7 H7 _ I7 q7) fun ok s8 ⟨H8, I8, q8⟩ => ?_
      cases ok with
      | false =>
        rw [if_neg Bool.false_ne_true] at q8 ⊢
        exact again I8 q8
      | true =>
        rw [if_pos rfl] at q8 ⊢
        refine thn (he cl G.objs.size s₂ H2 fp _ s8 σ7 H8 _ I8 q8) fun y s9 ⟨z, H9, I9, r9, ys, hD, hz, n9⟩ => ?_
        refine thn (mt_append (X := cxComp X NY scope cl G.objs.size s₂ H2 fp) _ s9 σ7 H9 (.ref s₂.heap.objs.size) [z] (.ref s₂.heap.objs.size) [y] (fun _ H' => H' = upd H9 s₂.heap.objs.size (.lst (ys ++ [z]))) I9 rfl (.cons r9 .nil) ⟨_, ys, z, rfl, rfl, hD, hz, rfl⟩) fun _ s10 ⟨_, H10, I10, _, q10⟩ => ?_
        subst q10
        exact again I10 n9
  exact codeAny_compStart_list (go _ rfl) (T.self _ 0 _ _ _ st4 (go _ rfl))
theorem pe_comp {wi : TI} (ok : CompOk sc N scope NY js) (hsc : X.env.scope = sc) (hN : X.N = N) (hk : NY.length = N.length + k) (hc : X.calm = true) (hit : PI X target iter wi)
    (hg : ∀ cl C s₀ H₀ fp, PG (cxComp X NY scope cl C s₀ H₀ fp) target g) (hi : ∀ cl C s₀ H₀ fp, PIfs (cxComp X NY scope cl C s₀ H₀ fp) ifs tc) (he : ∀ cl C s₀ H₀ fp, PE (cxComp X NY scope cl C s₀ H₀ fp) elt te)
    (hs : ∀ x, foldedSetIterable iter X.env x = pure x := by intro _; rfl) : PE X (.ListComp elt [⟨target, iter, ifs, 0⟩] scope pos) (tComp js k wi g tc te) := by
  intro pins s σ H Q I h
  obtain ⟨cl, hclos, hcl1, hcl2⟩ := closure_of (scope := scope) (env := X.env) fun x hx hf => I.ok.has x.1 (by
    have := ok.free x hx hf
    rw [← hsc] at this
    exact this)
  rw [eval_ListComp]
  refine wpAny_comprehension_free (use := none) rfl hs hclos ok.kind ok.names (thn (hit pins s σ H _ I h) fun xv s₁ h₁ => thn h₁ fun itv s₂ h₂ => ?_)
  obtain ⟨it, fp, tn, J, H2, rfl, I2, T, st2, f2, loop⟩ := h₂
  refine comp_block (RR := fun acc C => compPost (model X.prog X.w) X.A X.xe none (EP X pins σ Q) acc C) (Q := Q) ok hsc hN hk hc I2 T st2 f2 hcl1 hcl2 hg hi he loop ?_
  intro D C H' s' m hm IX fC c1 c2 c3 c4 _ q
  exact ⟨m, hm, fun h' hs' => ⟨.ref D, H', IX.turned (t' := s'.toks) (fun b o hb e => (hs'.2 b hb).trans e) fC c1 (.inr c2) c3 c4, rfl, q⟩⟩
theorem ps_comp {wi : TI} {i : Nat} {y : Str} {py spos : Pos} (ok : CompOk sc N scope NY js) (hsc : X.env.scope = sc) (hN : X.N = N) (hk : NY.length = N.length + k) (hc : X.calm = true) (hit : PI X target iter wi)
    (hg : ∀ cl C s₀ H₀ fp, PG (cxComp X NY scope cl C s₀ H₀ fp) target g) (hi : ∀ cl C s₀ H₀ fp, PIfs (cxComp X NY scope cl C s₀ H₀ fp) ifs tc) (he : ∀ cl C s₀ H₀ fp, PE (cxComp X NY scope cl C s₀ H₀ fp) elt te)
    (nd : X.N.Nodup) (hy : X.N[i]? = some y) (hl : Loc X.env.scope y) (hsw : swapsWith (.ListComp elt [⟨target, iter, ifs, 0⟩] scope pos) (some (.Name y py)) spos.line X.env = pure true)
    (hs : ∀ x, foldedSetIterable iter X.env x = pure x := by intro _; rfl) (hf : X.fn y = true ∨ X.env.scope.names.lookup y = some .local := by first | exact .inl rfl | exact .inr rfl | assumption) :
    PS X (.Assign [.Name y py] (.ListComp elt [⟨target, iter, ifs, 0⟩] scope pos) spos) (tAsg (tComp js k wi g tc te) (gName i)) := by
  intro pins s σ H D I h
  obtain ⟨cl, hclos, hcl1, hcl2⟩ := closure_of (scope := scope) (env := X.env) fun x hx hf => I.ok.has x.1 (by
    have := ok.free x hx hf
    rw [← hsc] at this
    exact this)
  rw [exec_Assign_Name_used _ _ _ _ hsw]
  refine wpAny_bind (wpAny_standAt (wpAny_bind ?_))
  show wpAny _ X.A (do let _ ← comprehension (.ListComp elt [⟨target, iter, ifs, 0⟩] scope pos) scope X.env _ (newList []) false (eval iter X.env) (some (assign (.Name y py) X.env))) _ _ s
  refine wpAny_bind (wpAny_mono (wpAny_comprehension_free (use := some (assign (.Name y py) X.env)) (Q := fun _ s' => SP X pins D .next s') rfl hs hclos ok.kind ok.names
    (thn (hit pins s σ H _ I h) fun xv s₁ h₁ => thn h₁ fun itv s₂ h₂ => ?_)) (fun _ s' hq => wpAny_pure (wpAny_pure hq)) fun _ _ e => e)
  obtain ⟨it, fp, tn, J, H2, rfl, I2, T, st2, f2, loop⟩ := h₂
  refine comp_block (RR := fun acc C => compPost (model X.prog X.w) X.A X.xe (some (assign (.Name y py) X.env)) (fun _ s' => SP X pins D .next s') acc C) (Q := fun x H1 => gName i x σ H1 D.nx) ok hsc hN hk hc I2 T st2 f2 hcl1 hcl2 hg hi he loop ?_
  intro Da C H' s' m hm IX fC c1 c2 c3 c4 _ q
  show wpAny _ X.A (assign (.Name y py) X.env (.ref Da)) _ _ _
  refine wpAny_assign_Name (store_ok2 IX nd hy hl (v := .ref Da) rfl (fun s2 IY ⟨a, sb, ha⟩ => ?_) hf)
  have hne : C ≠ a := by
    rcases ha with rfl | ha
    · exact c1
    · exact fun z => c3 y a ha z.symm
  exact ⟨m, hm.sameBut sb hne, fun h' hs' => ⟨_, H', IY.turned (t' := s2.toks) (fun b o hb e => (hs'.2 b hb).trans e) fC c1 (.inr c2) c3 c4, q⟩⟩
end
end L2
end
section
set_option Elab.async false
set_option linter.all false
set_option maxRecDepth 100000
set_option maxHeartbeats 4000000
namespace L2
open PySem PySem.Spec PyProof.Rows
section
variable {X : Cx} {pins : List (Addr × Obj)} {σ : St} {H : Hp} {s : Shared} {h' : Heap}
theorem Inv.turnedL {t' : Nat} {ch : List Addr} (I : Inv X pins σ H s) (k : ∀ b o, b ∉ ch → s.heap.get? b = some o → h'.get? b = some o) (hf : ∀ b ∈ ch, FpOk X pins H b) :
    Inv X pins σ H { s with heap := h', toks := t' } := by
  have nit : ∀ b u, H b = some u → b ∉ ch := fun b u e z => by rw [(hf b z).1] at e; cases e
  refine I.step (g' := s.gens) (d' := s.drawn) (ch := ch) (fun b hb => ⟨(hf b hb).2.2.2.1, (hf b hb).2.1, (hf b hb).2.2.2.2.1, (hf b hb).2.2.2.2.2⟩) (fun b o _ _ hc e _ => k b o hc e) (fun b o _ _ hc e _ => ⟨o.slots, k b o hc e⟩) (fun _ _ _ _ n => n)
    (fun b o hc e => ⟨o, k b o hc e⟩) (fun _ _ e => e) (fun _ _ _ e => e) (fun b ps e => ⟨#[], by rw [e]; simp⟩) (fun m hm => ?_) (fun b u e => ?_) I.bare
  · obtain ⟨o, es, ep, ho, r⟩ := hm
    exact ⟨o, es, ep, k _ o (fun z => (hf _ z).2.1 rfl) ho, r⟩
  · refine (I.hok b u e).stay (fun c v hc q => k c v ?_ q) (fun _ q => q) fun _ _ q => q
    rcases hc with z | z
    · rw [z]; exact nit b u e
    · exact nit c _ z
theorem Inv.adopt {T : Addr} {o : HO} (I : Inv X pins σ H s) (hf : FpOk X pins H T) (new : ObjOk X.prog X.w (upd H T o) s.heap T o) : Inv X pins σ (upd H T o) s := by
  have nT : ∀ b u, H b = some u → b ≠ T := fun b u e z => by rw [z, hf.1] at e; cases e
  refine I.step (h' := s.heap) (H' := upd H T o) (g' := s.gens) (d' := s.drawn) (t' := s.toks) (ch := [T]) (fun b hb => ?_) (fun b _ _ _ _ e _ => e) (fun b ob _ _ _ e _ => ⟨ob.slots, e⟩) (fun b ob hb _ n => ?_)
    (fun b ob _ e => ⟨ob, e⟩) (fun b xs e => ?_) (fun b ob u e => ?_) (fun b ps e => ⟨#[], ?_⟩) (fun m hm => hm) (fun b u e => ?_) I.bare
  · have e : b = T := by simpa using hb
    subst e
    exact ⟨hf.2.2.2.1, hf.2.1, hf.2.2.2.2.1, hf.2.2.2.2.2⟩
  · rw [upd_ne (fun z => hb (by simp [z]))]; exact n
  · rw [upd_ne (nT b _ e)]; exact e
  · rw [upd_ne (nT b _ e)]; exact e
  · rw [upd_ne (nT b _ e), e]; simp
  · by_cases hb : b = T
    · subst hb; rw [upd_same] at e; cases e; exact new
    · rw [upd_ne hb] at e
      exact (I.hok b u e).stay (fun c v _ q => q) (fun c q => by rw [upd_ne (nT c _ q)]; exact q) fun c xs q => by rw [upd_ne (nT c _ q)]; exact q
end
def Ite (K : PySem.W.Frag) (a : Addr) : It :=
  ⟨fun i H => ∃ xs x, SqL K H a xs ∧ xs[i]? = some x, fun i H x H' => ∃ p v, H p = none ∧ x = .ref p ∧ H' = upd H p (.tup [.int (i : Nat), v]) ∧ ∀ xs, SqL K H a xs → xs[i]? = some v, fun i H => ∃ xs, SqL K H a xs ∧ xs.length ≤ i⟩
def Itz (K : PySem.W.Frag) (a b : Addr) : It :=
  ⟨fun i H => ∃ xs x ys y, SqL K H a xs ∧ xs[i]? = some x ∧ SqL K H b ys ∧ ys[i]? = some y,
   fun i H x H' => ∃ p v u, H p = none ∧ x = .ref p ∧ H' = upd H p (.tup [v, u]) ∧ (∀ xs, SqL K H a xs → xs[i]? = some v) ∧ ∀ ys, SqL K H b ys → ys[i]? = some u,
   fun i H => ∃ xs ys, SqL K H a xs ∧ SqL K H b ys ∧ (xs.length ≤ i ∨ ys.length ≤ i)⟩
theorem two_tup {X : Cx} {H : Hp} {h : Heap} {T : Addr} {x y : V} {u v : Value} {n : Nat} (e : h.get? T = some { cls := .type "tuple", data := .seq #[u, v] n }) (r1 : RelV x u) (r2 : RelV y v) : ObjOk X.prog X.w H h T (.tup [x, y]) :=
  ⟨show 2 ≤ sizeLine by decide, [u, v], .cons r1 (.cons r2 .nil), ⟨_, e, ⟨rfl, rfl⟩, _, rfl⟩⟩
theorem ne_iter {h : Heap} {it a : Addr} {i : Nat} {l : Addr} {items : Array Value} (p : h.IsList a items) (q : h.IsListIter it l i) : a ≠ it := by
  intro e; subst e
  obtain ⟨o, e1, c1, _⟩ := p
  obtain ⟨o', e2, c2, _⟩ := q
  rw [e1] at e2; cases e2; rw [c1] at c2
  injection c2 with c3
  exact absurd c3 (by decide)
theorem turn_enum {P : Program} {w : World} {K : PySem.W.Frag} {elts : List Expr} {k : Nat} {pos : Pos} (a e it : Addr) (hne : e ≠ it) :
    Turn P w K (.Tuple elts k pos) (Ite K a) [e, it] e (fun i h => (∃ old, IsEnum h e it (i : Nat) old) ∧ h.IsListIter it a i) where
  mem := by simp
  obj := fun i h st b hb => by
    obtain ⟨⟨old, he⟩, ⟨o, ho, c, d⟩⟩ := st
    rcases List.mem_cons.mp hb with rfl | hb
    · exact ⟨_, he, fun v z => by have z' : Data.fields _ = Data.cell v := z; cases z'⟩
    · rw [List.mem_singleton.mp hb]
      exact ⟨o, ho, fun v z => by rw [d] at z; cases z⟩
  keep := fun i h h' st k => ⟨let ⟨old, he⟩ := st.1; ⟨old, k e (by simp) _ he⟩, st.2.at fun o q => k it (by simp) o q⟩
  item := by
    intro X hP hw hK hc i pins s σ H E I hf st hg
    subst hP hw hK
    obtain ⟨⟨old, he⟩, hit⟩ := st
    obtain ⟨xs, x, hq, hx⟩ := hg
    obtain ⟨its, rv, p, hz⟩ := I.list hq
    obtain ⟨u, hu, ru⟩ := rv.get hx
    have hlt : i < its.toArray.size := by have := (List.getElem?_eq_some_iff.mp hu).1; simpa using this
    have na : a ≠ it := ne_iter p.isList hit
    have nb : e ≠ a := by
      intro z; subst z
      obtain ⟨o, n, e1, c1, _⟩ := p
      rw [he] at e1; cases e1
      injection c1 with c3
      exact absurd c3 (by decide)
    have Dw := Draws.list (prog := X.prog) (w := X.w) (A := X.A.in1) (show X.A.in1.handled = none from I.ok.hd hc) it a na its.toArray
    refine wpAny_pyNext_enum_itemD Dw he ⟨hit, p.isList⟩ hlt hne (by simp [hne, nb]) fun y h1 tk hP ho st1 hT hsz hk => ?_
    have ey : y = u := by
      have h1 : its.toArray[i]? = some y := hP
      have h2 : its[i]? = some y := by simpa using h1
      rw [hu] at h2; exact (Option.some.inj h2).symm
    subst ey
    refine ⟨_, rfl, ?_⟩
    have fT : FpOk X pins H s.heap.objs.size := I.fpOk (Nat.le_refl _) (I.hok.fresh (Nat.le_refl _))
    refine wpAny_letOwnedTupleGo_enum ho fun h2 he2 hs2 => ?_
    have helt : e < s.heap.objs.size := Heap.lt_size he
    have I1 : Inv X pins σ H { s with heap := h2, toks := tk + 1 } := I.turnedL (t' := tk + 1) (ch := [e, it]) (fun b o hb q => by
      have b1 : b ≠ e := fun z => hb (by simp [z])
      have b2 : b ≠ it := fun z => hb (by simp [z])
      exact (hs2.2 b b1).trans (hk b o b1 b2 q)) hf
    have gT : h2.get? s.heap.objs.size = some { cls := .type "tuple", data := .seq #[.int i tk, y] } := (hs2.2 _ (Nat.ne_of_gt helt)).trans hT
    have I2 := I1.adopt (T := s.heap.objs.size) (o := .tup [.int (i : Nat), x]) fT (two_tup (X := X) gT ⟨tk, rfl⟩ ru)
    refine ⟨.ref s.heap.objs.size, _, I2, rfl, ⟨s.heap.objs.size, x, fT.1, rfl, rfl, fun ys hy => by rw [I.list_inj hy hq]; exact hx⟩, ⟨⟨y, ?_⟩, ?_⟩, fun b hb => ?_⟩
    · have e2 : (((i + 1 : Nat) : Nat) : Int) = (i : Int) + 1 := by lia
      show IsEnum h2 e it (((i + 1 : Nat) : Nat) : Int) y
      rw [e2]; exact he2
    · obtain ⟨o, q1, q2⟩ := st1.1
      exact ⟨o, (hs2.2 it (Ne.symm hne)).trans q1, q2⟩
    · have nT : b ≠ s.heap.objs.size := by
        rcases List.mem_cons.mp hb with rfl | hb
        · exact Nat.ne_of_lt helt
        · rw [List.mem_singleton.mp hb]
          obtain ⟨o, ho, _⟩ := hit
          exact Nat.ne_of_lt (Heap.lt_size ho)
      rw [upd_ne nT]; exact (hf b hb).1
  done := by
    intro X hP hw hK hc i pins s σ H E I hf st hg
    subst hP hw hK
    obtain ⟨⟨old, he⟩, hit⟩ := st
    obtain ⟨xs, hq, hx⟩ := hg
    obtain ⟨its, rv, p, hz⟩ := I.list hq
    have hl := rv.length
    have hT : s.TypeIs (.ref e) "enumerate" := ⟨_, he, rfl⟩
    unfold pyNext
    refine wpAny_bind (wpAny_attempt (wpAny_callSpecial?_slot (name := Str.ofString "__next__") hT F.slot_enumerate_next
      (wpAny_call_entry F.slot_enumerate_next hT F.entry_enumerate_next ?_ (F.args_enumerate_next_1 _))))
    show wpAny _ _ (field (.ref e) 2 >>= _) _ _ _
    refine wpAny_bind (wpAny_field he rfl (x := .ref it) rfl ?_)
    refine wpAny_bind (wpAny_nextOf_list_end (show X.A.in1.handled = none from I.ok.hd hc) hit p.isList (by simp; lia) fun h1 x1 eb hx1 => ?_)
    obtain ⟨o, ho, hcl⟩ := hx1
    refine wpAny_bind (wpAny_isInstance (T := "StopIteration") (b := true) ⟨o, ho, hcl⟩ isSubtype_stop ?_)
    exact wpAny_pure ⟨rfl, I.turnedL (t' := s.toks) (ch := [e, it]) (fun b ob hb q => eb b ob (fun z => hb (by simp [z])) q) hf⟩
  self := fun _ _ _ _ _ st h => let ⟨_, he⟩ := st.1; wpAny_pyIter_enum he h
section
variable {X : Cx} {elts : List Expr} {k : Nat} {tpos : Pos}
def iEnum (K : PySem.W.Frag) (tl : TA) : TI := fun σ H R => tl σ H fun vs H1 => ∃ a, vs = [.ref a] ∧ (∃ xs, SqL K H1 a xs) ∧ R (Ite K a) H1
theorem pi_enum {a : Expr} {ta : TA} {p pos : Pos} (hg : Gl X "enumerate") (hm : X.mg "enumerate" = none) (ha : PA X [a] ta) (hs : starEach [a] X.env = [(false, eval a X.env)] := by rfl) :
    PI X (.Tuple elts k tpos) (.Call (.Name "enumerate" p) [a] [] pos) (iEnum X.K ta) := by
  intro pins s σ H R I h
  refine Call_ (ld_blt I hg hm boot_enumerate (PyProof.Rows.callWith_type1 (thn (ha pos pins s σ H _ I h) fun us s1 ⟨vs, H1, I1, r1, q1⟩ => ?_) hs rfl))
  obtain ⟨l, e, ⟨xs, hq⟩, q⟩ := q1
  subst e
  cases r1 with
  | cons r rr =>
    cases rr
    cases r
    obtain ⟨its, rv, pl, hz⟩ := I1.list hq
    refine call_enumerate_list pl.isList fun h1 he hit hsz hk => ?_
    refine wpAny_pyIter_enum he ?_
    have I2 : Inv X pins σ H1 { s1 with heap := h1 } := I1.kept (t' := s1.toks) hk
    refine ⟨s1.heap.objs.size + 1, [s1.heap.objs.size + 1, s1.heap.objs.size], _, _, H1, rfl, I2, turn_enum l _ _ (Nat.succ_ne_self _), ⟨⟨.none, he⟩, hit⟩, fun b hb => ?_, q⟩
    have hb' : s1.heap.objs.size ≤ b := by
      rcases List.mem_cons.mp hb with rfl | hb
      · lia
      · rw [List.mem_singleton.mp hb]; exact Nat.le_refl _
    exact I1.fpOk hb' (I1.hok.fresh hb')
end
theorem turn_zip {P : Program} {w : World} {K : PySem.W.Frag} {elts : List Expr} {k : Nat} {pos : Pos} (z TI TO i1 i2 l1 l2 : Addr) (D : ZipApart z TI TO i1 i2 l1 l2) :
    Turn P w K (.Tuple elts k pos) (Itz K l1 l2) [z, TI, TO, i1, i2] z (fun i h => IsZip h z TI TO .none ∧ IsPair h TI (.ref i1) (.ref i2) ∧ (∃ a b, IsPair h TO a b) ∧ h.IsListIter i1 l1 i ∧ h.IsListIter i2 l2 i) where
  mem := by simp
  obj := fun i h st b hb => by
    obtain ⟨hz, hTI, ⟨a', b', hTO⟩, ⟨o1, e1, c1, d1⟩, ⟨o2, e2, c2, d2⟩⟩ := st
    simp only [List.mem_cons, List.not_mem_nil, or_false] at hb
    rcases hb with rfl | rfl | rfl | rfl | rfl
    · exact ⟨_, hz, fun v q => by have q' : Data.fields _ = Data.cell v := q; cases q'⟩
    · exact ⟨_, hTI, fun v q => by have q' : Data.seq _ _ = Data.cell v := q; cases q'⟩
    · exact ⟨_, hTO, fun v q => by have q' : Data.seq _ _ = Data.cell v := q; cases q'⟩
    · exact ⟨o1, e1, fun v q => by rw [d1] at q; cases q⟩
    · exact ⟨o2, e2, fun v q => by rw [d2] at q; cases q⟩
  keep := fun i h h' st k => by
    obtain ⟨hz, hTI, ⟨a', b', hTO⟩, h1, h2⟩ := st
    exact ⟨k z (by simp) _ hz, k TI (by simp) _ hTI, ⟨a', b', k TO (by simp) _ hTO⟩, h1.at fun o q => k i1 (by simp) o q, h2.at fun o q => k i2 (by simp) o q⟩
  item := by
    intro X hP hw hK hc i pins s σ H E I hf st hg
    subst hP hw hK
    obtain ⟨hz, hTI, ⟨a', b', hTO⟩, h1, h2⟩ := st
    obtain ⟨xs, x, ys, y, hq1, hx, hq2, hy⟩ := hg
    obtain ⟨its1, rv1, p1, _⟩ := I.list hq1
    obtain ⟨its2, rv2, p2, _⟩ := I.list hq2
    obtain ⟨u, hu, ru⟩ := rv1.get hx
    obtain ⟨v, hv, rv⟩ := rv2.get hy
    refine wpAny_pyNext_zip_item D hz hTI hTO h1 h2 p1.isList p2.isList (x := u) (y := v) (by simpa using hu) (by simpa using hv) fun h3 a1 a2 a3 a4 a5 a6 hk => ?_
    refine ⟨_, rfl, ?_⟩
    have fT : FpOk X pins H s.heap.objs.size := I.fpOk (Nat.le_refl _) (I.hok.fresh (Nat.le_refl _))
    have lt : ∀ {c o}, s.heap.get? c = some o → c ≠ s.heap.objs.size := fun e => Nat.ne_of_lt (Heap.lt_size e)
    refine wpAny_letOwnedTupleGo_zip a1 fun h4 hz4 hs4 => ?_
    have I1 : Inv X pins σ H { s with heap := h4, toks := s.toks } := I.turnedL (t' := s.toks) (ch := [z, TI, TO, i1, i2]) (fun b o hb q => by
      have b1 : b ≠ z := fun e => hb (by simp [e])
      exact (hs4.2 b b1).trans (hk b o b1 (fun e => hb (by simp [e])) (fun e => hb (by simp [e])) (fun e => hb (by simp [e])) q)) hf
    have gT : h4.get? s.heap.objs.size = some { cls := .type "tuple", data := .seq #[u, v] } := (hs4.2 _ (Ne.symm (lt hz))).trans a5
    have I2 := I1.adopt (T := s.heap.objs.size) (o := .tup [x, y]) fT (two_tup (X := X) gT ru rv)
    have ext : ∀ c o, c ≠ z → h3.get? c = some o → h4.get? c = some o := fun c o hc q => (hs4.2 c hc).trans q
    refine ⟨.ref s.heap.objs.size, _, I2, rfl, ⟨s.heap.objs.size, x, y, fT.1, rfl, rfl, fun zs hz => by rw [I.list_inj hz hq1]; exact hx, fun zs hz => by rw [I.list_inj hz hq2]; exact hy⟩,
      ⟨hz4, ext _ _ D.TIz (hk _ _ D.TIz D.TITO D.TIi1 D.TIi2 hTI), ⟨_, _, ext _ _ D.TOz a2⟩, a3.at fun o q => ext _ o D.i1z q, a4.at fun o q => ext _ o D.i2z q⟩, fun b hb => ?_⟩
    have nT : b ≠ s.heap.objs.size := by
      obtain ⟨o1, e1, _⟩ := h1
      obtain ⟨o2, e2, _⟩ := h2
      simp only [List.mem_cons, List.not_mem_nil, or_false] at hb
      rcases hb with rfl | rfl | rfl | rfl | rfl
      · exact lt hz
      · exact lt hTI
      · exact lt hTO
      · exact lt e1
      · exact lt e2
    rw [upd_ne nT]; exact (hf b hb).1
  done := by
    intro X hP hw hK hc i pins s σ H E I hf st hg
    subst hP hw hK
    obtain ⟨hz, hTI, ⟨a', b', hTO⟩, h1, h2⟩ := st
    obtain ⟨xs, ys, hq1, hq2, hend⟩ := hg
    obtain ⟨its1, rv1, p1, _⟩ := I.list hq1
    obtain ⟨its2, rv2, p2, _⟩ := I.list hq2
    have l1' := rv1.length
    have l2' := rv2.length
    refine wpAny_pyNext_zip_end (I.ok.hd hc) D hz hTI hTO h1 h2 p1.isList p2.isList (hend.imp (fun h => by simp; lia) fun h => by simp; lia) fun h3 hk => ⟨rfl, ?_⟩
    exact I.turnedL (t' := s.toks) (ch := [z, TI, TO, i1, i2]) (fun b o hb q => hk b o (fun e => hb (by simp [e])) (fun e => hb (by simp [e])) (fun e => hb (by simp [e])) (fun e => hb (by simp [e])) q) hf
  self := fun _ _ _ _ _ st h => wpAny_pyIter_zip st.1 h
section
variable {X : Cx} {elts : List Expr} {k : Nat} {tpos : Pos}
def iZip (K : PySem.W.Frag) (tl : TA) : TI := fun σ H R => tl σ H fun vs H1 => ∃ a b, vs = [.ref a, .ref b] ∧ (∃ xs, SqL K H1 a xs) ∧ (∃ xs, SqL K H1 b xs) ∧ R (Itz K a b) H1
theorem pi_zip {a b : Expr} {ta : TA} {p pos : Pos} (hg : Gl X "zip") (hm : X.mg "zip" = none) (ha : PA X [a, b] ta) (hs : starEach [a, b] X.env = [(false, eval a X.env), (false, eval b X.env)] := by rfl) (hs2 : starEach [b] X.env = [(false, eval b X.env)] := by rfl) :
    PI X (.Tuple elts k tpos) (.Call (.Name "zip" p) [a, b] [] pos) (iZip X.K ta) := by
  intro pins s σ H R I h
  refine Call_ (ld_blt I hg hm boot_zip (PyProof.Rows.callWith_type1 (thn (ha pos pins s σ H _ I h) fun us s1 ⟨vs, H1, I1, r1, q1⟩ => ?_) (by rw [hs, hs2]) (by rw [hs2]; rfl)))
  obtain ⟨l1, l2, e, ⟨xs, hq1⟩, ⟨ys, hq2⟩, q⟩ := q1
  subst e
  cases r1 with
  | cons r rr =>
    cases rr with
    | cons r' rr =>
      cases rr
      cases r
      cases r'
      obtain ⟨its1, rv1, p1, _⟩ := I1.list hq1
      obtain ⟨its2, rv2, p2, _⟩ := I1.list hq2
      have b1 : l1 < s1.heap.objs.size := by obtain ⟨o, e, _⟩ := p1.isList; exact Heap.lt_size e
      have b2 : l2 < s1.heap.objs.size := by obtain ⟨o, e, _⟩ := p2.isList; exact Heap.lt_size e
      refine call_zip_2 p1.isList p2.isList fun h1 hz hTI hTO hi1 hi2 hsz hk => ?_
      refine wpAny_pyIter_zip hz ?_
      have I2 : Inv X pins σ H1 { s1 with heap := h1 } := I1.kept (t' := s1.toks) hk
      refine ⟨_, _, _, _, H1, rfl, I2, turn_zip _ _ _ _ _ l1 l2 (zipApart_new b1 b2), ⟨hz, hTI, ⟨_, _, hTO⟩, hi1, hi2⟩, fun b hb => ?_, q⟩
      have hb' : s1.heap.objs.size ≤ b := by
        simp only [List.mem_cons, List.not_mem_nil, or_false] at hb
        rcases hb with rfl | rfl | rfl | rfl | rfl <;> lia
      exact I1.fpOk hb' (I1.hok.fresh hb')
end
theorem for_enum {K : PySem.W.Frag} {a : Addr} {xs : List V} {g : TG} {tb : TS} {D : Ends} {σ : St} {H : Hp} (Pv : Nat → St → Hp → Prop) (h0 : Pv 0 σ H) (hl : ∀ i σ H, i ≤ xs.length → Pv i σ H → SqL K H a xs)
    (hs : ∀ i x σ H p, xs[i]? = some x → H p = none → Pv i σ H → g (.ref p) σ (upd H p (.tup [.int (i : Nat), x])) fun σ2 H2 => tb { D with nx := Pv (i + 1), ct := Pv (i + 1), bk := D.nx } σ2 H2) (hd : ∀ σ H, Pv xs.length σ H → D.nx σ H) :
    ∃ W : Nat → Nat → St → Hp → Prop, (∃ m, W 0 m σ H) ∧ ∀ i m σ H, W i m σ H →
      ((Ite K a).stop i H ∧ D.nx σ H) ∨ ((Ite K a).go i H ∧ ∃ N : St → Hp → Prop, (∀ σ' H', N σ' H' → ∃ m', m' < m ∧ W (i + 1) m' σ' H') ∧ ∀ x H', (Ite K a).yld i H x H' → g x σ H' fun σ2 H2 => tb { D with nx := N, ct := N, bk := D.nx } σ2 H2) := by
  refine ⟨fun i m σ H => m = xs.length - i ∧ i ≤ xs.length ∧ Pv i σ H, ⟨xs.length, by simp, Nat.zero_le _, h0⟩, ?_⟩
  rintro i m σ H ⟨rfl, hi, p⟩
  have q := hl i σ H hi p
  by_cases hlt : i < xs.length
  · refine .inr ⟨⟨xs, xs[i], q, by simp [hlt]⟩, Pv (i + 1), fun σ' H' p' => ⟨xs.length - (i + 1), by lia, rfl, hlt, p'⟩, fun x H' y => ?_⟩
    obtain ⟨pp, v, e1, rfl, rfl, y⟩ := y
    exact hs i v σ H pp (y xs q) e1 p
  · have e : i = xs.length := by lia
    subst e
    exact .inl ⟨⟨xs, q, Nat.le_refl _⟩, hd σ H p⟩
theorem for_zip {K : PySem.W.Frag} {a b : Addr} {xs ys : List V} {g : TG} {tb : TS} {D : Ends} {σ : St} {H : Hp} (el : xs.length = ys.length) (Pv : Nat → St → Hp → Prop) (h0 : Pv 0 σ H) (hl : ∀ i σ H, i ≤ xs.length → Pv i σ H → SqL K H a xs ∧ SqL K H b ys)
    (hs : ∀ i x y σ H p, xs[i]? = some x → ys[i]? = some y → H p = none → Pv i σ H → g (.ref p) σ (upd H p (.tup [x, y])) fun σ2 H2 => tb { D with nx := Pv (i + 1), ct := Pv (i + 1), bk := D.nx } σ2 H2) (hd : ∀ σ H, Pv xs.length σ H → D.nx σ H) :
    ∃ W : Nat → Nat → St → Hp → Prop, (∃ m, W 0 m σ H) ∧ ∀ i m σ H, W i m σ H →
      ((Itz K a b).stop i H ∧ D.nx σ H) ∨ ((Itz K a b).go i H ∧ ∃ N : St → Hp → Prop, (∀ σ' H', N σ' H' → ∃ m', m' < m ∧ W (i + 1) m' σ' H') ∧ ∀ x H', (Itz K a b).yld i H x H' → g x σ H' fun σ2 H2 => tb { D with nx := N, ct := N, bk := D.nx } σ2 H2) := by
  refine ⟨fun i m σ H => m = xs.length - i ∧ i ≤ xs.length ∧ Pv i σ H, ⟨xs.length, by simp, Nat.zero_le _, h0⟩, ?_⟩
  rintro i m σ H ⟨rfl, hi, p⟩
  obtain ⟨q1, q2⟩ := hl i σ H hi p
  by_cases hlt : i < xs.length
  · have hlt2 : i < ys.length := by lia
    refine .inr ⟨⟨xs, xs[i], ys, ys[i], q1, by simp [hlt], q2, by simp [hlt2]⟩, Pv (i + 1), fun σ' H' p' => ⟨xs.length - (i + 1), by lia, rfl, hlt, p'⟩, fun x H' y => ?_⟩
    obtain ⟨pp, v, u, e1, rfl, rfl, y1, y2⟩ := y
    exact hs i v u σ H pp (y1 xs q1) (y2 ys q2) e1 p
  · have e : i = xs.length := by lia
    subst e
    exact .inl ⟨⟨xs, ys, q1, q2, .inl (Nat.le_refl _)⟩, hd σ H p⟩
end L2
namespace PySem
open Sem (wp)
open Builtin MeetsSeq MeetsSeq2 MeetsSeq3
theorem noFill_tuple_mul : fillsNumberSlot (.type "tuple") "mul" = pure false :=
  fillsNumberSlot_seq (id := "tuple.__mul__") (r := some (.builtin "tuple.__rmul__")) F.slot_tuple_mul.lookup (by decide +kernel) F.slot_tuple_rmul.lookup (by decide +kernel)
theorem repeat_tuple : seqRepeat? (.type "tuple") = pure (some (.builtin "tuple.__mul__")) := by
  unfold seqRepeat?
  rw [seqSlot_of (T := "tuple") (name := "__mul__") (id := "tuple.__mul__") F.slot_tuple_mul.lookup (by decide +kernel), seqSlot_of (T := "tuple") (name := "__rmul__") (id := "tuple.__rmul__") F.slot_tuple_rmul.lookup (by decide +kernel)]
  rfl
theorem int_rmul_tuple (a : Int) (t : Tok) (l : Addr) (items : Array Value) (n : Nat) (dd : Option Addr) (sl : Array (Option Value)) :
    Meets (Builtin.«int.__rmul__» ⟨[.int a t, .ref l], []⟩) (fun _ R s => s.heap.get? l = some { cls := .type "tuple", dict := dd, data := .seq items n, slots := sl } ∧ R (.ok (.ret Value.notImplemented)) s) :=
  .of_wp fun prog w A R s h => by obtain ⟨hp, g, d, tk, os⟩ := s; obtain ⟨hl, h⟩ := h; wp_walk; exact ⟨_, rfl, h⟩
theorem tuple_mul_many (l : Addr) (items : Array Value) (n : Nat) (dd : Option Addr) (sl : Array (Option Value)) (x : Int) (u : Tok) (hlo : -(2 ^ 63) ≤ x) (hhi : x < 2 ^ 63) (he : items.isEmpty = false) (h1 : ¬ x = 1) (hp : 0 < x) (hsz : items.size * x.toNat ≤ sizeLine) :
    Meets (Builtin.«tuple.__mul__» ⟨[.ref l, .int x u], []⟩) (fun _ R s => s.heap.get? l = some { cls := .type "tuple", dict := dd, data := .seq items n, slots := sl } ∧
      R (.ok (.ret (Value.ref s.heap.objs.size))) { s with heap := s.heap.push { cls := Value.type "tuple", data := Data.seq (List.foldl (fun x1 x2 => x1 ++ x2) #[] (List.replicate x.toNat items)) }, toks := s.toks }) :=
  .of_wp fun prog w A R s h => by
    obtain ⟨hp, g, d, tk, os⟩ := s; obtain ⟨hl, h⟩ := h
    have z1 : (decide (x < -(2 ^ 63)) || decide (x ≥ 2 ^ 63)) = false := by simp; lia
    have z2 : (items.isEmpty || x == 1) = false := by simp [he, h1]
    have z3 : (decide (x ≤ 0) || items.isEmpty) = false := by simp [he]; lia
    have ex : (items.size : Int) * x = ((items.size * x.toNat : Nat) : Int) := by
      rw [Int.natCast_mul]; congr 1; lia
    have z4 : ¬ ((items.size : Int) * x > (2 ^ 63 - 1) / 8) := by
      rw [ex]
      have : (sizeLine : Nat) ≤ (2 ^ 63 - 1) / 8 := by decide
      lia
    have z5 : Tuple.tupleTooMany ((items.size : Int) * x) = false := by
      unfold Tuple.tupleTooMany
      rw [ex]
      exact decide_eq_false (by lia)
    have z6 : (List.foldl (fun (x1 x2 : Array Value) => x1 ++ x2) #[] (List.replicate x.toNat items)).size ≤ sizeLine := by
      have e := AutoListH.size_joined items x.toNat #[]
      rw [e, Nat.mul_comm]
      simpa using hsz
    wp_walk
    refine wpAny_ite_false (by rw [z1]; rfl) ?_
    wp_walk using AutoSeq1.wpAny_loadPart' hl
    refine wpAny_ite_false (decide_eq_false z4) ?_
    wp_walk
    refine wpAny_ite_false (by rw [z5]; rfl) ?_
    wp_walk
    exact ⟨_, rfl, h⟩
theorem tuple_mul_one (l : Addr) (items : Array Value) (n : Nat) (dd : Option Addr) (sl : Array (Option Value)) (u : Tok) :
    Meets (Builtin.«tuple.__mul__» ⟨[.ref l, .int 1 u], []⟩) (fun _ R s => s.heap.get? l = some { cls := .type "tuple", dict := dd, data := .seq items n, slots := sl } ∧ R (.ok (.ret (Value.ref l))) s) :=
  .of_wp fun prog w A R s h => by
    obtain ⟨hp, g, d, tk, os⟩ := s; obtain ⟨hl, h⟩ := h
    have z2 : (items.isEmpty || (1 : Int) == 1) = true := by simp
    wp_walk using AutoSeq1.wpAny_loadPart' hl
    first | exact ⟨_, rfl, h⟩ | trace_state
theorem tuple_mul_none (l : Addr) (items : Array Value) (n : Nat) (dd : Option Addr) (sl : Array (Option Value)) (u : Tok) (he : items.isEmpty = false) :
    Meets (Builtin.«tuple.__mul__» ⟨[.ref l, .int 0 u], []⟩) (fun _ R s => s.heap.get? l = some { cls := .type "tuple", dict := dd, data := .seq items n, slots := sl } ∧
      R (.ok (.ret (Value.ref s.heap.objs.size))) { s with heap := s.heap.push { cls := Value.type "tuple", data := Data.seq #[] }, toks := s.toks }) :=
  .of_wp fun prog w A R s h => by
    obtain ⟨hp, g, d, tk, os⟩ := s; obtain ⟨hl, h⟩ := h
    have z2 : (items.isEmpty || (0 : Int) == 1) = false := by simp [he]
    have z3 : (decide ((0 : Int) ≤ 0) || items.isEmpty) = true := by simp
    wp_walk using AutoSeq1.wpAny_loadPart' hl
    first | exact ⟨_, rfl, h⟩ | trace_state
end PySem
namespace L2
open PySem PySem.Spec PyProof.Rows
section
variable {X : Cx}
def rRepT (K : PySem.W.Frag) : R2 := fun x y H Q => ∃ (l : Addr) (k : Nat) (xs : List V), x = .ref l ∧ y = .int (k : Nat) ∧ SqT K H l xs ∧ xs ≠ [] ∧ xs.length * k ≤ sizeLine ∧ (k = 1 → Q (.ref l) H) ∧
  (k ≠ 1 → ∀ p, H p = none → Q (.ref p) (upd H p (.tup (List.replicate k xs).flatten)))
theorem op_repT : OpR X (binaryOp .Mult) (rRepT X.K) := by
  intro pins s σ H x y v u Q I rx ry h
  obtain ⟨l, k, xs, rfl, rfl, hq, hne, hz, q1, q2⟩ := h
  cases rx
  obtain ⟨t, rfl⟩ := ry
  obtain ⟨its, r, ⟨⟨cls, dd, data, sl⟩, e, hc, n, hd⟩, hl⟩ := I.tuple hq
  simp only at hc hd
  subst hc hd
  have hlen := r.length
  have he : its.toArray.isEmpty = false := by
    cases its with
    | nil => simp at hlen; exact absurd hlen hne
    | cons a r' => rfl
  have hs : its.toArray.size * k ≤ sizeLine := by rw [List.size_toArray, ← hlen]; exact hz
  have road : wpAny (model X.prog X.w) X.A (call (.builtin "tuple.__mul__") [.ref l, .int (k : Nat) t]) (EP X pins σ Q) X.xe s → wpAny (model X.prog X.w) X.A (binaryOp .Mult (.ref l) (.int (k : Nat) t)) (EP X pins σ Q) X.xe s := fun hcall =>
    wpAny_binaryOp_repeat_ref (T := "tuple") (U := "int") (by decide) ⟨_, e, rfl⟩ (fun s' => typeIs_int s' k t) noFill_tuple_mul F.fills_int_mul F.slot_int_rmul repeat_tuple F.slot_int_index.lookup
      (call_meets F.slot_int_rmul (typeIs_int s k t) F.entry_int_rmul (F.args_int_rmul_2 _ _) (int_rmul_tuple k t l its.toArray n dd sl) ⟨e, rfl, ⟨_, e, rfl⟩, hcall⟩)
  refine road ?_
  by_cases h1 : k = 1
  · subst h1
    exact call_meets F.slot_tuple_mul ⟨_, e, rfl⟩ F.entry_tuple_mul (F.args_tuple_mul_2 _ _) (tuple_mul_one l its.toArray n dd sl t) ⟨e, ⟨.ref l, H, I, rfl, q1 rfl⟩⟩
  · have hn : H s.heap.objs.size = none := I.hok.fresh (Nat.le_refl _)
    by_cases h0 : k = 0
    · subst h0
      refine call_meets F.slot_tuple_mul ⟨_, e, rfl⟩ F.entry_tuple_mul (F.args_tuple_mul_2 _ _) (tuple_mul_none l its.toArray n dd sl t he) ⟨e, ⟨.ref s.heap.objs.size, _, ?_, rfl, q2 h1 _ hn⟩⟩
      exact I.laid (t' := s.toks) (fun b o e => Heap.get?_push_of_some _ e) (Nat.le_refl _) ⟨Nat.zero_le _, [], .nil, ⟨_, Heap.get?_push_size _ rfl, ⟨rfl, rfl⟩, _, rfl⟩⟩
    · have hk64 : (k : Int) < 2 ^ 63 := by
        have h3 : 1 ≤ its.toArray.size := by
          cases its with
          | nil => simp at he
          | cons a r' => simp
        have h4 : k ≤ its.toArray.size * k := Nat.le_mul_of_pos_left k h3
        have h5 : (sizeLine : Nat) < 2 ^ 63 := by decide
        lia
      refine call_meets F.slot_tuple_mul ⟨_, e, rfl⟩ F.entry_tuple_mul (F.args_tuple_mul_2 _ _) (tuple_mul_many l its.toArray n dd sl k t (by lia) hk64 he (by lia) (by lia) (by simpa using hs)) ⟨e, ?_⟩
      have f0 := foldl_rep its k []
      rw [List.nil_append] at f0
      have ek : ((k : Nat) : Int).toNat = k := by simp
      rw [ek, f0]
      refine ⟨.ref s.heap.objs.size, _, ?_, rfl, q2 h1 _ hn⟩
      refine I.laid (t' := s.toks) (fun b o e => Heap.get?_push_of_some _ e) (Nat.le_refl _) ⟨?_, (List.replicate k its).flatten, r.rep k, ⟨_, Heap.get?_push_size _ rfl, ⟨rfl, rfl⟩, _, rfl⟩⟩
      rw [len_rep, Nat.mul_comm]; exact hz
theorem call_divmodW : CallR X (.builtin "divmod") (fun xs H Q => ∃ i j, xs = [.int i, .int j] ∧ (0 < j ∧ j < 2 ^ 64) ∧ ∀ p, H p = none → Q (.ref p) (upd H p (.tup [.int (i / j), .int (i % j)]))) := by
  intro pins s σ H xs us Q I r h
  obtain ⟨i, j, rfl, ⟨h1, h2⟩, q⟩ := h
  obtain ⟨u, w', rfl, ⟨t, rfl⟩, ⟨t', rfl⟩⟩ := vals2 r
  have hb : j.natAbs.log2 < 9000 := by
    have h3 : j.natAbs.log2 < 64 := (Nat.log2_lt (by lia)).mpr (by lia)
    lia
  refine divmod_int (by lia) ?_ (.inl (PyProof.noPylong_of_log2 hb))
  rw [Int.fdiv_eq_ediv_of_nonneg i (by lia), Int.fmod_eq_emod_of_nonneg i (by lia)]
  have hn : H s.heap.objs.size = none := I.hok.fresh (Nat.le_refl _)
  refine ⟨.ref s.heap.objs.size, _, ?_, rfl, q _ hn⟩
  refine I.laid (fun b o e => Heap.get?_push_of_some _ e) (Nat.le_refl _) ⟨by simp only [List.length_cons, List.length_nil]; rw [sizeLine_eq]; decide, [.int (i / j) s.toks, .int (i % j) (s.toks + 1)], .cons ⟨_, rfl⟩ (.cons ⟨_, rfl⟩ .nil), ?_⟩
  exact ⟨_, Heap.get?_push_size s.heap rfl, ⟨rfl, rfl⟩, 0, rfl⟩
inductive IsiV (K : PySem.W.Frag) (H : Hp) : V → String → Bool → Prop where
  | int_int (i : Int) : IsiV K H (.int i) "int" true
  | int_bool (i : Int) : IsiV K H (.int i) "bool" false
  | int_tuple (i : Int) : IsiV K H (.int i) "tuple" false
  | str_tuple (x : Str) : IsiV K H (.str x) "tuple" false
  | tup_tuple {a : Addr} {xs : List V} (h : SqT K H a xs) : IsiV K H (.ref a) "tuple" true
  | lst_list {a : Addr} {xs : List V} (h : SqL K H a xs) : IsiV K H (.ref a) "list" true
  | str_str (x : Str) : IsiV K H (.str x) "str" true
  | bl_bool (b : Bool) : IsiV K H (.bl b) "bool" true
theorem call_isi : CallR X (.builtin "isinstance") (fun xs H Q => ∃ x T b, xs = [x, .ty T] ∧ IsiV X.K H x T b ∧ Q (.bl b) H) := by
  intro pins s σ H xs us Q I r h
  obtain ⟨x, T, b, rfl, hi, q⟩ := h
  obtain ⟨u, w', rfl, r1, r2⟩ := vals2 r
  cases r2
  cases hi with
  | int_int i => obtain ⟨t, rfl⟩ := r1; exact IsiPair.int_int ⟨.bl true, H, I, rfl, q⟩
  | int_bool i => obtain ⟨t, rfl⟩ := r1; exact IsiPair.int_bool ⟨.bl false, H, I.tok _, rfl, q⟩
  | int_tuple i => obtain ⟨t, rfl⟩ := r1; exact IsiPair.int_tuple ⟨.bl false, H, I.tok _, rfl, q⟩
  | str_tuple z => obtain ⟨t, rfl⟩ := r1; exact IsiPair.str_tuple ⟨.bl false, H, I.tok _, rfl, q⟩
  | tup_tuple hs =>
    cases r1
    obtain ⟨its, rv, ⟨o, e, hc, _⟩, hz⟩ := I.tuple hs
    exact IsiPair.tuple_tuple e hc ⟨.bl true, H, I, rfl, q⟩
  | lst_list hs =>
    cases r1
    obtain ⟨its, rv, pl, hz⟩ := I.list hs
    obtain ⟨o, e, hc, _⟩ := pl.isList
    exact IsiPair.list_list e hc ⟨.bl true, H, I, rfl, q⟩
  | str_str z => obtain ⟨t, rfl⟩ := r1; exact IsiPair.str_str ⟨.bl true, H, I, rfl, q⟩
  | bl_bool z => cases r1; exact IsiPair.bool_bool ⟨.bl true, H, I, rfl, q⟩
theorem all_ix (bs : List Bool) : (List.range bs.length).all (fun i => (bs[i]?).getD false) = bs.all id := by
  rw [Bool.eq_iff_iff, List.all_eq_true, List.all_eq_true]
  constructor
  · intro h b hb
    obtain ⟨i, hi, e⟩ := List.mem_iff_getElem.mp hb
    have := h i (List.mem_range.mpr hi)
    rw [List.getElem?_eq_getElem hi, Option.getD_some, e] at this
    exact this
  · intro h i hi
    have hi := List.mem_range.mp hi
    rw [List.getElem?_eq_getElem hi, Option.getD_some]
    exact h _ (List.getElem_mem hi)
theorem call_sum_int (hc : X.calm = true) : CallR X (.builtin "sum") (fun xs H Q => ∃ (p : Addr) (ns : List Int), xs = [.ref p] ∧ SqL X.K H p (ns.map V.int) ∧ ∀ z : Int, Q (.int z) H) := by
  intro pins s σ H xs us Q I r h
  obtain ⟨p, ns, rfl, hq, q⟩ := h
  obtain ⟨u, rfl, rx⟩ := vals1 r
  cases rx
  obtain ⟨its, rv, pl, hz⟩ := I.list hq
  have intsOf : ∀ (ns : List Int) (its : List Value), Vals (ns.map V.int) its → ∃ xs : List (Int × Tok), its = xs.map fun p => Value.int p.1 p.2 := by
    intro ns
    induction ns with
    | nil => intro its r; cases r; exact ⟨[], rfl⟩
    | cons n ns ih =>
      intro its r
      cases r with
      | cons r rr =>
        obtain ⟨xs, rfl⟩ := ih _ rr
        obtain ⟨t, rfl⟩ := r
        exact ⟨(n, t) :: xs, rfl⟩
  obtain ⟨xs, rfl⟩ := intsOf ns its rv
  refine sum_intListG (xs := xs.toArray) (I.ok.hd hc) ?_ fun h' tk t' hk => ⟨.int _, H, I.kept hk, ⟨t', rfl⟩, q _⟩
  have e := pl.isList
  simpa [intItems] using e
end
section
variable {X : Cx}
theorem strs_are : ∀ {ys : List Str} {us : List Value}, Vals (ys.map V.str) us → StrsAre us ys
  | [], _, r => by cases r; exact .nil
  | y :: ys, _, r => by
    cases r with
    | cons r rr =>
      obtain ⟨t, rfl⟩ := r
      exact .cons _ _ (strs_are rr)
def rJoin (K : PySem.W.Frag) : V → List V → Hp → VK → Prop := fun x vs H Q => ∃ (sep : Str) (p : Addr) (ys : List Str), x = .str sep ∧ vs = [.ref p] ∧ SqL K H p (ys.map V.str) ∧ (ys.map (·.length)).sum + ys.length * sep.length ≤ 16777216 ∧ Q (.str (Txt.join sep ys)) H
theorem mt_join : MtR X "str.join" (rJoin X.K) := by
  intro pins s σ H x vs v us Q I rx rv h
  obtain ⟨sep, p, ys, rfl, rfl, hq, hz, q⟩ := h
  obtain ⟨t, rfl⟩ := rx
  obtain ⟨u, rfl, ru⟩ := rv.one
  cases ru
  obtain ⟨its, r, pl, _⟩ := I.list hq
  exact join_list pl.isList (by simpa using strs_are r) hz fun t' k => ⟨.str _, H, I.tok k, ⟨t', rfl⟩, q⟩
end
section
variable {X : Cx}
def eqVs (xs ys : List V) : Bool := (List.range (min xs.length ys.length)).all (fun j => eqV ((xs[j]?).getD .non) ((ys[j]?).getD .non)) && xs.length == ys.length
def rEqT (K : PySem.W.Frag) (neg : Bool) : R2 := fun x y H Q => ∃ p q xs ys, x = .ref p ∧ y = .ref q ∧ SqT K H p xs ∧ SqT K H q ys ∧ xs.all flatV = true ∧ ys.all flatV = true ∧ Q (.bl (if neg then !eqVs xs ys else eqVs xs ys)) H
theorem at_eq {A : Around} {s : Shared} {xs ys : List V} {us vs : List Value} (r1 : Vals xs us) (r2 : Vals ys vs) (f1 : xs.all flatV = true) (f2 : ys.all flatV = true) :
    ∀ j (h1 : j < us.toArray.size) (h2 : j < vs.toArray.size), SeqAt.EqAt A s us.toArray[j] vs.toArray[j] (eqV ((xs[j]?).getD .non) ((ys[j]?).getD .non)) := by
  intro j h1 h2
  have l1 := r1.length
  have l2 := r2.length
  rw [List.size_toArray] at h1 h2
  have j1 : j < xs.length := by lia
  have j2 : j < ys.length := by lia
  obtain ⟨u, hu, ru⟩ := r1.get (List.getElem?_eq_getElem j1)
  obtain ⟨v, hv, rv⟩ := r2.get (List.getElem?_eq_getElem j2)
  have eu : us.toArray[j] = u := by
    have := List.getElem?_eq_getElem h1
    rw [hu] at this
    simpa using (Option.some.inj this).symm
  have ev : vs.toArray[j] = v := by
    have := List.getElem?_eq_getElem h2
    rw [hv] at this
    simpa using (Option.some.inj this).symm
  rw [eu, ev, List.getElem?_eq_getElem j1, List.getElem?_eq_getElem j2, Option.getD_some, Option.getD_some]
  exact eqAt_V ru rv (List.all_eq_true.mp f1 _ (List.getElem_mem j1)) (List.all_eq_true.mp f2 _ (List.getElem_mem j2))
theorem op_eqT (hu : X.A.units < cLine) : OpR X (compareOp .Eq) (rEqT X.K false) := by
  intro pins s σ H x y v u Q I rx ry h
  obtain ⟨p, q, xs, ys, rfl, rfl, h1, h2, f1, f2, qq⟩ := h
  cases rx
  cases ry
  obtain ⟨us, r1, t1, _⟩ := I.tuple h1
  obtain ⟨vs, r2, t2, _⟩ := I.tuple h2
  refine SeqAt.eq_tupleAt (show s.heap.IsTuple p us.toArray from t1) (show s.heap.IsTuple q vs.toArray from t2) hu (at_eq r1 r2 f1 f2) ⟨.bl (eqVs xs ys), H, I, ?_, qq⟩
  show Value.bool _ = Value.bool _
  unfold eqVs
  rw [List.size_toArray, List.size_toArray, r1.length, r2.length]
def rEqTS (K : PySem.W.Frag) : R2 := fun x y H Q => ∃ p xs z, x = .ref p ∧ y = .str z ∧ SqT K H p xs ∧ Q (.bl false) H
theorem op_eqTS (hu : X.A.units < cLine) : OpR X (compareOp .Eq) (rEqTS X.K) := by
  intro pins s σ H x y v u Q I rx ry h
  obtain ⟨p, xs, z, rfl, rfl, h1, qq⟩ := h
  cases rx
  obtain ⟨t, rfl⟩ := ry
  obtain ⟨us, r1, t1, _⟩ := I.tuple h1
  exact SeqAt.RcAt.tuple_str z t (show s.heap.IsTuple p us.toArray from t1) hu X.prog X.w X.xe _ ⟨.bl false, H, I, rfl, qq⟩
theorem op_neT (hu : X.A.units < cLine) : OpR X (compareOp .NotEq) (rEqT X.K true) := by
  intro pins s σ H x y v u Q I rx ry h
  obtain ⟨p, q, xs, ys, rfl, rfl, h1, h2, f1, f2, qq⟩ := h
  cases rx
  cases ry
  obtain ⟨us, r1, t1, _⟩ := I.tuple h1
  obtain ⟨vs, r2, t2, _⟩ := I.tuple h2
  refine SeqAt.RcNeAt.tuples (show s.heap.IsTuple p us.toArray from t1) (show s.heap.IsTuple q vs.toArray from t2) hu (at_eq r1 r2 f1 f2) X.prog X.w X.xe _ ⟨.bl (!eqVs xs ys), H, I, ?_, qq⟩
  show Value.bool _ = Value.bool _
  unfold eqVs
  rw [List.size_toArray, List.size_toArray, r1.length, r2.length]
end
section
variable {X : Cx}
def rEqL (K : PySem.W.Frag) (neg : Bool) : R2 := fun x y H Q => ∃ p q xs ys, x = .ref p ∧ y = .ref q ∧ SqL K H p xs ∧ SqL K H q ys ∧ xs.all flatV = true ∧ ys.all flatV = true ∧ Q (.bl (if neg then !eqVs xs ys else eqVs xs ys)) H
theorem eqVs_len {xs ys : List V} (h : xs.length = ys.length) : eqVs xs ys = (List.range xs.length).all (fun j => eqV ((xs[j]?).getD .non) ((ys[j]?).getD .non)) := by
  unfold eqVs; rw [← h, Nat.min_self]; simp
theorem eqVs_ne {xs ys : List V} (h : ¬ xs.length = ys.length) : eqVs xs ys = false := by
  unfold eqVs; rw [Bool.and_eq_false_iff]; right; simpa using h
theorem op_eqL (hu : X.A.units < cLine) : OpR X (compareOp .Eq) (rEqL X.K false) := by
  intro pins s σ H x y v u Q I rx ry h
  obtain ⟨p, q, xs, ys, rfl, rfl, h1, h2, f1, f2, qq⟩ := h
  cases rx
  cases ry
  obtain ⟨us, r1, t1, _⟩ := I.list h1
  obtain ⟨vs, r2, t2, _⟩ := I.list h2
  have l1 := r1.length
  have l2 := r2.length
  by_cases c : xs.length = ys.length
  · refine SeqAt.eq_listAt t1.isList t2.isList (by rw [List.size_toArray, List.size_toArray]; lia) hu (at_eq r1 r2 f1 f2) ⟨.bl (eqVs xs ys), H, I, ?_, qq⟩
    show Value.bool _ = Value.bool _
    rw [eqVs_len c, List.size_toArray, l1]
  · refine SeqAt.eq_list_lengthsAt t1.isList t2.isList (by rw [List.size_toArray, List.size_toArray]; simp; lia) hu ⟨.bl (eqVs xs ys), H, I, ?_, qq⟩
    show Value.bool _ = Value.bool _
    rw [eqVs_ne c]
theorem op_neL (hu : X.A.units < cLine) : OpR X (compareOp .NotEq) (rEqL X.K true) := by
  intro pins s σ H x y v u Q I rx ry h
  obtain ⟨p, q, xs, ys, rfl, rfl, h1, h2, f1, f2, qq⟩ := h
  cases rx
  cases ry
  obtain ⟨us, r1, t1, _⟩ := I.list h1
  obtain ⟨vs, r2, t2, _⟩ := I.list h2
  have l1 := r1.length
  have l2 := r2.length
  by_cases c : xs.length = ys.length
  · refine SeqAt.RcNeAt.lists t1.isList t2.isList (by rw [List.size_toArray, List.size_toArray]; lia) hu (at_eq r1 r2 f1 f2) X.prog X.w X.xe _ ⟨.bl (!eqVs xs ys), H, I, ?_, qq⟩
    show Value.bool _ = Value.bool _
    rw [eqVs_len c, List.size_toArray, l1]
  · refine SeqAt.RcNeAt.lists_lengths t1.isList t2.isList (by rw [List.size_toArray, List.size_toArray]; simp; lia) hu X.prog X.w X.xe _ ⟨.bl (!eqVs xs ys), H, I, ?_, qq⟩
    show Value.bool _ = Value.bool _
    rw [eqVs_ne c]; rfl
end
section
variable {prog : Program} {w : World} {A : Around} {E : Value → Shared → Prop}
theorem draw_listU {it t : Addr} {items : Array Value} (hne : t ≠ it) : ∀ (n i : Nat) (s : Shared) (Q : List Value → Shared → Prop), s.heap.IsListIter it t i → s.heap.IsList t items → i + n ≤ items.size →
    (∀ h' : Heap, h'.IsListIter it t (i + n) → Heap.SameBut it s.heap h' → Q ((items.toList.drop i).take n) { s with heap := h' }) → wpAny (model prog w) A (draw (.ref it) n) Q E s
  | 0, i, s, Q, hit, _, _, hQ => by
    show wpAny _ _ (pure []) Q E s
    exact wpAny_pure (by simpa using hQ s.heap hit (Heap.SameBut.refl ..))
  | n + 1, i, s, Q, hit, ht, hle, hQ => by
    have hlt : i < items.size := by lia
    show wpAny _ _ (pyNext (.ref it) >>= _) Q E s
    refine wpAny_bind (wpAny_pyNext_list_item hit ht (x := items[i]) (by simp [hlt]) fun h₁ hit₁ hs₁ => ?_)
    refine wpAny_bind (wpAny_holding (draw_listU hne n (i + 1) _ _ hit₁ (ht.extBut hs₁.extBut hne) (by lia) fun h₂ hit₂ hs₂ => wpAny_pure ?_))
    have hd : items.toList.drop i = items[i] :: items.toList.drop (i + 1) := by simp [List.drop_eq_getElem_cons, hlt]
    have := hQ h₂ (by rw [show i + (n + 1) = i + 1 + n by lia]; exact hit₂) (hs₁.trans hs₂)
    rw [hd, List.take_succ_cons] at this
    exact this
theorem unpackItems_listU {s : Shared} {t : Addr} {items : Array Value} {Q : List Value → Shared → Prop} (hh : A.handled = none) (ht : s.heap.IsList t items)
    (hQ : ∀ h' : Heap, Heap.ExtBut s.heap.objs.size s.heap h' → Q items.toList { s with heap := h' }) : wpAny (model prog w) A (unpackItems (.ref t) items.size none) Q E s := by
  have hlt : t ≠ s.heap.objs.size := by obtain ⟨o, ho, _⟩ := ht; exact Nat.ne_of_lt (Heap.lt_size ho)
  unfold unpackItems
  refine wpAny_bind ?_
  · unfold notIterableAtAll
    refine wpAny_bind (wpAny_specialOf ht.typeIs slot_list_iter.lookup ?_)
    refine wpAny_pure ?_
    simp only [Bool.false_eq_true, if_false]
    refine wpAny_bind (wpAny_holding (wpAny_pyIter_list ht ?_))
    refine wpAny_bind (wpAny_holding (draw_listU hlt items.size 0 _ _ ⟨_, Heap.get?_push_size _ rfl, rfl, rfl⟩ (ht.push _) (by lia) fun h₁ hit₁ hs₁ => ?_))
    have hall : List.take items.size (List.drop 0 items.toList) = items.toList := by
      rw [List.drop_zero]; exact List.take_of_length_le (by simp)
    rw [hall]
    rw [if_neg (by simp)]
    have ht₁ : h₁.IsList t items := (ht.push _).extBut hs₁.extBut hlt
    refine wpAny_bind (wpAny_holding (wpAny_pyNext_list_end hh hit₁ ht₁ (by simp) fun h₂ he₂ => ?_))
    simp only [Option.isSome_none, Bool.false_eq_true, if_false]
    refine wpAny_pure (hQ h₂ fun b o hb e => he₂ b o hb (hs₁.extBut b o hb (Heap.get?_push_of_some _ e)))
end
section
variable {X : Cx} {pos : Pos}
def gTupL (K : PySem.W.Frag) (n : Nat) (t : TGs) : TG := fun v σ H Q => ∃ a xs, v = .ref a ∧ SqL K H a xs ∧ xs.length = n ∧ t xs σ H Q
theorem pg_tupL {es : List Expr} {k : Nat} {t : TGs} {n : Nat} (hc : X.calm = true) (h : PGs X es t)
    (hn : (assignEach es X.env).length = n := by rfl) (hst : (assignEach es X.env).findIdx? (·.1) = none := by rfl) : PG X (.Tuple es k pos) (gTupL X.K n t) := by
  intro pins s σ H v u Q I r hw
  obtain ⟨a, xs, e1, hq, hl, hw⟩ := hw
  subst e1
  cases r
  obtain ⟨its, rv, ht, hz⟩ := I.list hq
  rw [assign_Tuple]
  refine wpAny_bind (wpAny_standAt ?_)
  unfold unpack
  have e : (assignEach es X.env).length = its.toArray.size := by simp [hn, ← hl, rv.length]
  rw [e, hst]
  refine wpAny_bind (wpAny_holding (unpackItems_listU (I.ok.hd hc) ht.isList fun h' hx => ?_))
  have I1 : Inv X pins σ H { s with heap := h' } := I.kept (t' := s.toks) fun b o e => hx b o (Nat.ne_of_lt (Heap.lt_size e)) e
  exact h pins _ σ H xs _ Q I1 (by simpa using rv) hw
end
end L2
end
section
set_option Elab.async false
set_option linter.all false
set_option maxRecDepth 100000
set_option maxHeartbeats 4000000
namespace L2
open PySem PySem.Spec PyProof.Rows
def rStr2 : R2 := fun x y H Q => ∃ i j, x = .str i ∧ y = .str j ∧ i.length + j.length ≤ sizeLine ∧ Q (.str (i ++ j)) H
def rPlus (K : PySem.W.Frag) : R2 := fun x y H Q => rI0 (fun i j => .int (i + j)) x y H Q ∨ (rStr2 x y H Q ∨ (rCat x y H Q ∨ rCatT K x y H Q))
def rSub2 : R2 := rI0 fun i j => .int (i - j)
def rTimes (K : PySem.W.Frag) : R2 := fun x y H Q => rI CMul (fun i j => .int (i * j)) x y H Q ∨ rRepT K x y H Q
def rMod2 : R2 := rI (fun _ j => 0 < j) fun i j => .int (i % j)
def rFdiv2 : R2 := rI CDiv fun i j => .int (i / j)
def rPow2 : R2 := rI CPow fun i j => .int (i ^ j.toNat)
def rEqG (K : PySem.W.Frag) : R2 := fun x y H Q => rEq x y H Q ∨ (rEqT K false x y H Q ∨ (rEqTS K x y H Q ∨ rEqL K false x y H Q))
def rNeG (K : PySem.W.Frag) : R2 := fun x y H Q => rNe x y H Q ∨ (rEqT K true x y H Q ∨ rEqL K true x y H Q)
def rLt2 : R2 := rI0 fun i j => .bl (decide (i < j))
def rGt2 : R2 := rI0 fun i j => .bl (decide (j < i))
def rIsN : R2 := fun x y H Q => y = .non ∧ Q (.bl (decide (x = .non))) H
def rNeg : V → Hp → VK → Prop := rU fun i => .int (-i)
def rSl (K : PySem.W.Frag) : V → Option Int → Option Int → Hp → VK → Prop := fun x lo hi H Q => rSlL K x lo hi H Q ∨ rSlT K x lo hi H Q
def rLen (K : PySem.W.Frag) : List V → Hp → VK → Prop := fun xs H Q => ∃ x n, xs = [x] ∧ LenV K x H n ∧ Q (.int n) H
def rDivmod : List V → Hp → VK → Prop := fun xs H Q => ∃ i j, xs = [.int i, .int j] ∧ (0 < j ∧ j < 2 ^ 64) ∧ ∀ p, H p = none → Q (.ref p) (upd H p (.tup [.int (i / j), .int (i % j)]))
def rMax2 : List V → Hp → VK → Prop := fun xs H Q => ∃ i j, xs = [.int i, .int j] ∧ Q (.int (if j > i then j else i)) H
def rMin2 : List V → Hp → VK → Prop := fun xs H Q => ∃ i j, xs = [.int i, .int j] ∧ Q (.int (if j < i then j else i)) H
def rSum (K : PySem.W.Frag) : List V → Hp → VK → Prop := fun xs H Q => ∃ (p : Addr) (ns : List Int), xs = [.ref p] ∧ SqL K H p (ns.map V.int) ∧ ∀ z : Int, Q (.int z) H
def rIsi (K : PySem.W.Frag) : List V → Hp → VK → Prop := fun xs H Q => ∃ x T b, xs = [x, .ty T] ∧ IsiV K H x T b ∧ Q (.bl b) H
def rInt1 : List V → Hp → VK → Prop := fun xs H Q => (∃ i, xs = [.int i] ∧ Q (.int i) H) ∨ ∃ k, xs = [.bl k] ∧ Q (.int (if k then 1 else 0)) H
def rListOf (K : PySem.W.Frag) : List V → Hp → VK → Prop := fun xs H Q => ∃ p ys, xs = [.ref p] ∧ (SqL K H p ys ∨ SqT K H p ys) ∧ ∀ l, H l = none → Q (.ref l) (upd H l (.lst ys))
def rTupleOf (K : PySem.W.Frag) : List V → Hp → VK → Prop := fun xs H Q => ∃ p ys, xs = [.ref p] ∧ ((SqL K H p ys ∧ ∀ l, H l = none → Q (.ref l) (upd H l (.tup ys))) ∨ (SqT K H p ys ∧ Q (.ref p) H))
def iSeq (K : PySem.W.Frag) (tl : TE) : TI := fun σ H R => iList K tl σ H R ∨ iTup K tl σ H R
section
variable {X : Cx}
theorem op_plus : OpR X (binaryOp .Add) (rPlus X.K) := op_add.or (op_add_str.or (op_cat.or op_catT))
theorem op_times : OpR X (binaryOp .Mult) (rTimes X.K) := op_mul.or op_repT
theorem op_eqG (hu : X.A.units < cLine) : OpR X (compareOp .Eq) (rEqG X.K) := op_eq.or ((op_eqT hu).or ((op_eqTS hu).or (op_eqL hu)))
theorem op_neG (hu : X.A.units < cLine) : OpR X (compareOp .NotEq) (rNeG X.K) := op_ne.or ((op_neT hu).or (op_neL hu))
theorem sl_seq : SlR X (rSl X.K) := sl_list.or sl_tup
theorem pi_seq {tg l : Expr} {tl : TE} (hl : PE X l tl) : PI X tg l (iSeq X.K tl) := by
  intro pins s σ H R I h
  rcases h with h | h
  · exact pi_list hl pins s σ H R I h
  · exact pi_tup hl pins s σ H R I h
end
structure Callee (P : Program) (w : World) (K : PySem.W.Frag) (mg : Str → Option Value) (base : Heap) (x : Str) (ps : List Str) (k : Nat) (sp : Sp) : Prop where
  ex : ∃ (f : Addr) (fd : FuncData), mg x = some (.ref f) ∧ PySem.W.keepIn K (.ref f) = true ∧ Binds K fd ps [] ∧ FnOk P w K mg base CX0 k f fd ps sp
theorem pe_fn {X : Cx} {x : Str} {ps : List Str} {k : Nat} {sp : Sp} {e : Expr} {es : List Expr} {t : TA} {p pos : Pos} (c : Callee X.prog X.w X.K X.mg X.base x ps k sp) (hr : Room k X.A) (hg : Gl X x) (ha : PA X (e :: es) t)
    (hdb : (x == ("__debug__" : Str)) = false := by decide) (he : starEach (e :: es) X.env = (false, eval e X.env) :: starEach es X.env := by rfl) (hpl : (backTo pos (starEach es X.env)).any (·.1) = false := by rfl) :
    PE X (.Call (.Name x p) (e :: es) [] pos) (tCall sp [] E0 t) := by
  obtain ⟨f, fd, hm, hk, hb, F⟩ := c.ex
  exact pe_call F hr hg hm hk hb .nil pass0 ha hdb he hpl
structure Blt (mg : Str → Option Value) : Prop where
  len_ : mg "len" = none
  range_ : mg "range" = none
  divmod_ : mg "divmod" = none
  max_ : mg "max" = none
  min_ : mg "min" = none
  sum_ : mg "sum" = none
  all_ : mg "all" = none
  isinstance_ : mg "isinstance" = none
  int_ : mg "int" = none
  bool_ : mg "bool" = none
  list_ : mg "list" = none
  tuple_ : mg "tuple" = none
  enumerate_ : mg "enumerate" = none
  zip_ : mg "zip" = none
  sorted_ : mg "sorted" = none
  set_ : mg "set" = none
  dict_ : mg "dict" = none
  str_ : mg "str" = none
  any_ : mg "any" = none
  reversed_ : mg "reversed" = none
  abs_ : mg "abs" = none
def But (a : Addr) (H H' : Hp) : Prop := ∀ b o, b ≠ a → H b = some o → H' b = some o
theorem But.refl (a : Addr) (H : Hp) : But a H H := fun _ _ _ h => h
theorem But.trans {a : Addr} {H H1 H2 : Hp} (x : But a H H1) (y : But a H1 H2) : But a H H2 := fun c o n h => y c o n (x c o n h)
theorem Same.but {a : Addr} {H H' : Hp} (x : Same H H') : But a H H' := fun b o _ h => x b o h
theorem But.upd_at {a : Addr} {H : Hp} {o : HO} : But a H (upd H a o) := fun b u n h => by rw [upd_ne n]; exact h
theorem But.new {a p : Addr} {H H1 : Hp} {o : HO} (x : But a H H1) (hp : H1 p = none) : But a H (upd H1 p o) := fun b u n h => by
  rw [upd_ne (ne_of_none (x b u n h) hp)]; exact x b u n h
theorem Same.new {p : Addr} {H H1 : Hp} {o : HO} (x : Same H H1) (hp : H1 p = none) : Same H (upd H1 p o) := fun b u h => by
  rw [upd_ne (ne_of_none (x b u h) hp)]; exact x b u h
theorem But.free {a p : Addr} {H H' : Hp} (x : But a H H') (n : p ≠ a) (h : H' p = none) : H p = none := by
  cases q : H p with
  | none => rfl
  | some o => rw [x p o n q] at h; cases h
theorem comp_range {js : List Nat} {k : Nat} {lo : Int} {n : Nat} {g : TG} {tc : TT} {te : TE} {R : Hp → Prop} {σ : St} {H : Hp} {D : Addr} (Pv : Nat → St → Hp → Prop) (h0 : Pv 0 (emS js k σ) (upd H D (.lst [])))
    (hs : ∀ i σ H, i < n → Pv i σ H → g (.int (lo + i)) σ H fun σ2 H2 => sApp D tc te { nx := Pv (i + 1), rt := fun _ _ => False, ct := Pv (i + 1), bk := fun _ H' => R H' } σ2 H2) (hd : ∀ σ H, Pv n σ H → R H) :
    ∃ W : Nat → Nat → St → Hp → Prop, (∃ m, W 0 m (emS js k σ) (upd H D (.lst []))) ∧ ∀ i m σ H, W i m σ H →
      ((Itr lo n).stop i H ∧ R H) ∨ ((Itr lo n).go i H ∧ ∃ N : St → Hp → Prop, (∀ σ' H', N σ' H' → ∃ m', m' < m ∧ W (i + 1) m' σ' H') ∧ ∀ x H', (Itr lo n).yld i H x H' → g x σ H' fun σ2 H2 => sApp D tc te { nx := N, rt := fun _ _ => False, ct := N, bk := fun _ H' => R H' } σ2 H2) :=
  for_range (D := { nx := fun _ H' => R H', rt := fun _ _ => False }) Pv h0 hs hd
theorem comp_list {js : List Nat} {k : Nat} {K : PySem.W.Frag} {a : Addr} {xs : List V} {g : TG} {tc : TT} {te : TE} {R : Hp → Prop} {σ : St} {H : Hp} {D : Addr} (Pv : Nat → St → Hp → Prop) (h0 : Pv 0 (emS js k σ) (upd H D (.lst []))) (hl : ∀ i σ H, i ≤ xs.length → Pv i σ H → SqL K H a xs)
    (hs : ∀ i x σ H, xs[i]? = some x → Pv i σ H → g x σ H fun σ2 H2 => sApp D tc te { nx := Pv (i + 1), rt := fun _ _ => False, ct := Pv (i + 1), bk := fun _ H' => R H' } σ2 H2) (hd : ∀ σ H, Pv xs.length σ H → R H) :
    ∃ W : Nat → Nat → St → Hp → Prop, (∃ m, W 0 m (emS js k σ) (upd H D (.lst []))) ∧ ∀ i m σ H, W i m σ H →
      ((Itl K a).stop i H ∧ R H) ∨ ((Itl K a).go i H ∧ ∃ N : St → Hp → Prop, (∀ σ' H', N σ' H' → ∃ m', m' < m ∧ W (i + 1) m' σ' H') ∧ ∀ x H', (Itl K a).yld i H x H' → g x σ H' fun σ2 H2 => sApp D tc te { nx := N, rt := fun _ _ => False, ct := N, bk := fun _ H' => R H' } σ2 H2) :=
  for_list (D := { nx := fun _ H' => R H', rt := fun _ _ => False }) Pv h0 hl hs hd
theorem comp_tup {js : List Nat} {k : Nat} {K : PySem.W.Frag} {a : Addr} {xs : List V} {g : TG} {tc : TT} {te : TE} {R : Hp → Prop} {σ : St} {H : Hp} {D : Addr} (Pv : Nat → St → Hp → Prop) (h0 : Pv 0 (emS js k σ) (upd H D (.lst []))) (hl : ∀ i σ H, i ≤ xs.length → Pv i σ H → SqT K H a xs)
    (hs : ∀ i x σ H, xs[i]? = some x → Pv i σ H → g x σ H fun σ2 H2 => sApp D tc te { nx := Pv (i + 1), rt := fun _ _ => False, ct := Pv (i + 1), bk := fun _ H' => R H' } σ2 H2) (hd : ∀ σ H, Pv xs.length σ H → R H) :
    ∃ W : Nat → Nat → St → Hp → Prop, (∃ m, W 0 m (emS js k σ) (upd H D (.lst []))) ∧ ∀ i m σ H, W i m σ H →
      ((Itt K a).stop i H ∧ R H) ∨ ((Itt K a).go i H ∧ ∃ N : St → Hp → Prop, (∀ σ' H', N σ' H' → ∃ m', m' < m ∧ W (i + 1) m' σ' H') ∧ ∀ x H', (Itt K a).yld i H x H' → g x σ H' fun σ2 H2 => sApp D tc te { nx := N, rt := fun _ _ => False, ct := N, bk := fun _ H' => R H' } σ2 H2) :=
  for_tup (D := { nx := fun _ H' => R H', rt := fun _ _ => False }) Pv h0 hl hs hd
theorem But.through {a l : Addr} {H H1 H2 : Hp} {o : HO} (x : But a H H1) (hl : H1 l = none) (y : But l (upd H1 l o) H2) : But a H H2 := fun b u n h => by
  have h1 := x b u n h
  have nl : b ≠ l := ne_of_none h1 hl
  exact y b u nl (by rw [upd_ne nl]; exact h1)
end L2
end
section
set_option Elab.async false
set_option linter.all false
set_option maxRecDepth 100000
namespace L2
open PySem PySem.Spec PyProof.Rows
section
variable {κ : Type} [DecidableEq κ]
def valV (kvs : List (κ × V)) (k : κ) : Option V := (kvs.find? fun kv => decide (kv.1 = k)).map (·.2)
def putK (kvs : List (κ × V)) (k : κ) (v : V) : List (κ × V) :=
  if (kvs.any fun kv => decide (kv.1 = k)) = true then kvs.map (fun kv => if kv.1 = k then (kv.1, v) else kv) else kvs ++ [(k, v)]
theorem valV_nil {k : κ} : valV ([] : List (κ × V)) k = none := rfl
theorem valV_pos {p : κ × V} {r : List (κ × V)} {k : κ} (e : p.1 = k) : valV (p :: r) k = some p.2 := by simp [valV, List.find?_cons, e]
theorem valV_neg {p : κ × V} {r : List (κ × V)} {k : κ} (e : ¬ p.1 = k) : valV (p :: r) k = valV r k := by simp [valV, List.find?_cons, e]
theorem valV_any (k : κ) : ∀ kvs : List (κ × V), (kvs.any fun kv => decide (kv.1 = k)) = (valV kvs k).isSome
  | [] => rfl
  | p :: r => by
    rw [List.any_cons]
    by_cases e : p.1 = k
    · simp only [valV_pos e, decide_eq_true e, Bool.true_or, Option.isSome_some]
    · rw [valV_neg e, decide_eq_false e, Bool.false_or]; exact valV_any k r
theorem length_putK (kvs : List (κ × V)) (k : κ) (v : V) : (putK kvs k v).length ≤ kvs.length + 1 := by
  unfold putK
  split
  · rw [List.length_map]; lia
  · rw [List.length_append, List.length_cons, List.length_nil]; lia
theorem putK_new {kvs : List (κ × V)} {k : κ} (v : V) (h : valV kvs k = none) : putK kvs k v = kvs ++ [(k, v)] := by
  unfold putK
  rw [valV_any, h]
  exact if_neg (by decide)
theorem RelO.isSome_eq {o : Option V} {u : Option Value} (r : RelO o u) : o.isSome = u.isSome := by
  cases o with
  | none => cases u with
    | none => rfl
    | some _ => exact (show False from r).elim
  | some _ => cases u with
    | none => exact (show False from r).elim
    | some _ => rfl
theorem KV.val {kvs : List (κ × V)} {vs : List (κ × Value)} (r : KV kvs vs) (k : κ) : RelO (valV kvs k) (valueAt vs k) := by
  unfold KV at r
  induction r with
  | nil => exact True.intro
  | @cons p q ps qs h t ih =>
    obtain ⟨h1, h2⟩ := h
    by_cases e : p.1 = k
    · have e' : q.1 = k := h1.symm.trans e
      have b : valueAt (q :: qs) k = some q.2 := by simp [valueAt, List.find?_cons, e']
      rw [valV_pos e, b]; exact h2
    · have e' : ¬ q.1 = k := fun z => e (h1.trans z)
      have b : valueAt (q :: qs) k = valueAt qs k := by simp [valueAt, List.find?_cons, e']
      rw [valV_neg e, b]; exact ih
theorem KV.any {kvs : List (κ × V)} {vs : List (κ × Value)} (r : KV kvs vs) (k : κ) : (kvs.any fun kv => decide (kv.1 = k)) = vs.any fun kv => decide (kv.1 = k) := by
  unfold KV at r
  induction r with
  | nil => rfl
  | cons h t ih => rw [List.any_cons, List.any_cons, ih, h.1]
theorem KV.repl {kvs : List (κ × V)} {vs : List (κ × Value)} (r : KV kvs vs) (k : κ) {y : V} {u : Value} (ry : RelV y u) :
    KV (kvs.map fun kv => if kv.1 = k then (kv.1, y) else kv) (vs.map fun kv => if kv.1 = k then (kv.1, u) else kv) := by
  unfold KV at r ⊢
  induction r with
  | nil => exact .nil
  | @cons p q ps qs h t ih =>
    rw [List.map_cons, List.map_cons]
    refine .cons ?_ ih
    obtain ⟨h1, h2⟩ := h
    by_cases e : p.1 = k
    · rw [if_pos e, if_pos (h1.symm.trans e)]; exact ⟨h1, ry⟩
    · rw [if_neg e, if_neg (fun z => e (h1.trans z))]; exact ⟨h1, h2⟩
theorem KV.put {kvs : List (κ × V)} {vs : List (κ × Value)} (r : KV kvs vs) (k : κ) {y : V} {u : Value} (ry : RelV y u) : KV (putK kvs k y) (stored vs k u) := by
  unfold putK stored
  rw [r.any k]
  by_cases e : (vs.any fun kv => decide (kv.1 = k)) = true
  · rw [if_pos e, if_pos e]; exact r.repl k ry
  · rw [if_neg e, if_neg e]; exact Paired.snoc r ⟨rfl, ry⟩
theorem KV.keys {kvs : List (κ × V)} {vs : List (κ × Value)} (r : KV kvs vs) : kvs.map (·.1) = vs.map (·.1) := by
  unfold KV at r
  induction r with
  | nil => rfl
  | cons h t ih => rw [List.map_cons, List.map_cons, ih, h.1]
theorem KV.length {kvs : List (κ × V)} {vs : List (κ × Value)} (r : KV kvs vs) : kvs.length = vs.length := Paired.length r
end
theorem kV_is {P : Program} {w : World} {k : Key} {u : Value} (r : RelV (kV k) u) : (mixKind P w).is k u = true := by
  cases k with
  | inl i => obtain ⟨t, e⟩ := (show ∃ t, u = Value.int i t from r); subst e; exact mixKind_int P w i t
  | inr x => obtain ⟨t, e⟩ := (show ∃ t, u = Value.str x t from r); subst e; exact mixKind_str P w x t
theorem items_are {P : Program} {w : World} : ∀ {ks : List Key} {us : List Value}, Vals (ks.map kV) us → ItemsAre (mixKind P w) ks us
  | [], _, r => by rw [List.map_nil] at r; cases r; exact .nil
  | k :: ks, _, r => by
    rw [List.map_cons] at r
    cases r with
    | cons h t => exact .cons (kV_is h) (items_are t)
abbrev KT (H : Hp) : List (List Key × V) → List (List Key × Addr × Value) → Prop := Paired fun p q => p.1 = q.1 ∧ H q.2.1 = some (.tup (p.1.map kV)) ∧ RelV p.2 q.2.2
theorem KT.val {H : Hp} {kvs : List (List Key × V)} {xs : List (List Key × Addr × Value)} (r : KT H kvs xs) (k : List Key) : RelO (valV kvs k) ((atKey xs k).map (·.2)) := by
  induction r with
  | nil => exact True.intro
  | @cons p q ps qs h t ih =>
    obtain ⟨h1, _, h2⟩ := h
    by_cases e : p.1 = k
    · have e' : q.1 = k := h1.symm.trans e
      have b : atKey (q :: qs) k = some q.2 := by simp [atKey, List.find?_cons, e']
      rw [valV_pos e, b]; exact h2
    · have e' : ¬ q.1 = k := fun z => e (h1.trans z)
      have b : atKey (q :: qs) k = atKey qs k := by simp [atKey, List.find?_cons, e']
      rw [valV_neg e, b]; exact ih
theorem KT.repl {H : Hp} {kvs : List (List Key × V)} {xs : List (List Key × Addr × Value)} (r : KT H kvs xs) (k : List Key) {y : V} {u : Value} (ry : RelV y u) :
    KT H (kvs.map fun kv => if kv.1 = k then (kv.1, y) else kv) (xs.map (putAt k u)) := by
  induction r with
  | nil => exact .nil
  | @cons p q ps qs h t ih =>
    rw [List.map_cons, List.map_cons]
    refine .cons ?_ ih
    obtain ⟨h1, h2, h3⟩ := h
    unfold putAt
    by_cases e : p.1 = k
    · rw [if_pos e, if_pos (h1.symm.trans e)]; exact ⟨h1, h2, ry⟩
    · rw [if_neg e, if_neg (fun z => e (h1.trans z))]; exact ⟨h1, h2, h3⟩
theorem KT.put {H : Hp} {kvs : List (List Key × V)} {xs : List (List Key × Addr × Value)} (r : KT H kvs xs) (k : List Key) {b : Addr} {y : V} {u : Value} (hb : H b = some (.tup (k.map kV))) (ry : RelV y u) :
    KT H (putK kvs k y) (storedH xs k b u) := by
  have e : (kvs.any fun kv => decide (kv.1 = k)) = (atKey xs k).isSome := by
    rw [valV_any, (r.val k).isSome_eq, Option.isSome_map]
  unfold putK storedH
  rw [e]
  by_cases q : (atKey xs k).isSome = true
  · rw [if_pos q, if_pos q]; exact r.repl k ry
  · rw [if_neg q, if_neg q]; exact Paired.snoc r ⟨rfl, hb, ry⟩
theorem KT.keeps {H H' : Hp} {kvs : List (List Key × V)} {xs : List (List Key × Addr × Value)} (r : KT H kvs xs) (ht : ∀ b ys, H b = some (.tup ys) → H' b = some (.tup ys)) : KT H' kvs xs :=
  Paired.mapP r fun _ _ z => ⟨z.1, ht _ _ z.2.1, z.2.2⟩
section
variable {P : Program} {w : World} {H : Hp} {h : Heap} {a : Addr}
theorem rd_of {u : HO} (ok : HOk P w H h) (e : Rd H a u) : ObjOk P w H h a u := e.ok ok
theorem dk_rd {kvs : List (Key × V)} (ok : HOk P w H h) (e : Rd H a (.dK kvs)) : kvs.length ≤ sizeLine ∧ (a == sysModules) = false ∧ ∃ vs, KV kvs vs ∧ h.DictOf (mixKind P w) a vs :=
  show ObjOk P w H h a (.dK kvs) from rd_of ok e
theorem dk_of {kvs : List (Key × V)} (ok : HOk P w H h) (e : H a = some (.dK kvs)) : kvs.length ≤ sizeLine ∧ (a == sysModules) = false ∧ ∃ vs, KV kvs vs ∧ h.DictOf (mixKind P w) a vs := dk_rd ok (.inl e)
theorem key_of {ks : List Key} (ok : HOk P w H h) (e : H a = some (.tup (ks.map kV))) : (tupleKind (mixKind P w)).is h ks a := by
  obtain ⟨_, its, r, o, h1, h2, n, h3⟩ := (show ObjOk P w H h a (.tup (ks.map kV)) from ok a _ e)
  exact ⟨o, its.toArray, n, h1, h2.1, h3, by simpa using items_are r⟩
theorem dt_rd {kvs : List (List Key × V)} (ok : HOk P w H h) (e : Rd H a (.dT kvs)) : kvs.length ≤ sizeLine ∧ (a == sysModules) = false ∧
    ∃ xs, KT H kvs xs ∧ h.DictOfH (tupleKind (mixKind P w)) a xs := by
  obtain ⟨z, y, xs, r, o, es, ep, h1, h2, h3, h4, h5⟩ := (show ObjOk P w H h a (.dT kvs) from rd_of ok e)
  refine ⟨z, y, xs, r, o, es, ep, h1, h2, h3, h4, fun x hx => ?_, h5⟩
  have all : ∀ {l : List (List Key × V)} {m : List (List Key × Addr × Value)}, KT H l m → ∀ x ∈ m, (tupleKind (mixKind P w)).is h x.1 x.2.1 := by
    intro l m q
    induction q with
    | nil => intro x hx; exact nomatch hx
    | @cons p q ps qs hq t ih =>
      intro x hx
      rcases List.mem_cons.mp hx with e | hx
      · subst e
        exact key_of ok (by rw [← hq.1]; exact hq.2.1)
      · exact ih x hx
  exact all r x hx
theorem dt_of {kvs : List (List Key × V)} (ok : HOk P w H h) (e : H a = some (.dT kvs)) : kvs.length ≤ sizeLine ∧ (a == sysModules) = false ∧
    ∃ xs, KT H kvs xs ∧ h.DictOfH (tupleKind (mixKind P w)) a xs := dt_rd ok (.inl e)
end
def DGet (H : Hp) (a : Addr) (y : V) (r : Option V) : Prop :=
  (∃ kvs k, Rd H a (.dK kvs) ∧ y = kV k ∧ r = valV kvs k) ∨ ∃ kvs k b, Rd H a (.dT kvs) ∧ y = .ref b ∧ H b = some (.tup (k.map kV)) ∧ r = valV kvs k
def DPut (H : Hp) (a : Addr) (y v : V) (H' : Hp) : Prop :=
  (∃ kvs k, H a = some (.dK kvs) ∧ y = kV k ∧ kvs.length < sizeLine ∧ H' = upd H a (.dK (putK kvs k v))) ∨
  ∃ kvs k b, H a = some (.dT kvs) ∧ y = .ref b ∧ H b = some (.tup (k.map kV)) ∧ kvs.length < sizeLine ∧ H' = upd H a (.dT (putK kvs k v))
theorem DGet.k {H : Hp} {a : Addr} {kvs : List (Key × V)} {k : Key} (e : H a = some (.dK kvs)) : DGet H a (kV k) (valV kvs k) := .inl ⟨kvs, k, .inl e, rfl, rfl⟩
theorem DPut.k {H : Hp} {a : Addr} {kvs : List (Key × V)} {k : Key} {v : V} (e : H a = some (.dK kvs)) (hl : kvs.length < sizeLine) : DPut H a (kV k) v (upd H a (.dK (putK kvs k v))) := .inl ⟨kvs, k, e, rfl, hl, rfl⟩
section
variable {X : Cx} {pins : List (Addr × Obj)} {σ : St} {H : Hp} {s : Shared} {a : Addr} {y v : V} {u r : Value} {o : Option V} {A : Around} {E : Value → Shared → Prop}
theorem Inv.big (I : Inv X pins σ H s) : sysModules < s.heap.objs.size := by
  have h : mainGlobals < s.heap.objs.size := (I.mod.glob.keeps I.bk).lt
  exact Nat.lt_trans (by decide) h
theorem d_in {Q : Value → Shared → Prop} (hu : A.units + 1 < cLine) (I : Inv X pins σ H s) (g : DGet H a y o) (ry : RelV y u) (h : ∀ s', Inv X pins σ H s' → Q (.bool o.isSome) s') :
    wpAny (model X.prog X.w) A (compareOp .In u (.ref a)) Q E s := by
  rcases g with ⟨kvs, k, e, ey, l⟩ | ⟨kvs, k, b, e, ey, eb, l⟩
  · subst ey
    obtain ⟨z, hd, vs, rel, dd⟩ := dk_rd I.hok e
    refine wpAny_in_of (kV_is ry) hd dd.mapOf ?_
    rw [← (rel.val k).isSome_eq, ← l]
    exact h _ (I.tok _)
  · subst ey
    cases (show u = Value.ref b from ry)
    obtain ⟨z, hd, xs, rel, dd⟩ := dt_rd I.hok e
    refine wpAny_in_heap (tupleKind_room_in1 hu) (key_of I.hok eb) hd dd ?_
    have q := (rel.val k).isSome_eq
    rw [Option.isSome_map] at q
    rw [← q, ← l]
    exact h _ (I.tok _)
theorem d_notIn {Q : Value → Shared → Prop} (hu : A.units + 1 < cLine) (I : Inv X pins σ H s) (g : DGet H a y o) (ry : RelV y u) (h : ∀ s', Inv X pins σ H s' → Q (.bool (!o.isSome)) s') :
    wpAny (model X.prog X.w) A (compareOp .NotIn u (.ref a)) Q E s := by
  rcases g with ⟨kvs, k, e, ey, l⟩ | ⟨kvs, k, b, e, ey, eb, l⟩
  · subst ey
    obtain ⟨z, hd, vs, rel, dd⟩ := dk_rd I.hok e
    refine wpAny_notIn_of (kV_is ry) hd dd.mapOf ?_
    rw [← (rel.val k).isSome_eq, ← l]
    exact h _ (I.tok _)
  · subst ey
    cases (show u = Value.ref b from ry)
    obtain ⟨z, hd, xs, rel, dd⟩ := dt_rd I.hok e
    refine wpAny_notIn_heap (tupleKind_room_in1 hu) (key_of I.hok eb) hd dd ?_
    have q := (rel.val k).isSome_eq
    rw [Option.isSome_map] at q
    rw [← q, ← l]
    exact h _ (I.tok _)
theorem d_write {h' : Heap} {t' : Nat} {ob : HO} (I : Inv X pins σ H s) (mu : Mut (H a)) (hs : Heap.SameBut a s.heap h') (he : ∃ q, h'.get? a = some q) (new : ObjOk X.prog X.w (upd H a ob) h' a ob) :
    Inv X pins σ (upd H a ob) { s with heap := h', toks := t' } :=
  I.write (x := a) (e := a) mu (.inl rfl) (fun b q hb z => (hs.2 b hb).trans z) he new
theorem dk_new {P : Program} {w : World} {H' : Hp} {h' : Heap} {kvs : List (Key × V)} {vs : List (Key × Value)} (z : kvs.length ≤ sizeLine) (hd : (a == sysModules) = false) (rel : KV kvs vs) (dd : h'.DictOf (mixKind P w) a vs) :
    ObjOk P w H' h' a (.dK kvs) := ⟨z, hd, vs, rel, dd⟩
theorem d_setItem {H' : Hp} {Q : Unit → Shared → Prop} (hu : A.units + 1 < cLine) (I : Inv X pins σ H s) (g : DPut H a y v H') (ry : RelV y u) (rv : RelV v r) (h : ∀ s', Inv X pins σ H' s' → Q () s') :
    wpAny (model X.prog X.w) A (setItem (.ref a) u r) Q E s := by
  rcases g with ⟨kvs, k, e, ey, l, eH⟩ | ⟨kvs, k, b, e, ey, eb, l, eH⟩
  · subst ey eH
    obtain ⟨z, hd, vs, rel, dd⟩ := dk_of I.hok e
    have hz : vs.length ≤ sizeLine := by rw [← rel.length]; exact z
    have hl : (putK kvs k v).length ≤ sizeLine := by have := length_putK kvs k v; lia
    refine wpAny_setItem_pairs (hsz := hz) (kV_is ry) dd fun h' dd' hs => h _ ?_
    have he : ∃ q, h'.get? a = some q := let ⟨q, _, _, hq, _⟩ := dd'; ⟨q, hq⟩
    exact d_write I (by rw [e]; exact True.intro) hs he (dk_new hl hd (rel.put k rv) dd')
  · subst ey eH
    cases (show u = Value.ref b from ry)
    obtain ⟨z, hd, xs, rel, dd⟩ := dt_of I.hok e
    have hz : xs.length ≤ sizeLine := by rw [← Paired.length rel]; exact z
    have hl : (putK kvs k v).length ≤ sizeLine := by have := length_putK kvs k v; lia
    refine wpAny_setItem_heap (hsz := hz) (tupleKind_room_in1 hu) (key_of I.hok eb) dd fun h' dd' hs => h _ ?_
    obtain ⟨q, es, ep, hq, h2, h3, h4, _, h5⟩ := dd'
    refine d_write I (by rw [e]; exact True.intro) hs ⟨q, hq⟩ ⟨hl, hd, _, (rel.put k eb rv).keeps fun c ys ec => ?_, q, es, ep, hq, h2, h3, h4, h5⟩
    rw [upd_ne (ne_of ec e (fun z => nomatch z))]
    exact ec
end
section
variable {X : Cx} {pins : List (Addr × Obj)} {σ : St} {H : Hp} {s : Shared} {a : Addr} {kvs : List (Key × V)} {k : Key} {u : Value} {A : Around} {E : Value → Shared → Prop}
end
section
variable {X : Cx} {o i e value : Expr} {pos pos' tpos : Pos} {td ty tv : TE}
end
theorem dk_empty {P : Program} {w : World} {H : Hp} (h : Heap) (hb : sysModules < h.objs.size) : ObjOk P w H (h.push { cls := .type "dict", data := .dict #[] }) h.objs.size (.dK []) :=
  ⟨Nat.zero_le _, beq_eq_false_iff_ne.mpr (Ne.symm (Nat.ne_of_lt hb)), [], .nil, Heap.DictOf.new h⟩
def tDNewK : TE := fun _ H Q => ∀ p, H p = none → Q (.ref p) (upd H p (.dK []))
section
variable {X : Cx} {pos : Pos}
theorem pe_dnewK : PE X (.Dict [] [] pos) tDNewK := fun pins s σ H Q I h =>
  wpAny_Dict_empty ⟨.ref s.heap.objs.size, _, I.laid (a := s.heap.objs.size) (o := .dK []) (t' := s.toks) (fun _ _ q => Heap.get?_push_of_some _ q) (Nat.le_refl _) (dk_empty s.heap I.big), rfl, h _ (I.hok.fresh (Nat.le_refl _))⟩
end
def tPairs : List (TE × TE) → St → Hp → (List (V × V) → Hp → Prop) → Prop
  | [], _, H, Q => Q [] H
  | (tk, tv) :: r, σ, H, Q => tk σ H fun x H1 => tv σ H1 fun y H2 => tPairs r σ H2 fun ps H3 => Q ((x, y) :: ps) H3
abbrev VV : List (V × V) → List (Value × Value) → Prop := Paired fun p q => RelV p.1 q.1 ∧ RelV p.2 q.2
def PPs (X : Cx) (pos : Pos) (keys : List (Option Expr)) (values : List Expr) (trs : List (TE × TE)) : Prop :=
  ∀ (pins : List (Addr × Obj)) (s : Shared) (σ : St) (H : Hp) (Q : List (V × V) → Hp → Prop), Inv X pins σ H s → tPairs trs σ H Q →
    wpAny (model X.prog X.w) X.A (evalPairs (pairTrees keys values X.env pos)) (fun vs s' => ∃ ps H', Inv X pins σ H' s' ∧ VV ps vs ∧ Q ps H') X.xe s
theorem pps_nil {X : Cx} {pos : Pos} : PPs X pos [] [] [] := fun pins s σ H Q I h => pairTrees_nil_walk ⟨[], H, I, .nil, h⟩
theorem pps_cons {X : Cx} {pos : Pos} {k v : Expr} {ks : List (Option Expr)} {vs : List Expr} {tk tv : TE} {trs : List (TE × TE)} (hk : PE X k tk) (hv : PE X v tv) (hr : PPs X pos ks vs trs) :
    PPs X pos (some k :: ks) (v :: vs) ((tk, tv) :: trs) := fun pins s σ H Q I h =>
  pairTrees_cons_walk (thn (hk pins s σ H _ I h) fun u s1 ⟨x, H1, I1, rx, q1⟩ => thn (hv pins s1 σ H1 _ I1 q1) fun w2 s2 ⟨y, H2, I2, ry, q2⟩ =>
    thn (hr pins s2 σ H2 _ I2 q2) fun ws s3 ⟨ps, H3, I3, rel, q3⟩ => ⟨(x, y) :: ps, H3, I3, .cons ⟨rx, ry⟩ rel, q3⟩)
def mergeK (kvs more : List (Key × V)) : List (Key × V) := more.foldl (fun acc kv => putK acc kv.1 kv.2) kvs
theorem KV.merge : ∀ {more : List (Key × V)} {rs : List (Key × Value)} {kvs : List (Key × V)} {vs : List (Key × Value)}, KV more rs → KV kvs vs → KV (mergeK kvs more) (merged vs rs) := by
  intro more rs kvs vs r
  unfold KV at r
  induction r generalizing kvs vs with
  | nil => intro q; exact q
  | @cons p q ps qs h t ih =>
    intro r0
    have e : KV (putK kvs p.1 p.2) (stored vs q.1 q.2) := by
      have := r0.put p.1 h.2
      rw [← h.1]; exact this
    exact ih e
theorem length_mergeK : ∀ (more kvs : List (Key × V)), (mergeK kvs more).length ≤ kvs.length + more.length
  | [], kvs => by show kvs.length ≤ kvs.length + 0; lia
  | p :: r, kvs => by
    have h1 := length_mergeK r (putK kvs p.1 p.2)
    have h2 := length_putK kvs p.1 p.2
    show (mergeK (putK kvs p.1 p.2) r).length ≤ _
    rw [List.length_cons]; lia
theorem carries_of {P : Program} {w : World} : ∀ {kvs : List (Key × V)} {ws : List (Value × Value)}, VV (kvs.map fun kv => (kV kv.1, kv.2)) ws → ∃ rs, Carries (mixKind P w) ws rs ∧ KV kvs rs
  | [], _, r => by rw [List.map_nil] at r; cases r; exact ⟨[], True.intro, .nil⟩
  | p :: kvs, _, r => by
    rw [List.map_cons] at r
    cases r with
    | @cons a b as bs h t =>
      obtain ⟨rs, c, q⟩ := carries_of (P := P) (w := w) t
      obtain ⟨b1, b2⟩ := b
      exact ⟨(p.1, b2) :: rs, ⟨kV_is h.1, rfl, c⟩, .cons ⟨rfl, h.2⟩ q⟩
def tDisp (trs : List (TE × TE)) : TE := fun σ H Q => ∀ p, H p = none → tPairs trs σ (upd H p (.dK [])) fun ps H2 => H2 p = some (.dK []) ∧ ∃ kvs : List (Key × V), ps = kvs.map (fun kv => (kV kv.1, kv.2)) ∧ kvs.length ≤ 15 ∧ Q (.ref p) (upd H2 p (.dK (mergeK [] kvs)))
theorem pe_disp {X : Cx} {pos : Pos} {keys : List (Option Expr)} {values : List Expr} {trs : List (TE × TE)} (h : PPs X pos keys values trs) (hall : keys.all (·.isSome) = true) (hl : keys.length = values.length) (h0 : keys ≠ [])
    (h15 : keys.length ≤ 15) : PE X (.Dict keys values pos) (tDisp trs) := by
  intro pins s σ H Q I q
  have hn := I.hok.fresh (Nat.le_refl s.heap.objs.size)
  have I1 := I.laid (a := s.heap.objs.size) (o := .dK []) (h' := s.heap.push { cls := .type "dict", data := .dict #[] }) (t' := s.toks) (fun _ _ q => Heap.get?_push_of_some _ q) (Nat.le_refl _) (dk_empty s.heap I.big)
  refine wpAny_Dict_walk (knd := mixKind X.prog X.w) hall hl h0 h15 (thn (h pins _ σ _ _ I1 (q _ hn)) fun ws s2 ⟨ps, H2, I2, rel, e, kvs, ep, lk, q2⟩ => ?_)
  subst ep
  obtain ⟨rs, c, rk⟩ := carries_of (P := X.prog) (w := X.w) rel
  obtain ⟨z, hd, vs0, r0, dd⟩ := dk_of I2.hok e
  cases r0
  refine ⟨rs, c, dd, fun h' dd' hs => ⟨.ref s.heap.objs.size, _, ?_, rfl, q2⟩⟩
  have hz : (mergeK [] kvs).length ≤ sizeLine := by
    have h1 := length_mergeK kvs []
    rw [List.length_nil] at h1
    rw [sizeLine_eq]; lia
  have he : ∃ q, h'.get? s.heap.objs.size = some q := let ⟨q, _, _, hq, _⟩ := dd'; ⟨q, hq⟩
  exact d_write I2 (by rw [e]; exact True.intro) hs he (dk_new hz hd (rk.merge .nil) dd')
section
variable {X : Cx} {pins : List (Addr × Obj)} {σ : St} {H : Hp} {s : Shared} {a : Addr} {y d : V} {u r : Value} {o : Option V} {A : Around} {E : Value → Shared → Prop}
end
section
variable {X : Cx} {o e f : Expr} {apos cpos : Pos} {td ty tx : TE}
end
section
variable {X : Cx} {pins : List (Addr × Obj)} {σ : St} {H : Hp} {s : Shared} {a : Addr} {kvs : List (Key × V)} {A : Around} {E : Value → Shared → Prop}
end
section
variable {X : Cx} {pins : List (Addr × Obj)} {σ : St} {H : Hp} {s : Shared} {a : Addr} {y : V} {u : Value} {A : Around} {E : Value → Shared → Prop}
end
end L2
namespace L2
open PySem PySem.Spec PyProof.Rows
section
variable {X : Cx}
end
section
variable {κ : Type} [DecidableEq κ]
theorem nd_snoc : ∀ {l : List κ} {k : κ}, l.Nodup → ¬ k ∈ l → (l ++ [k]).Nodup
  | [], k, _, _ => by simp
  | a :: r, k, h, hk => by
    obtain ⟨h1, h2⟩ := List.nodup_cons.mp h
    show (a :: (r ++ [k])).Nodup
    refine List.nodup_cons.mpr ⟨fun m => ?_, nd_snoc h2 fun m => hk (List.mem_cons.mpr (Or.inr m))⟩
    rcases List.mem_append.mp m with q | q
    · exact h1 q
    · exact hk (List.mem_cons.mpr (Or.inl (List.mem_singleton.mp q).symm))
end
end L2
end
section
set_option Elab.async false
set_option linter.all false
set_option maxRecDepth 100000
set_option maxHeartbeats 4000000
namespace L2
open PySem PySem.Spec PyProof.Rows
def rInD (neg : Bool) : R2 := fun x y H Q => ∃ a o, y = .ref a ∧ DGet H a x o ∧ Q (.bl (if neg then !o.isSome else o.isSome)) H
def rSetD : V → V → V → Hp → (Hp → Prop) → Prop := fun o i v H Q => ∃ a H', o = .ref a ∧ DPut H a i v H' ∧ Q H'
section
variable {X : Cx}
theorem op_inD (hu : X.A.units + 1 < cLine) : OpR X (compareOp .In) (rInD false) := by
  intro pins s σ H x y v u Q I rx ry h
  obtain ⟨a, o, rfl, g, q⟩ := h
  cases ry
  exact d_in hu I g rx fun s' I' => ⟨.bl o.isSome, H, I', rfl, q⟩
theorem op_notInD (hu : X.A.units + 1 < cLine) : OpR X (compareOp .NotIn) (rInD true) := by
  intro pins s σ H x y v u Q I rx ry h
  obtain ⟨a, o, rfl, g, q⟩ := h
  cases ry
  exact d_notIn hu I g rx fun s' I' => ⟨.bl (!o.isSome), H, I', rfl, q⟩
theorem set_dict (hu : X.A.units + 1 < cLine) : PSet X rSetD := by
  intro pins s σ H o i v ov iv u Q I ro ri rv h
  obtain ⟨a, H', rfl, g, q⟩ := h
  cases ro
  exact d_setItem hu I g ri rv fun s' I' => ⟨H', I', q⟩
theorem vals_of_ints : ∀ {us : List Value} {ns : List Int}, IntsAre us ns → Vals (ns.map V.int) us := by
  intro us ns h
  induction h with
  | nil => exact .nil
  | cons n t _ ih => exact .cons ⟨t, rfl⟩ ih
def rSortL (K : PySem.W.Frag) : List V → Hp → VK → Prop := fun xs H Q => ∃ (p : Addr) (ns : List Int), xs = [.ref p] ∧ SqL K H p (ns.map V.int) ∧ ns.length < 64 ∧ ∀ (l : Addr) (ns' : List Int), H l = none → ns'.Perm ns → ns'.Pairwise (· ≤ ·) → Q (.ref l) (upd H l (.lst (ns'.map V.int)))
theorem call_sortL : CallR X (.builtin "sorted") (rSortL X.K) := by
  intro pins s σ H xs us Q I r h
  obtain ⟨p, ns, rfl, hq, h64, q⟩ := h
  obtain ⟨u, rfl, rx⟩ := vals1 r
  cases rx
  obtain ⟨its, r', pl, hz⟩ := I.list hq
  have hI := intsAre_of r'
  have hl := r'.length
  rw [List.length_map] at hl
  refine sorted_ints pl.isList hI (by rw [← hl]; exact h64) fun out ns' a1 a2 a3 => ?_
  obtain ⟨e, he⟩ := sortedAll_at s.heap its out
  have hn := vals_of_ints a1
  have hlen : ns'.length = ns.length := a2.length_eq
  refine ⟨.ref (s.heap.objs.size + 1), _, I.laid (t' := s.toks) (fun b u q => sortedAll_old q) (Nat.le_succ _) (show ObjOk X.prog X.w _ _ _ (.lst (ns'.map V.int)) from ⟨?_, out.toList, e, hn, ?_⟩), rfl, q _ _ (I.hok.fresh (Nat.le_succ _)) a2 a3⟩
  · rw [List.length_map, hlen]; exact Nat.le_trans (Nat.le_of_lt h64) (by decide)
  · rw [Array.toArray_toList]; exact he
theorem items_ints {prog : Program} {w : World} : ∀ {ns : List Int} {vs : List (Key × Value)} {us : List Value}, vs.map (·.1) = ns.map Sum.inl → us.length = vs.length → (∀ (j : Nat) v, us[j]? = some v → ∃ k x, vs[j]? = some (k, x) ∧ (mixKind prog w).is k v = true) → IntsAre us ns
  | [], vs, us, h1, h2, _ => by
    have : vs = [] := by cases vs with | nil => rfl | cons a r => cases h1
    subst this
    have : us = [] := List.length_eq_zero_iff.mp h2
    subst this
    exact .nil
  | n :: ns, vs, us, h1, h2, h3 => by
    cases vs with
    | nil => cases h1
    | cons a vs =>
      cases us with
      | nil => cases h2
      | cons u us =>
        obtain ⟨k, x, e, hk⟩ := h3 0 u rfl
        have e' : a = (k, x) := Option.some.inj e
        subst e'
        injection h1 with h1 h1'
        have h1 : k = Sum.inl n := h1
        subst h1
        obtain ⟨t, rfl⟩ := Value.isInt_shape (k := n) (v := u) hk
        refine .cons n t (items_ints (prog := prog) (w := w) h1' (by simpa using h2) fun j v e => ?_)
        exact h3 (j + 1) v (by simpa using e)
def rSortD : List V → Hp → VK → Prop := fun xs H Q => ∃ (d : Addr) (kvs : List (Key × V)) (ns : List Int), xs = [.ref d] ∧ H d = some (.dK kvs) ∧ kvs.map (·.1) = ns.map Sum.inl ∧ ns.length < 64 ∧ ∀ (l : Addr) (ns' : List Int), H l = none → ns'.Perm ns → ns'.Pairwise (· ≤ ·) → Q (.ref l) (upd H l (.lst (ns'.map V.int)))
theorem call_sortD (hc : X.calm = true) : CallR X (.builtin "sorted") rSortD := by
  intro pins s σ H xs us Q I r h
  obtain ⟨d, kvs, ns, rfl, hd, hk, h64, q⟩ := h
  obtain ⟨u, rfl, rx⟩ := vals1 r
  cases rx
  obtain ⟨z, lo, vs, rel, dd⟩ := dk_of I.hok hd
  obtain ⟨ep, hat⟩ := dd.dictAt
  have hh : X.A.handled = none := I.ok.hd hc
  have kl := rel.length
  have hv : vs.map (·.1) = ns.map Sum.inl := by rw [← rel.keys]; exact hk
  have vl : vs.length = ns.length := by have := congrArg List.length hv; simpa using this
  refine Calls.call_function_entry kind_sorted plain_sorted entry_sorted (args_sorted1 _) ?_
  unfold Builtin.«sorted»
  refine wpAny_bind (m := checkCount "sorted" 1 1 _) (wpAny_pure ?_)
  refine wpAny_bind (PySem.W.kdu_collect (A := X.A.in1) (PySem.W.kdl_dict (knd := mixKind X.prog X.w) (kvs := vs) (ep := ep) lo) hh hat (by rw [← kl]; exact z) fun h' tk acc hkp hacc => ?_)
  have hl : acc.toList.length = vs.length := by rw [Array.length_toList]; exact hacc.1
  have hI : IntsAre acc.toList ns := items_ints (prog := X.prog) (w := X.w) hv hl fun j v e => hacc.2 j v (by rw [← Array.getElem?_toList]; exact e)
  refine wpAny_bind (wpAny_newList ?_ (by rw [hl, ← kl]; exact z))
  have hoL : (h'.push (seqObj "list" acc.toList.toArray 0)).get? h'.objs.size = some (seqObj "list" acc.toList.toArray 0) := Heap.get?_push_size _ rfl
  show wpAny _ _ _ _ _ { s with heap := h'.push (seqObj "list" acc.toList.toArray 0), toks := tk }
  refine wpAny_bind (wpAny_holding (wpAny_call_entry slot_list_sort ⟨_, hoL, rfl⟩ entry_list_sort (list_sort_tree hoL hI (by rw [hl, vl]; exact h64) fun out ns' a1 a2 a3 => ⟨_, rfl, ?_⟩) (args_list_sort _)))
  refine wpAny_pure ⟨_, rfl, ?_⟩
  obtain ⟨e, he⟩ := sortedHeap_at (n := 0) (out := out) hoL
  have hn := vals_of_ints a1
  have hlen : ns'.length = ns.length := a2.length_eq
  have I1 : Inv X pins σ H { s with heap := h', toks := tk } := I.kept hkp
  refine ⟨.ref h'.objs.size, _, I1.laid (t' := tk) (fun b u q1 => ?_) (Nat.le_refl _) (show ObjOk X.prog X.w _ _ _ (.lst (ns'.map V.int)) from ⟨?_, out.toList, e, hn, ?_⟩), rfl, q _ _ (I1.hok.fresh (Nat.le_refl _)) a2 a3⟩
  · have lt := Heap.lt_size q1
    rw [sortedHeap_old (Nat.ne_of_lt lt) (by rw [size_push']; exact Nat.lt_succ_of_lt lt)]
    exact Heap.get?_push_of_some _ q1
  · rw [List.length_map, hlen]; exact Nat.le_trans (Nat.le_of_lt h64) (by decide)
  · rw [Array.toArray_toList]; exact he
end
structure FunD (K : PySem.W.Frag) (x qual : Str) (st : Stmt) (dV : Value) (f : Addr) (fd : FuncData) : Prop where
  ex : ∃ (oc : Value) (od : Option Addr) (kV doc pm : Value) (an : Option Addr) (cdv ct : Value) (osl : Array (Option Value)),
    fd = PySem.W.fnOf x qual (defArgs st) (defBody st) (defScope st) dV kV doc pm an cdv ct ∧ K.lookup f = some ⟨oc, od, .func fd, osl⟩ ∧ PySem.W.codeIn K cdv qual = true
  kp : PySem.W.keepIn K (.ref f) = true
section
variable {P : Program} {w : World} {K : PySem.W.Frag} {mg : Str → Option Value} {base : Heap}
theorem FunD.ok {x qual : Str} {st : Stmt} {dV : Value} {f : Addr} {fd : FuncData} {N ps : List Str} {k : Nat} {sp : Sp} (F : FunD K x qual st dV f fd) (S : FnScope N ps (defScope st)) (len : ∀ vs H Q E, sp vs H Q E → vs.length = ps.length)
    (hbody : ∀ (cdv : Value) (A : Around) (outer : List Env) (s : Shared) (H : Hp) (vs : List V) (Q : VK) (E : XK), Room k (A.deeper (envOfC qual (defScope st) s.heap.objs.size f cdv)) → sp vs H Q E →
      ∃ t, PSs (cxOf CX0 P w K mg base N qual (defScope st) f cdv A outer s H E).nox (defBody st) t ∧ t { nx := fun _ H' => Q .non H', rt := Q } (start N vs) H) : FnOk P w K mg base CX0 (k + 1) f fd ps sp := by
  obtain ⟨oc, od, kV, doc, pm, an, cdv, ct, osl, rfl, lk, hcd⟩ := F.ex
  refine fn_of lk hcd S len fun A outer s H vs Q E hr hsp => ?_
  obtain ⟨t, h, q⟩ := hbody cdv A outer s H vs Q E hr hsp
  exact ⟨t, h.nox, q⟩
theorem funD_mk {x qual : Str} {st : Stmt} {dV : Value} {f : Addr} {oc : Value} {od an : Option Addr} {osl : Array (Option Value)} {kV doc pm cdv ct : Value} (l : K.lookup f = some ⟨oc, od, .func (PySem.W.fnOf x qual (defArgs st) (defBody st) (defScope st) dV kV doc pm an cdv ct), osl⟩)
    (c : PySem.W.codeIn K cdv qual = true) (k : PySem.W.keepIn K (.ref f) = true) : FunD K x qual st dV f (PySem.W.fnOf x qual (defArgs st) (defBody st) (defScope st) dV kV doc pm an cdv ct) := ⟨⟨oc, od, kV, doc, pm, an, cdv, ct, osl, rfl, l, c⟩, k⟩
end
structure CalleeD (P : Program) (w : World) (K : PySem.W.Frag) (mg : Str → Option Value) (base : Heap) (x : Str) (ps : List Str) (k : Nat) (dvs : List V) (sp : Sp) : Prop where
  ex : ∃ (f : Addr) (fd : FuncData) (ds : List Value), mg x = some (.ref f) ∧ PySem.W.keepIn K (.ref f) = true ∧ Binds K fd ps ds ∧ Vals dvs ds ∧ FnOk P w K mg base CX0 k f fd ps sp
theorem pe_fnD {X : Cx} {x : Str} {ps : List Str} {k : Nat} {dvs : List V} {sp : Sp} {e : Expr} {es : List Expr} {t : TA} {p pos : Pos} (c : CalleeD X.prog X.w X.K X.mg X.base x ps k dvs sp) (hr : Room k X.A) (hg : Gl X x) (ha : PA X (e :: es) t)
    (hdb : (x == ("__debug__" : Str)) = false := by decide) (he : starEach (e :: es) X.env = (false, eval e X.env) :: starEach es X.env := by rfl) (hpl : (backTo pos (starEach es X.env)).any (·.1) = false := by rfl) :
    PE X (.Call (.Name x p) (e :: es) [] pos) (tCall sp dvs E0 t) := by
  obtain ⟨f, fd, ds, hm, hk, hb, hd, F⟩ := c.ex
  exact pe_call F hr hg hm hk hb hd pass0 ha hdb he hpl
end L2
end
section
set_option Elab.async false
set_option linter.all false
set_option maxRecDepth 100000
set_option maxHeartbeats 4000000
namespace Bg
open PySem L2
inductive BRow where
  | num (x : Str) (z : Int)
  | op (x s a b : Str)
  | call (x : Str) (k : Nat) (as : List Str)
  | say (a : Str)
  | jump (to : Nat)
  | test (a : Str) (to : Nat)
  | give (a : Str)
structure BPart where
  name : Str
  params : List Str
  rows : List BRow
def word : BRow → Str
  | .num _ _ => "num" | .op _ _ _ _ => "op" | .call _ _ _ => "call" | .say _ => "say" | .jump _ => "jump" | .test _ _ => "test" | .give _ => "give"
def RowAt (H : Hp) (v : V) : BRow → Prop
  | .num x z => ∃ p, v = .ref p ∧ H p = some (.tup [.str "num", .str x, .int z])
  | .op x s a b => ∃ p, v = .ref p ∧ H p = some (.tup [.str "op", .str x, .str s, .str a, .str b])
  | .call x k as => ∃ p q, v = .ref p ∧ H p = some (.tup [.str "call", .str x, .int (k : Nat), .ref q]) ∧ H q = some (.tup (as.map V.str))
  | .say a => ∃ p, v = .ref p ∧ H p = some (.tup [.str "say", .str a])
  | .jump to => ∃ p, v = .ref p ∧ H p = some (.tup [.str "jump", .int (to : Nat)])
  | .test a to => ∃ p, v = .ref p ∧ H p = some (.tup [.str "test", .str a, .int (to : Nat)])
  | .give a => ∃ p, v = .ref p ∧ H p = some (.tup [.str "give", .str a])
def Tp (H H' : Hp) : Prop := ∀ p xs, H p = some (.tup xs) → H' p = some (.tup xs)
theorem Tp.refl (H : Hp) : Tp H H := fun _ _ h => h
theorem Tp.trans {H H1 H2 : Hp} (x : Tp H H1) (y : Tp H1 H2) : Tp H H2 := fun p xs h => y p xs (x p xs h)
theorem Tp.of_same {H H' : Hp} (x : Same H H') : Tp H H' := fun p xs h => x p _ h
theorem Tp.of_but {a : Addr} {ys : List V} {H H' : Hp} (x : But a H H') (ha : H a = some (.lst ys)) : Tp H H' := fun p xs h => x p _ (by rintro rfl; rw [h] at ha; cases ha) h
theorem Tp.new {p : Addr} {H H1 : Hp} {o : HO} (x : Tp H H1) (hp : H1 p = none) : Tp H (upd H1 p o) := fun b xs h => by
  rw [upd_ne (ne_of_none (x b xs h) hp)]; exact x b xs h
theorem Tp.lst {p : Addr} {H H1 : Hp} {ys : List V} {o : HO} (x : Tp H H1) (hp : H1 p = some (.lst ys)) : Tp H (upd H1 p o) := fun b xs h => by
  have h1 := x b xs h
  rw [upd_ne (by rintro rfl; rw [h1] at hp; cases hp)]; exact h1
theorem RowAt.mono {H H' : Hp} {v : V} {r : BRow} (h : RowAt H v r) (t : Tp H H') : RowAt H' v r := by
  cases r with
  | num x z => obtain ⟨p, e, h⟩ := h; exact ⟨p, e, t _ _ h⟩
  | op x s a b => obtain ⟨p, e, h⟩ := h; exact ⟨p, e, t _ _ h⟩
  | call x k as => obtain ⟨p, q, e, h, h'⟩ := h; exact ⟨p, q, e, t _ _ h, t _ _ h'⟩
  | say a => obtain ⟨p, e, h⟩ := h; exact ⟨p, e, t _ _ h⟩
  | jump to => obtain ⟨p, e, h⟩ := h; exact ⟨p, e, t _ _ h⟩
  | test a to => obtain ⟨p, e, h⟩ := h; exact ⟨p, e, t _ _ h⟩
  | give a => obtain ⟨p, e, h⟩ := h; exact ⟨p, e, t _ _ h⟩
theorem RowAt.ref {H : Hp} {v : V} {r : BRow} (h : RowAt H v r) : ∃ p xs, v = .ref p ∧ H p = some (.tup (.str (word r) :: xs)) := by
  cases r with
  | num x z => obtain ⟨p, e, h⟩ := h; exact ⟨p, _, e, h⟩
  | op x s a b => obtain ⟨p, e, h⟩ := h; exact ⟨p, _, e, h⟩
  | call x k as => obtain ⟨p, q, e, h, h'⟩ := h; exact ⟨p, _, e, h⟩
  | say a => obtain ⟨p, e, h⟩ := h; exact ⟨p, _, e, h⟩
  | jump to => obtain ⟨p, e, h⟩ := h; exact ⟨p, _, e, h⟩
  | test a to => obtain ⟨p, e, h⟩ := h; exact ⟨p, _, e, h⟩
  | give a => obtain ⟨p, e, h⟩ := h; exact ⟨p, _, e, h⟩
structure AllAt {α : Type} (R : V → α → Prop) (vs : List V) (rs : List α) : Prop where
  len : vs.length = rs.length
  at_ : ∀ (i : Nat) v r, vs[i]? = some v → rs[i]? = some r → R v r
theorem AllAt.nil {α : Type} {R : V → α → Prop} : AllAt R [] [] := ⟨rfl, fun i v r h => by simp at h⟩
theorem AllAt.imp {α : Type} {R R' : V → α → Prop} {vs : List V} {rs : List α} (h : AllAt R vs rs) (f : ∀ v r, R v r → R' v r) : AllAt R' vs rs := ⟨h.len, fun i v r a b => f v r (h.at_ i v r a b)⟩
theorem AllAt.snoc {α : Type} {R : V → α → Prop} {vs : List V} {rs : List α} {v : V} {r : α} (h : AllAt R vs rs) (q : R v r) : AllAt R (vs ++ [v]) (rs ++ [r]) := by
  refine ⟨by simp [h.len], fun i w t a b => ?_⟩
  by_cases hi : i < vs.length
  · rw [List.getElem?_append_left hi] at a
    rw [List.getElem?_append_left (by rw [← h.len]; exact hi)] at b
    exact h.at_ i w t a b
  · rw [List.getElem?_append_right (by omega)] at a
    rw [List.getElem?_append_right (by rw [← h.len]; omega)] at b
    have e : i - vs.length = 0 := by
      have := (List.getElem?_eq_some_iff.mp a).1
      simp at this; omega
    rw [e] at a
    rw [← h.len, e] at b
    simp at a b
    rw [← a, ← b]; exact q
theorem AllAt.set {α : Type} {R : V → α → Prop} {vs : List V} {rs : List α} {j : Nat} {v : V} {r : α} (h : AllAt R vs rs) (q : R v r) : AllAt R (vs.set j v) (rs.set j r) := by
  refine ⟨by simp [h.len], fun i w t a b => ?_⟩
  by_cases e : j = i
  · subst e
    have hj : j < vs.length := by have := (List.getElem?_eq_some_iff.mp a).1; rw [List.length_set] at this; exact this
    rw [List.getElem?_set_self hj] at a
    rw [List.getElem?_set_self (by rw [← h.len]; exact hj)] at b
    cases a; cases b; exact q
  · rw [List.getElem?_set_ne e] at a b
    exact h.at_ i w t a b
theorem AllAt.get {α : Type} {R : V → α → Prop} {vs : List V} {rs : List α} (h : AllAt R vs rs) {i : Nat} (hi : i < rs.length) : ∃ v r, vs[i]? = some v ∧ rs[i]? = some r ∧ R v r := by
  have h1 : i < vs.length := by rw [h.len]; exact hi
  exact ⟨vs[i], rs[i], List.getElem?_eq_getElem h1, List.getElem?_eq_getElem hi, h.at_ i _ _ (List.getElem?_eq_getElem h1) (List.getElem?_eq_getElem hi)⟩
theorem AllAt.of_v {α : Type} {R : V → α → Prop} {vs : List V} {rs : List α} (h : AllAt R vs rs) {i : Nat} {v : V} (e : vs[i]? = some v) : ∃ r, rs[i]? = some r ∧ R v r := by
  have h1 := (List.getElem?_eq_some_iff.mp e).1
  obtain ⟨v', r, e1, e2, q⟩ := h.get (i := i) (by rw [← h.len]; exact h1)
  rw [e] at e1; cases e1
  exact ⟨r, e2, q⟩
def PartAt (H : Hp) (v : V) (b : BPart) : Prop := ∃ p q r rs, v = .ref p ∧ H p = some (.tup [.str b.name, .ref q, .ref r]) ∧ H q = some (.tup (b.params.map V.str)) ∧ H r = some (.tup rs) ∧ AllAt (RowAt H) rs b.rows
theorem PartAt.mono {H H' : Hp} {v : V} {b : BPart} (h : PartAt H v b) (t : Tp H H') : PartAt H' v b := by
  obtain ⟨p, q, r, rs, e, h1, h2, h3, h4⟩ := h
  exact ⟨p, q, r, rs, e, t _ _ h1, t _ _ h2, t _ _ h3, h4.imp fun _ _ z => z.mono t⟩
def ScrAt (K : PySem.W.Frag) (H : Hp) (a : Addr) (ns : List Int) : Prop :=
  (∃ o, H a = some (.frz o (.lst (ns.map V.int)))) ∨ ∃ (o : Obj) (its : Array Value) (n : Nat), K.lookup a = some o ∧ o.cls = .type "list" ∧ o.dict = none ∧ o.data = .seq its n ∧ its.size ≤ sizeLine ∧ Vals (ns.map V.int) its.toList
theorem ScrAt.sq {K : PySem.W.Frag} {H : Hp} {a : Addr} {ns : List Int} (h : ScrAt K H a ns) : SqL K H a (ns.map V.int) := by
  rcases h with ⟨o, h⟩ | h
  · exact .inl (.inr ⟨o, h⟩)
  · exact .inr h
def Fz (H H' : Hp) : Prop := ∀ p o u, H p = some (.frz o u) → H' p = some (.frz o u)
theorem Fz.of_but {a : Addr} {ys : List V} {H H' : Hp} (x : But a H H') (ha : H a = some (.lst ys)) : Fz H H' := fun p o u h => x p _ (by rintro rfl; rw [h] at ha; cases ha) h
theorem Fz.of_same {H H' : Hp} (x : Same H H') : Fz H H' := fun p o u h => x p _ h
theorem ScrAt.mono {K : PySem.W.Frag} {H H' : Hp} {a : Addr} {ns : List Int} (h : ScrAt K H a ns) (f : Fz H H') : ScrAt K H' a ns := by
  rcases h with ⟨o, h⟩ | h
  · exact .inl ⟨o, f _ _ _ h⟩
  · exact .inr h
def Stt (K : PySem.W.Frag) (H : Hp) (st : Addr) (k : Nat) : Prop := ∃ scr ns c, H st = some (.lst [.ref scr, .int (k : Nat), .int c]) ∧ ScrAt K H scr ns ∧ ns.length ≤ 63
theorem Stt.lst {K : PySem.W.Frag} {H : Hp} {st : Addr} {k : Nat} (h : Stt K H st k) : ∃ ys, H st = some (.lst ys) := by
  obtain ⟨scr, ns, c, e, _⟩ := h; exact ⟨_, e⟩
theorem Stt.mono {K : PySem.W.Frag} {H H' : Hp} {a st : Addr} {k : Nat} {ys : List V} (h : Stt K H st k) (x : But a H H') (ha : H a = some (.lst ys)) (n : st ≠ a) : Stt K H' st k := by
  obtain ⟨scr, ns, c, e, q, l⟩ := h
  exact ⟨scr, ns, c, x _ _ n e, q.mono (.of_but x ha), l⟩
theorem Stt.same {K : PySem.W.Frag} {H H' : Hp} {st : Addr} {k : Nat} (h : Stt K H st k) (x : Same H H') : Stt K H' st k := by
  obtain ⟨scr, ns, c, e, q, l⟩ := h
  exact ⟨scr, ns, c, x _ _ e, q.mono (.of_same x), l⟩
theorem Stt.new {K : PySem.W.Frag} {H : Hp} {st p : Addr} {o : HO} {k : Nat} (h : Stt K H st k) (hp : H p = none) : Stt K (upd H p o) st k := h.same ((Same.refl H).new hp)
def sp_draw (K : PySem.W.Frag) : Sp := fun vs H Q _ => ∃ (st : Addr) (m : Int) (k : Nat), vs = [.ref st, .int m] ∧ Stt K H st k ∧ k ≤ 1000000 ∧ 0 < m ∧ m < 2 ^ 64 ∧
  ∀ (d : Int) (H' : Hp), 0 ≤ d → d < m → Stt K H' st (k + 1) → But st H H' → Q (.int d) H'
def resv : List Str := ["part", "call", "say", "jump", "test", "give"]
structure Nm (y : Str) : Prop where
  l1 : 1 ≤ y.length
  l8 : y.length ≤ 8
  abc : ∀ c ∈ y.cps.toList, 97 ≤ c ∧ c ≤ 122
  no : y ∉ resv
theorem Nm.ne {y : Str} (h : Nm y) : y ≠ "" := by
  rintro rfl
  exact absurd h.l1 (by decide +kernel)
def sp_names (K : PySem.W.Frag) : Sp := fun vs H Q _ => ∃ (st : Addr) (n k : Nat), vs = [.ref st, .int (n : Nat)] ∧ Stt K H st k ∧ k ≤ 900000 ∧ n ≤ 20 ∧
  ∀ (l : Addr) (ys : List Str) (k' : Nat) (H' : Hp), H l = none → ys.length = n → ys.Nodup → (∀ y ∈ ys, Nm y) → H' l = some (.lst (ys.map V.str)) → Stt K H' st k' → k' ≤ k + 11 → But st H H' → Q (.ref l) H'
def sp_worth (K : PySem.W.Frag) : Sp := fun vs H Q _ => ∃ (st : Addr) (k : Nat), vs = [.ref st] ∧ Stt K H st k ∧ k ≤ 900000 ∧
  ∀ (z : Int) (k' : Nat) (H' : Hp), 0 ≤ z → z < 2 ^ 64 → Stt K H' st k' → k' ≤ k + 4 → But st H H' → Q (.int z) H'
def signs : List Str := ["+", "-", "*", "<", "="]
def Rough (ys : List Str) (cs : List Nat) (n : Nat) : BRow → Prop
  | .num x z => x ∈ ys ∧ 0 ≤ z ∧ z < 2 ^ 64
  | .op x s a b => x ∈ ys ∧ s ∈ signs ∧ a = "" ∧ b = ""
  | .call x k as => x ∈ ys ∧ ∃ c, cs[k]? = some c ∧ as = List.replicate c ("" : Str)
  | .say a => a = ""
  | .jump to => to < n
  | .test a to => a = "" ∧ to < n
  | .give a => a = ""
def intsV (ns : List Nat) : List V := ns.map fun n => V.int (n : Nat)
def sp_rough_row (K : PySem.W.Frag) : Sp := fun vs H Q _ => ∃ (st nm cn : Addr) (n k : Nat) (ys : List Str) (cs : List Nat), vs = [.ref st, .ref nm, .int (n : Nat), .ref cn] ∧ Stt K H st k ∧ k ≤ 800000 ∧ H nm = some (.lst (ys.map V.str)) ∧ ys ≠ [] ∧ ys.length ≤ 100 ∧
  1 ≤ n ∧ n ≤ 1000 ∧ H cn = some (.lst (intsV cs)) ∧ cs ≠ [] ∧ cs.length ≤ 100 ∧ (∀ c ∈ cs, c ≤ 4) ∧ nm ≠ st ∧ cn ≠ st ∧
  ∀ (v : V) (r : BRow) (k' : Nat) (H' : Hp), RowAt H' v r → Rough ys cs n r → Stt K H' st k' → k' ≤ k + 8 → But st H H' → Q v H'
def leadsL (n : Nat) : BRow → List Nat
  | .jump to => [to]
  | .test _ to => [n + 1, to]
  | .give _ => []
  | _ => [n + 1]
def sp_leads (K : PySem.W.Frag) : Sp := fun vs H Q _ => ∃ (rl : Addr) (n : Nat) (rvs : List V) (v : V) (r : BRow), vs = [.ref rl, .int (n : Nat)] ∧ (H rl = some (.lst rvs) ∨ H rl = some (.tup rvs)) ∧ rvs[n]? = some v ∧ RowAt H v r ∧ ∀ l, H l = none → Q (.ref l) (upd H l (.lst (intsV (leadsL n r))))
def setsOf : BRow → V
  | .num x _ => .str x
  | .op x _ _ _ => .str x
  | .call x _ _ => .str x
  | _ => .non
def isEnd : BRow → Bool
  | .jump _ => true
  | .give _ => true
  | _ => false
def isNum : BRow → Bool
  | .num _ _ => true
  | _ => false
structure RowsOk (ys : List Str) (cs : List Nat) (rs : List BRow) : Prop where
  pos : rs ≠ []
  few : rs.length ≤ 100
  rough : ∀ r ∈ rs, Rough ys cs rs.length r
def stp (rs : List BRow) (n : Nat) : Nat := match rs[n]? with
  | some (.jump t) => t
  | _ => n
def runJ (rs : List BRow) : Nat → Nat → Nat
  | 0, n => n
  | k + 1, n => runJ rs k (stp rs n)
def isJump : BRow → Bool
  | .jump _ => true
  | _ => false
def NoRing (rs : List BRow) : Prop := ∀ n, n < rs.length → ∀ r, rs[runJ rs rs.length n]? = some r → isJump r = false
def sp_mended (K : PySem.W.Frag) : Sp := fun vs H Q _ => ∃ (rl nm : Addr) (bare : Bool) (rvs : List V) (rs : List BRow) (ys : List Str) (R : BRow → Prop), vs = [.ref rl, .ref nm, .bl bare] ∧ H rl = some (.lst rvs) ∧ AllAt (RowAt H) rvs rs ∧ rs ≠ [] ∧ rs.length ≤ 100 ∧ (∀ r ∈ rs, R r) ∧ R (.say "") ∧ R (.give "") ∧ (∀ t, R (.jump t) → t < rs.length) ∧ H nm = some (.lst (ys.map V.str)) ∧ ys ≠ [] ∧ (∀ y ∈ ys, bare = true → R (.num y 3)) ∧ nm ≠ rl ∧
  (bare = true → 2 ≤ rs.length) ∧ ∀ (rvs' : List V) (rs' : List BRow) (H' : Hp), H' rl = some (.lst rvs') → AllAt (RowAt H') rvs' rs' → rs'.length = rs.length → (∀ r ∈ rs', R r) → (rs'.getLast?.map isEnd = some true) → (bare = true → rs'.head?.map isNum = some true) → NoRing rs' → But rl H H' → Q (.ref rl) H'
def TxtsAt (H : Hp) (v : V) (ks : List Str) : Prop := ∃ a, v = .ref a ∧ H a = some (.lst (ks.map V.str))
structure Known (ps : List Str) (rs : List BRow) (kss : List (List Str)) : Prop where
  zero : ∀ ks, kss[0]? = some ks → ∀ y ∈ ks, y ∈ ps
  on : ∀ (n m : Nat) r ks km, rs[n]? = some r → m ∈ leadsL n r → kss[n]? = some ks → kss[m]? = some km → ∀ y ∈ km, y ∈ ks ∨ setsOf r = .str y
def sp_set_names (K : PySem.W.Frag) : Sp := fun vs H Q _ => ∃ (rl nm pr : Addr) (rvs : List V) (rs : List BRow) (ys ps : List Str) (cs : List Nat), vs = [.ref rl, .ref nm, .ref pr] ∧ H rl = some (.lst rvs) ∧ AllAt (RowAt H) rvs rs ∧ RowsOk ys cs rs ∧ (rs.getLast?.map isEnd = some true) ∧
  H nm = some (.lst (ys.map V.str)) ∧ ys.length ≤ 100 ∧ H pr = some (.lst (ps.map V.str)) ∧ ps.length ≤ 100 ∧ (∀ y ∈ ps, y ∈ ys) ∧ (ps = [] → rs.head?.map isNum = some true) ∧
  ∀ (kl : Addr) (refs : List V) (kss : List (List Str)) (H' : Hp), H kl = none → H' kl = some (.lst refs) → AllAt (TxtsAt H') refs kss → kss.length = rs.length → (∀ (i : Nat) ks, kss[i]? = some ks → ks.length ≤ 100 ∧ (∀ y ∈ ks, y ∈ ys) ∧ (ks ≠ [] ∨ (i = 0 ∧ ps = []))) → Known ps rs kss → Same H H' → Q (.ref kl) H'
def FillOf (ks : List Str) : BRow → BRow → Prop
  | .num x z, r => r = .num x z
  | .op x s _ _, r => ∃ a b, r = .op x s a b ∧ a ∈ ks ∧ b ∈ ks
  | .call x k as, r => ∃ bs : List Str, r = .call x k bs ∧ bs.length = as.length ∧ ∀ b ∈ bs, b ∈ ks
  | .say _, r => ∃ a, r = .say a ∧ a ∈ ks
  | .jump to, r => r = .jump to
  | .test _ to, r => ∃ a, r = .test a to ∧ a ∈ ks
  | .give _, r => ∃ a, r = .give a ∧ a ∈ ks
def sp_filled (K : PySem.W.Frag) : Sp := fun vs H Q _ => ∃ (st rl kl : Addr) (k : Nat) (rvs refs : List V) (rs : List BRow) (kss : List (List Str)) (ys : List Str) (cs : List Nat), vs = [.ref st, .ref rl, .ref kl] ∧ Stt K H st k ∧ k ≤ 700000 ∧ H rl = some (.lst rvs) ∧ AllAt (RowAt H) rvs rs ∧ RowsOk ys cs rs ∧ (∀ y ∈ ys, y ≠ "") ∧ (∀ c ∈ cs, c ≤ 4) ∧
  H kl = some (.lst refs) ∧ AllAt (TxtsAt H) refs kss ∧ kss.length = rs.length ∧ (∀ (i : Nat) ks, kss[i]? = some ks → ks.length ≤ 100) ∧ (∀ (i : Nat) ks r, kss[i]? = some ks → rs[i]? = some r → ks ≠ [] ∨ isNum r = true) ∧ (∀ a ∈ refs, a ≠ .ref st) ∧ rl ≠ st ∧ kl ≠ st ∧
  ∀ (p : Addr) (rvs' : List V) (rs' : List BRow) (k' : Nat) (H' : Hp), H' p = some (.tup rvs') → AllAt (RowAt H') rvs' rs' → rs'.length = rs.length → (∀ (i : Nat) ks r r', kss[i]? = some ks → rs[i]? = some r → rs'[i]? = some r' → FillOf ks r r') → Stt K H' st k' → k' ≤ k + 5 * rs.length → But st H H' → Q (.ref p) H'
def readsOf : BRow → List Str
  | .op _ _ a b => [a, b]
  | .call _ _ as => as
  | .say a => [a]
  | .test a _ => [a]
  | .give a => [a]
  | _ => []
def RowOk (ys : List Str) (cs : List Nat) (n : Nat) : BRow → Prop
  | .num x z => x ∈ ys ∧ 0 ≤ z ∧ z < 2 ^ 64
  | .op x s a b => x ∈ ys ∧ s ∈ signs ∧ a ∈ ys ∧ b ∈ ys
  | .call x k as => x ∈ ys ∧ cs[k]? = some as.length ∧ ∀ a ∈ as, a ∈ ys
  | .say a => a ∈ ys
  | .jump to => to < n
  | .test a to => a ∈ ys ∧ to < n
  | .give a => a ∈ ys
structure PartOk (ys : List Str) (cs : List Nat) (b : BPart) : Prop where
  pnd : b.params.Nodup
  pin : ∀ y ∈ b.params, y ∈ ys
  pos : b.rows ≠ []
  few : b.rows.length ≤ 60
  rows : ∀ r ∈ b.rows, RowOk ys cs b.rows.length r
  last : b.rows.getLast?.map isEnd = some true
  ring : NoRing b.rows
  known : ∃ kss, kss.length = b.rows.length ∧ Known b.params b.rows kss ∧ ∀ (n : Nat) r ks, b.rows[n]? = some r → kss[n]? = some ks → ∀ y ∈ readsOf r, y ∈ ks
structure ProgOk (ys : List Str) (cs : List Nat) (bs : List BPart) : Prop where
  ynd : ys.Nodup
  ynm : ∀ y ∈ ys, Nm y
  y2 : 2 ≤ ys.length
  y6 : ys.length ≤ 6
  pos : 1 ≤ bs.length
  few : bs.length ≤ 5
  nnd : (bs.map (·.name)).Nodup
  nnm : ∀ b ∈ bs, Nm b.name
  cnt : bs.map (·.params.length) = cs
  c4 : ∀ c ∈ cs, c ≤ 4
  part : ∀ b ∈ bs, PartOk ys cs b
def sp_part (K : PySem.W.Frag) : Sp := fun vs H Q _ => ∃ (st nm pr cn : Addr) (wd : Str) (m k : Nat) (ys ps : List Str) (cs : List Nat), vs = [.ref st, .str wd, .ref nm, .ref pr, .ref cn, .int (m : Nat)] ∧ Stt K H st k ∧ k ≤ 600000 ∧ H nm = some (.lst (ys.map V.str)) ∧ ys ≠ [] ∧ ys.length ≤ 100 ∧ (∀ y ∈ ys, y ≠ "") ∧
  H pr = some (.lst (ps.map V.str)) ∧ ps.length ≤ 100 ∧ ps.Nodup ∧ (∀ y ∈ ps, y ∈ ys) ∧ H cn = some (.lst (intsV cs)) ∧ cs ≠ [] ∧ cs.length ≤ 100 ∧ (∀ c ∈ cs, c ≤ 4) ∧ 1 ≤ m ∧ m ≤ 50 ∧ nm ≠ st ∧ pr ≠ st ∧ cn ≠ st ∧
  ∀ (v : V) (b : BPart) (k' : Nat) (H' : Hp), PartAt H' v b → b.name = wd → b.params = ps → PartOk ys cs b → b.rows.length ≤ m + 1 → Stt K H' st k' → k' ≤ k + 1000 → But st H H' → Q v H'
def sp_program (K : PySem.W.Frag) : Sp := fun vs H Q _ => ∃ (st : Addr) (m k : Nat), vs = [.ref st, .int (m : Nat)] ∧ Stt K H st k ∧ k ≤ 500000 ∧ 1 ≤ m ∧ m ≤ 50 ∧
  ∀ (p : Addr) (pvs : List V) (bs : List BPart) (ys : List Str) (cs : List Nat) (k' : Nat) (H' : Hp), H' p = some (.tup pvs) → AllAt (PartAt H') pvs bs → ProgOk ys cs bs → (∀ b ∈ bs, b.rows.length ≤ m + 1) → Stt K H' st k' → k' ≤ k + 10000 → But st H H' → Q (.ref p) H'
def goalOf : BRow → V
  | .jump to => .int (to : Nat)
  | .test _ to => .int (to : Nat)
  | _ => .non
def sp_p_sets (_ : PySem.W.Frag) : Sp := fun vs H Q _ => ∃ v r, vs = [v] ∧ RowAt H v r ∧ ∀ (H' : Hp), Same H H' → Q (setsOf r) H'
def sp_p_goal (_ : PySem.W.Frag) : Sp := fun vs H Q _ => ∃ v r, vs = [v] ∧ RowAt H v r ∧ Q (goalOf r) H
def spNext : Sp := fun vs H Q _ => ∃ (rt : Addr) (n : Nat) (rvs : List V) (v : V) (r : BRow), vs = [.ref rt, .int (n : Nat)] ∧ H rt = some (.tup rvs) ∧ rvs[n]? = some v ∧ RowAt H v r ∧ ∀ (p : Addr) (H' : Hp), H' p = some (.tup (intsV (leadsL n r))) → Same H H' → Q (.ref p) H'
abbrev sp_p_leads (_ : PySem.W.Frag) : Sp := spNext
def sp_law (K : PySem.W.Frag) : Sp := fun vs H Q _ => ∃ (scr : Addr) (ns : List Int), vs = [.ref scr] ∧ ScrAt K H scr ns ∧ ns.length ≤ 63 ∧ ∀ H', Q (.bl true) H'
abbrev k_draw : Nat := 0
abbrev K_draw : Nat := 1
abbrev k_names : Nat := 1
abbrev K_names : Nat := 2
abbrev k_worth : Nat := 1
abbrev K_worth : Nat := 2
abbrev k_rough_row : Nat := 2
abbrev K_rough_row : Nat := 3
abbrev k_leads : Nat := 0
abbrev K_leads : Nat := 1
abbrev k_mended : Nat := 0
abbrev K_mended : Nat := 1
abbrev k_set_names : Nat := 1
abbrev K_set_names : Nat := 2
abbrev k_filled : Nat := 1
abbrev K_filled : Nat := 2
abbrev k_part : Nat := 3
abbrev K_part : Nat := 4
abbrev k_program : Nat := 4
abbrev K_program : Nat := 5
abbrev k_p_sets : Nat := 0
abbrev K_p_sets : Nat := 1
abbrev k_p_goal : Nat := 0
abbrev K_p_goal : Nat := 1
abbrev k_p_leads : Nat := 1
abbrev K_p_leads : Nat := 2
end Bg
end
section
set_option Elab.async false
set_option linter.all false
set_option maxRecDepth 100000
set_option maxHeartbeats 4000000
namespace Bg
open PySem L2
theorem if_dec {c : Prop} [Decidable c] {A B : Prop} (h1 : c → A) (h2 : ¬ c → B) : if decide c = true then A else B := by
  by_cases h : c
  · rw [decide_eq_true h]; exact iteT (h1 h)
  · rw [decide_eq_false h]; exact iteF (h2 h)
theorem if_not {c : Prop} [Decidable c] {A B : Prop} (h1 : ¬ c → A) (h2 : c → B) : if (!decide c) = true then A else B := by
  by_cases h : c
  · rw [decide_eq_true h]; exact iteF (h2 h)
  · rw [decide_eq_false h]; exact iteT (h1 h)
theorem if_bl {b : Bool} {A B : Prop} (h1 : b = true → A) (h2 : b = false → B) : if b = true then A else B := by
  cases b with
  | true => exact iteT (h1 rfl)
  | false => exact iteF (h2 rfl)
theorem atI_of {α : Type} {xs : List α} {i : Int} {v : α} (h0 : 0 ≤ i) (e : xs[i.toNat]? = some v) : atI xs i = some v := by
  have h1 := (List.getElem?_eq_some_iff.mp e).1
  unfold atI ixN
  rw [if_pos h0, if_pos (by lia)]
  exact e
theorem ixL {K : PySem.W.Frag} {p : Addr} {xs : List V} {i : Int} {v : V} {H : Hp} {Q : VK} (h : SqL K H p xs) (h0 : 0 ≤ i) (e : xs[i.toNat]? = some v) (q : Q v H) : rIx K (.ref p) (.int i) H Q :=
  .inl ⟨p, xs, i, v, rfl, rfl, h, atI_of h0 e, q⟩
theorem ixT {K : PySem.W.Frag} {p : Addr} {xs : List V} {i : Int} {v : V} {H : Hp} {Q : VK} (h : H p = some (.tup xs)) (h0 : 0 ≤ i) (e : xs[i.toNat]? = some v) (q : Q v H) : rIx K (.ref p) (.int i) H Q :=
  .inr (.inl ⟨p, xs, i, v, rfl, rfl, SqT.of h, atI_of h0 e, q⟩)
theorem ixS {K : PySem.W.Frag} {z : Str} {i : Int} {c : Nat} {H : Hp} {Q : VK} (hz : z.length ≤ sizeLine) (h0 : 0 ≤ i) (e : z.cps.toList[i.toNat]? = some c) (q : Q (.str ⟨#[c]⟩) H) : rIx K (.str z) (.int i) H Q :=
  .inr (.inr ⟨z, i, c, rfl, rfl, hz, atI_of h0 e, q⟩)
theorem setL {p : Addr} {xs : List V} {i : Int} {v : V} {H : Hp} {Q : Hp → Prop} (h : H p = some (.lst xs)) (h0 : 0 ≤ i) (h1 : i.toNat < xs.length) (q : Q (upd H p (.lst (xs.set i.toNat v)))) : rSetL (.ref p) (.int i) v H Q := by
  refine ⟨p, xs, i, i.toNat, rfl, rfl, h, ?_, q⟩
  unfold ixN
  rw [if_pos h0, if_pos (by lia)]
theorem smallL {n : Nat} (h : n ≤ 100000) : n < sizeLine := Nat.lt_of_le_of_lt h (by decide)
theorem intsV_get {ns : List Nat} {i : Nat} {n : Nat} (h : ns[i]? = some n) : (intsV ns)[i]? = some (.int (n : Nat)) := by
  unfold intsV; rw [List.getElem?_map, h]; rfl
theorem intsV_len (ns : List Nat) : (intsV ns).length = ns.length := by unfold intsV; rw [List.length_map]
theorem strs_get {ys : List Str} {i : Nat} {y : Str} (h : ys[i]? = some y) : (ys.map V.str)[i]? = some (.str y) := by rw [List.getElem?_map, h]; rfl
theorem ne_lst_tup {H : Hp} {a b : Addr} {xs ys : List V} (h : H a = some (.lst xs)) (h' : H b = some (.tup ys)) : a ≠ b := ne_of h h' (by intro z; cases z)
theorem app_yes {D : Addr} {te : TE} {E : Ends} {σ : St} {H : Hp} (h : te σ H fun y H2 => ∃ ys, H2 D = some (.lst ys) ∧ ys.length < sizeLine ∧ E.nx σ (upd H2 D (.lst (ys ++ [y])))) : sApp D tYes te E σ H := by
  unfold sApp tYes
  dsimp only
  rw [if_pos rfl]
  exact h
theorem no {x y : V} {A B : Prop} (h : ¬ x = y) (q : B) : if decide (x = y) = true then A else B := if_dec (fun z => absurd z h) fun _ => q
theorem yes {x : V} {A B : Prop} (q : A) : if decide (x = x) = true then A else B := if_dec (fun _ => q) fun z => absurd rfl z
theorem if_t {b : Bool} {A B : Prop} (e : b = true) (q : A) : if b = true then A else B := by rw [e]; exact iteT q
theorem if_f {b : Bool} {A B : Prop} (e : b = false) (q : B) : if b = true then A else B := by rw [e]; exact iteF q
theorem cut_take (xs : List V) (c : Nat) : cutV xs none (some (c : Int)) = xs.take c := by
  unfold cutV
  rw [HT.sIx_none, HT.sIx_nat, List.drop_zero, Nat.sub_zero, ← List.take_eq_take_min]
theorem cut_drop (xs : List V) (c : Nat) : cutV xs (some (c : Int)) none = xs.drop c := by
  unfold cutV
  rw [HT.sIx_none, HT.sIx_nat]
  by_cases h : c ≤ xs.length
  · rw [Nat.min_eq_left h]; exact List.take_of_length_le (by rw [List.length_drop]; lia)
  · rw [Nat.min_eq_right (by lia), List.drop_length, List.drop_of_length_le (by lia), List.take_nil]
theorem flat_strs (ys : List Str) : (ys.map V.str).all flatV = true := by
  rw [List.all_eq_true]
  intro v hv
  obtain ⟨y, _, rfl⟩ := List.mem_map.mp hv
  rfl
theorem inV_strs (y : Str) (ls : List Str) : inV (.str y) (ls.map V.str) = decide (y ∈ ls) := by
  unfold inV
  rw [List.any_map, Bool.eq_iff_iff, List.any_eq_true, decide_eq_true_eq]
  constructor
  · rintro ⟨z, hz, e⟩
    have e' : (z == y) = true := e
    have : z = y := by simpa using e'
    rw [← this]; exact hz
  · intro h
    exact ⟨y, h, by show (y == y) = true; simp⟩
theorem But.past {a l : Addr} {H H1 H2 : Hp} (x : But a H H1) (hl : H l = none) (y : But l H1 H2) : But a H H2 := fun c u n h => y c u (ne_of_none h hl) (x c u n h)
end Bg
end
section
set_option Elab.async false
set_option linter.all false
set_option maxRecDepth 100000
set_option maxHeartbeats 4000000
namespace Bg
open PySem PySem.Spec PyProof.Rows L2
abbrev PS_draw : List Str := ["_law_state", "_law_many"]
abbrev N_draw : List Str := ["_law_state", "_law_many", "_law_script", "_law_k", "_law_digit", "_law_cell"]
def t_draw_1 (K : PySem.W.Frag) : TS := (tRet (tOp (rMod2) (tOp (rMod2) (tOp (rTimes K) (tVar 5) (tVar 5)) (tC (.int 1999999973))) (tVar 1)))
def t_draw_2 (K : PySem.W.Frag) : TS := (tSeq (tAsg (tOp (rMod2) (tOp (rTimes K) (tVar 5) (tVar 5)) (tC (.int 2147483587))) (gName 5)) (t_draw_1 K))
def t_draw_3 (K : PySem.W.Frag) : TS := (tSeq (tAsg (tOp (rMod2) (tOp (rTimes K) (tOp (rMod2) (tVar 5) (tC (.int 2147483629))) (tOp (rPlus K) (tVar 3) (tC (.int 3)))) (tC (.int 2147483629))) (gName 5)) (t_draw_2 K))
def t_draw_4 (K : PySem.W.Frag) : TS := (tSeq (tIfS (tTest (tOp (rGt2) (tCB (rLen K) (tCons (tVar 2) tNil)) (tC (.int 0)))) (tAsg (tOp (rPlus K) (tVar 5) (tOp (rTimes K) (tOp (rIx K) (tVar 2) (tOp (rMod2) (tOp (rTimes K) (tVar 3) (tC (.int 7))) (tCB (rLen K) (tCons (tVar 2) tNil)))) (tOp (rPlus K) (tC (.int 48271)) (tVar 3)))) (gName 5)) tNext) (t_draw_3 K))
def t_draw_5 (K : PySem.W.Frag) : TS := (tSeq (tAsg (tOp (rPlus K) (tOp (rTimes K) (tVar 3) (tC (.int 7919))) (tC (.int 5))) (gName 5)) (t_draw_4 K))
def t_draw_6 (K : PySem.W.Frag) : TS := (tRet (tVar 4))
def t_draw_7 (K : PySem.W.Frag) : TS := (tIfS (tTest (tOp ((rIn K true)) (tOp (rIx K) (tVar 0) (tC (.int 2))) (tTup (tCons (tC (.int 0)) (tCons (tUn rNeg (tC (.int 1))) tNil))))) (tSeq (tAsg (tCB (rDivmod) (tCons (tOp (rIx K) (tVar 0) (tC (.int 2))) (tCons (tVar 1) tNil))) (gTup K 2 (gCons (gSub (tVar 0) (tC (.int 2)) rSetL) (gCons (gName 4) gNil)))) (t_draw_6 K)) tNext)
def t_draw_8 (K : PySem.W.Frag) : TS := (tSeq (tIfS (tAnd (tTest (tOp (rLt2) (tOp (rPlus K) (tOp (rFdiv2) (tVar 3) (tC (.int 12))) (tC (.int 1))) (tCB (rLen K) (tCons (tVar 2) tNil)))) (tTest (tOp (rEqG K) (tOp (rMod2) (tOp (rIx K) (tVar 2) (tC (.int 0))) (tC (.int 2))) (tC (.int 1))))) (tSeq (tIfS (tTest (tOp (rEqG K) (tOp (rMod2) (tVar 3) (tC (.int 12))) (tC (.int 0)))) (tAsg (tOp (rIx K) (tVar 2) (tOp (rPlus K) (tOp (rFdiv2) (tVar 3) (tC (.int 12))) (tC (.int 1)))) (gSub (tVar 0) (tC (.int 2)) rSetL)) tNext) (t_draw_7 K)) (tIfS (tTest (tOp (rLt2) (tVar 3) (tCB (rLen K) (tCons (tVar 2) tNil)))) (tRet (tOp (rMod2) (tOp (rIx K) (tVar 2) (tVar 3)) (tVar 1))) tNext)) (t_draw_5 K))
def t_draw_9 (K : PySem.W.Frag) : TS := (tSeq (tAsg (tOp (rPlus K) (tVar 3) (tC (.int 1))) (gSub (tVar 0) (tC (.int 1)) rSetL)) (t_draw_8 K))
def t_draw (K : PySem.W.Frag) : TS := (tSeq (tAsg (tSl (rSl K) (tVar 0) tNoPart (tPart (tC (.int 2)))) (gTupL K 2 (gCons (gName 2) (gCons (gName 3) gNil)))) (t_draw_9 K))
abbrev PS_names : List Str := ["_law_state", "_law_many"]
abbrev N_names : List Str := ["_law_state", "_law_many", "_law_letters", "_law_size", "_law_at", "_law_first", "_law_base", "_law_found", "_law_k", "_law_some", "_law_name"]
def t_names_1 (K : PySem.W.Frag) : TS := (tRet (tVar 7))
def t_names_2 (K : PySem.W.Frag) : TS := (tDrop (tBM K "list" rAppend (tVar 7) (tCons (tVar 10) tNil)))
def t_names_3 (K : PySem.W.Frag) : TS := (tSeq (tIfS (tOr (tTest (tOp ((rIn K false)) (tVar 10) (tTup (tCons (tC (.str "part")) (tCons (tC (.str "call")) (tCons (tC (.str "say")) (tCons (tC (.str "jump")) (tCons (tC (.str "test")) (tCons (tC (.str "give")) tNil))))))))) (tAnd (tTest (tOp (rLt2) (tVar 3) (tC (.int 8)))) (tTest (tOp (rEqG K) (tOp (rMod2) (tOp (rPlus K) (tVar 3) (tVar 8)) (tC (.int 3))) (tC (.int 1)))))) (tAsg (tOp (rPlus K) (tVar 10) (tC (.str "x"))) (gName 10)) tNext) (t_names_2 K))
def t_names_4 (K : PySem.W.Frag) : TS := (tSeq (tAsg (tBM K "str" (rJoin K) (tC (.str "")) (tCons (tVar 9) tNil)) (gName 10)) (t_names_3 K))
def t_names_5 (K : PySem.W.Frag) : TS := (tSeq (tAsg (tOp (rPlus K) (tOp (rPlus K) (tSl (rSl K) (tVar 6) tNoPart (tPart (tVar 4))) (tLst (tCons (tOp (rIx K) (tVar 2) (tOp (rMod2) (tOp (rPlus K) (tVar 5) (tOp (rTimes K) (tC (.int 5)) (tVar 8))) (tC (.int 26)))) tNil))) (tSl (rSl K) (tVar 6) (tPart (tOp (rPlus K) (tVar 4) (tC (.int 1)))) tNoPart)) (gName 9)) (t_names_4 K))
def t_names_6 (K : PySem.W.Frag) : TS := (tSeq (tFor (iRng1 (tCons (tVar 1) tNil)) (gName 8) (t_names_5 K)) (t_names_1 K))
def t_names_7 (K : PySem.W.Frag) : TS := (tSeq (tAsg (tLst tNil) (gName 7)) (t_names_6 K))
def t_names_8 (K : PySem.W.Frag) : TS := (tSeq (tAsg (tComp [] 1 (iRng1 (tCons (tVar 3) tNil)) (gName 11) tYes (tOp (rIx K) (tVar 2) (tOp (rMod2) (tOp (rPlus K) (tVar 5) (tOp (rTimes K) (tOp (rTimes K) (tC (.int 7)) (tVar 11)) (tCall (sp_draw K) [] E0 (tCons (tVar 0) (tCons (tC (.int 4)) tNil))))) (tC (.int 26))))) (gName 6)) (t_names_7 K))
def t_names_9 (K : PySem.W.Frag) : TS := (tSeq (tAsg (tCall (sp_draw K) [] E0 (tCons (tVar 0) (tCons (tC (.int 26)) tNil))) (gName 5)) (t_names_8 K))
def t_names_10 (K : PySem.W.Frag) : TS := (tSeq (tAsg (tCall (sp_draw K) [] E0 (tCons (tVar 0) (tCons (tVar 3) tNil))) (gName 4)) (t_names_9 K))
def t_names_11 (K : PySem.W.Frag) : TS := (tSeq (tAsg (tOp (rPlus K) (tC (.int 1)) (tCall (sp_draw K) [] E0 (tCons (tVar 0) (tCons (tC (.int 8)) tNil)))) (gName 3)) (t_names_10 K))
def t_names (K : PySem.W.Frag) : TS := (tSeq (tAsg (tC (.str "abcdefghijklmnopqrstuvwxyz")) (gName 2)) (t_names_11 K))
abbrev PS_worth : List Str := ["_law_state"]
abbrev N_worth : List Str := ["_law_state"]
def t_worth_1 (K : PySem.W.Frag) : TS := (tRet (tOp (rIx K) (tLst (tCons (tC (.int 0)) (tCons (tC (.int 1)) (tCons (tOp (rSub2) (tOp (rSub2) (tOp (rPow2) (tC (.int 2)) (tC (.int 64))) (tC (.int 1))) (tCall (sp_draw K) [] E0 (tCons (tVar 0) (tCons (tC (.int 3)) tNil)))) (tCons (tCall (sp_draw K) [] E0 (tCons (tVar 0) (tCons (tC (.int 12)) tNil))) tNil))))) (tCall (sp_draw K) [] E0 (tCons (tVar 0) (tCons (tC (.int 4)) tNil)))))
def t_worth (K : PySem.W.Frag) : TS := (tSeq (tIfS (tTest (tOp (rEqG K) (tCall (sp_draw K) [] E0 (tCons (tVar 0) (tCons (tC (.int 2)) tNil))) (tC (.int 0)))) (tRet (tOp (rPlus K) (tOp (rTimes K) (tCall (sp_draw K) [] E0 (tCons (tVar 0) (tCons (tOp (rPow2) (tC (.int 2)) (tC (.int 31))) tNil))) (tOp (rPow2) (tC (.int 2)) (tC (.int 33)))) (tCall (sp_draw K) [] E0 (tCons (tVar 0) (tCons (tOp (rPow2) (tC (.int 2)) (tC (.int 31))) tNil))))) tNext) (t_worth_1 K))
abbrev PS_rough_row : List Str := ["_law_state", "_law_names_here", "_law_many", "_law_counts"]
abbrev N_rough_row : List Str := ["_law_state", "_law_names_here", "_law_many", "_law_counts", "_law_x", "_law_sort", "_law_k"]
def t_rough_row_1 (K : PySem.W.Frag) : TS := (tRet (tOp (rIx K) (tLst (tCons (tTup (tCons (tC (.str "jump")) (tCons (tCall (sp_draw K) [] E0 (tCons (tVar 0) (tCons (tVar 2) tNil))) tNil))) (tCons (tTup (tCons (tC (.str "give")) (tCons (tC (.str "")) tNil))) tNil))) (tOp (rSub2) (tVar 5) (tC (.int 10)))))
def t_rough_row_2 (K : PySem.W.Frag) : TS := (tSeq (tIfS (tTest (tOp (rLt2) (tVar 5) (tC (.int 10)))) (tRet (tTup (tCons (tC (.str "test")) (tCons (tC (.str "")) (tCons (tCall (sp_draw K) [] E0 (tCons (tVar 0) (tCons (tVar 2) tNil))) tNil))))) tNext) (t_rough_row_1 K))
def t_rough_row_3 (K : PySem.W.Frag) : TS := (tSeq (tIfS (tTest (tOp (rLt2) (tVar 5) (tC (.int 8)))) (tRet (tTup (tCons (tC (.str "say")) (tCons (tC (.str "")) tNil)))) tNext) (t_rough_row_2 K))
def t_rough_row_4 (K : PySem.W.Frag) : TS := (tRet (tTup (tCons (tC (.str "call")) (tCons (tVar 4) (tCons (tVar 6) (tCons (tOp (rTimes K) (tTup (tCons (tC (.str "")) tNil)) (tOp (rIx K) (tVar 3) (tVar 6))) tNil))))))
def t_rough_row_5 (K : PySem.W.Frag) : TS := (tSeq (tIfS (tTest (tOp (rEqG K) (tVar 5) (tC (.int 6)))) (tSeq (tAsg (tCall (sp_draw K) [] E0 (tCons (tVar 0) (tCons (tCB (rLen K) (tCons (tVar 3) tNil)) tNil))) (gName 6)) (t_rough_row_4 K)) tNext) (t_rough_row_3 K))
def t_rough_row_6 (K : PySem.W.Frag) : TS := (tSeq (tIfS (tTest (tOp (rLt2) (tVar 5) (tC (.int 6)))) (tRet (tTup (tCons (tC (.str "op")) (tCons (tVar 4) (tCons (tOp (rIx K) (tC (.str "+-*<=")) (tCall (sp_draw K) [] E0 (tCons (tVar 0) (tCons (tC (.int 5)) tNil)))) (tCons (tC (.str "")) (tCons (tC (.str "")) tNil))))))) tNext) (t_rough_row_5 K))
def t_rough_row_7 (K : PySem.W.Frag) : TS := (tSeq (tIfS (tTest (tOp (rLt2) (tVar 5) (tC (.int 2)))) (tRet (tTup (tCons (tC (.str "num")) (tCons (tVar 4) (tCons (tCall (sp_worth K) [] E0 (tCons (tVar 0) tNil)) tNil))))) tNext) (t_rough_row_6 K))
def t_rough_row_8 (K : PySem.W.Frag) : TS := (tSeq (tAsg (tCall (sp_draw K) [] E0 (tCons (tVar 0) (tCons (tC (.int 12)) tNil))) (gName 5)) (t_rough_row_7 K))
def t_rough_row (K : PySem.W.Frag) : TS := (tSeq (tAsg (tOp (rIx K) (tVar 1) (tCall (sp_draw K) [] E0 (tCons (tVar 0) (tCons (tCB (rLen K) (tCons (tVar 1) tNil)) tNil)))) (gName 4)) (t_rough_row_8 K))
abbrev PS_leads : List Str := ["_law_rows", "_law_n"]
abbrev N_leads : List Str := ["_law_rows", "_law_n"]
def t_leads_1 (K : PySem.W.Frag) : TS := (tRet (tLst (tCons (tOp (rPlus K) (tVar 1) (tC (.int 1))) tNil)))
def t_leads_2 (K : PySem.W.Frag) : TS := (tSeq (tIfS (tTest (tOp (rEqG K) (tOp (rIx K) (tOp (rIx K) (tVar 0) (tVar 1)) (tC (.int 0))) (tC (.str "give")))) (tRet (tLst tNil)) tNext) (t_leads_1 K))
def t_leads_3 (K : PySem.W.Frag) : TS := (tSeq (tIfS (tTest (tOp (rEqG K) (tOp (rIx K) (tOp (rIx K) (tVar 0) (tVar 1)) (tC (.int 0))) (tC (.str "test")))) (tRet (tLst (tCons (tOp (rPlus K) (tVar 1) (tC (.int 1))) (tCons (tOp (rIx K) (tOp (rIx K) (tVar 0) (tVar 1)) (tC (.int 2))) tNil)))) tNext) (t_leads_2 K))
def t_leads (K : PySem.W.Frag) : TS := (tSeq (tIfS (tTest (tOp (rEqG K) (tOp (rIx K) (tOp (rIx K) (tVar 0) (tVar 1)) (tC (.int 0))) (tC (.str "jump")))) (tRet (tLst (tCons (tOp (rIx K) (tOp (rIx K) (tVar 0) (tVar 1)) (tC (.int 1))) tNil))) tNext) (t_leads_3 K))
abbrev PS_mended : List Str := ["_law_rows", "_law_names_here", "_law_bare"]
abbrev N_mended : List Str := ["_law_rows", "_law_names_here", "_law_bare", "_law_last", "_law_n", "_law_to", "_law_turn"]
def t_mended_1 (K : PySem.W.Frag) : TS := (tRet (tVar 0))
def t_mended_2 (K : PySem.W.Frag) : TS := (tIfS (tTest (tOp (rEqG K) (tOp (rIx K) (tOp (rIx K) (tVar 0) (tVar 5)) (tC (.int 0))) (tC (.str "jump")))) (tAsg (tOp (rIx K) (tLst (tCons (tTup (tCons (tC (.str "say")) (tCons (tC (.str "")) tNil))) (tCons (tTup (tCons (tC (.str "give")) (tCons (tC (.str "")) tNil))) tNil))) (tCB (rInt1) (tCons (tOp (rEqG K) (tVar 4) (tVar 3)) tNil))) (gSub (tVar 0) (tVar 4) rSetL)) tNext)
def t_mended_3 (K : PySem.W.Frag) : TS := (tIfS (tTest (tOp (rEqG K) (tOp (rIx K) (tOp (rIx K) (tVar 0) (tVar 5)) (tC (.int 0))) (tC (.str "jump")))) (tAsg (tOp (rIx K) (tOp (rIx K) (tVar 0) (tVar 5)) (tC (.int 1))) (gName 5)) tNext)
def t_mended_4 (K : PySem.W.Frag) : TS := (tSeq (tFor (iSeq K (tVar 0)) (gName 6) (t_mended_3 K)) (t_mended_2 K))
def t_mended_5 (K : PySem.W.Frag) : TS := (tSeq (tAsg (tVar 4) (gName 5)) (t_mended_4 K))
def t_mended_6 (K : PySem.W.Frag) : TS := (tSeq (tFor (iRng1 (tCons (tCB (rLen K) (tCons (tVar 0) tNil)) tNil)) (gName 4) (t_mended_5 K)) (t_mended_1 K))
def t_mended_7 (K : PySem.W.Frag) : TS := (tSeq (tIfS (tAnd (tB (tVar 2)) (tAnd (tTest (tOp (rNeG K) (tOp (rIx K) (tOp (rIx K) (tVar 0) (tC (.int 0))) (tC (.int 0))) (tC (.str "num")))) (tTest (tOp (rGt2) (tVar 3) (tC (.int 0)))))) (tAsg (tTup (tCons (tC (.str "num")) (tCons (tOp (rIx K) (tVar 1) (tC (.int 0))) (tCons (tC (.int 3)) tNil)))) (gSub (tVar 0) (tC (.int 0)) rSetL)) tNext) (t_mended_6 K))
def t_mended_8 (K : PySem.W.Frag) : TS := (tSeq (tIfS (tTest (tOp ((rIn K true)) (tOp (rIx K) (tOp (rIx K) (tVar 0) (tVar 3)) (tC (.int 0))) (tTup (tCons (tC (.str "jump")) (tCons (tC (.str "give")) tNil))))) (tAsg (tTup (tCons (tC (.str "give")) (tCons (tC (.str "")) tNil))) (gSub (tVar 0) (tVar 3) rSetL)) tNext) (t_mended_7 K))
def t_mended (K : PySem.W.Frag) : TS := (tSeq (tAsg (tOp (rSub2) (tCB (rLen K) (tCons (tVar 0) tNil)) (tC (.int 1))) (gName 3)) (t_mended_8 K))
abbrev PS_set_names : List Str := ["_law_rows", "_law_names_here", "_law_params"]
abbrev N_set_names : List Str := ["_law_rows", "_law_names_here", "_law_params", "_law_known", "_law_more", "_law_n", "_law_left", "_law_m", "_law_kept"]
def t_set_names_1 (K : PySem.W.Frag) : TS := (tRet (tVar 3))
def t_set_names_2 (K : PySem.W.Frag) : TS := (tAsg (tC (.bl true)) (gName 4))
def t_set_names_3 (K : PySem.W.Frag) : TS := (tIfS (tTest (tOp (rLt2) (tCB (rLen K) (tCons (tVar 8) tNil)) (tCB (rLen K) (tCons (tOp (rIx K) (tVar 3) (tVar 7)) tNil)))) (tSeq (tAsg (tVar 8) (gSub (tVar 3) (tVar 7) rSetL)) (t_set_names_2 K)) tNext)
def t_set_names_4 (K : PySem.W.Frag) : TS := (tSeq (tAsg (tComp [] 1 (iSeq K (tOp (rIx K) (tVar 3) (tVar 7))) (gName 9) (tTest (tOp ((rIn K false)) (tVar 9) (tVar 6))) (tVar 9)) (gName 8)) (t_set_names_3 K))
def t_set_names_5 (K : PySem.W.Frag) : TS := (tFor (iSeq K (tCall (sp_leads K) [] E0 (tCons (tVar 0) (tCons (tVar 5) tNil)))) (gName 7) (t_set_names_4 K))
def t_set_names_6 (K : PySem.W.Frag) : TS := (tSeq (tIfS (tTest (tOp ((rIn K false)) (tOp (rIx K) (tOp (rIx K) (tVar 0) (tVar 5)) (tC (.int 0))) (tTup (tCons (tC (.str "num")) (tCons (tC (.str "op")) (tCons (tC (.str "call")) tNil)))))) (tAsg (tOp (rPlus K) (tVar 6) (tLst (tCons (tOp (rIx K) (tOp (rIx K) (tVar 0) (tVar 5)) (tC (.int 1))) tNil))) (gName 6)) tNext) (t_set_names_5 K))
def t_set_names_7 (K : PySem.W.Frag) : TS := (tSeq (tAsg (tOp (rIx K) (tVar 3) (tVar 5)) (gName 6)) (t_set_names_6 K))
def t_set_names_8 (K : PySem.W.Frag) : TS := (tFor (iRng1 (tCons (tCB (rLen K) (tCons (tVar 0) tNil)) tNil)) (gName 5) (t_set_names_7 K))
def t_set_names_9 (K : PySem.W.Frag) : TS := (tSeq (tAsg (tC (.bl false)) (gName 4)) (t_set_names_8 K))
def t_set_names_10 (K : PySem.W.Frag) : TS := (tSeq (tWhile (tB (tVar 4)) (t_set_names_9 K)) (t_set_names_1 K))
def t_set_names_11 (K : PySem.W.Frag) : TS := (tSeq (tAsg (tC (.bl true)) (gName 4)) (t_set_names_10 K))
def t_set_names_12 (K : PySem.W.Frag) : TS := (tSeq (tAsg (tCB (rListOf K) (tCons (tVar 2) tNil)) (gSub (tVar 3) (tC (.int 0)) rSetL)) (t_set_names_11 K))
def t_set_names (K : PySem.W.Frag) : TS := (tSeq (tAsg (tComp [] 1 (iSeq K (tVar 0)) (gName 9) tYes (tCB (rListOf K) (tCons (tVar 1) tNil))) (gName 3)) (t_set_names_12 K))
abbrev PS_filled : List Str := ["_law_state", "_law_rows", "_law_known"]
abbrev N_filled : List Str := ["_law_state", "_law_rows", "_law_known", "_law_found", "_law_n", "_law_row", "_law_some", "_law_thing"]
def t_filled_1 (K : PySem.W.Frag) : TS := (tRet (tCB (rTupleOf K) (tCons (tVar 3) tNil)))
def t_filled_2 (K : PySem.W.Frag) : TS := (tDrop (tBM K "list" rAppend (tVar 3) (tCons (tOp (rPlus K) (tTup (tCons (tOp (rIx K) (tVar 5) (tC (.int 0))) tNil)) (tCB (rTupleOf K) (tCons (tVar 6) tNil))) tNil)))
def t_filled_3 (K : PySem.W.Frag) : TS := (tDrop (tBM K "list" rAppend (tVar 6) (tCons (tVar 7) tNil)))
def t_filled_4 (K : PySem.W.Frag) : TS := (tSeq (tIfS (tTest (tOp (rEqG K) (tVar 7) (tC (.str "")))) (tAsg (tOp (rIx K) (tOp (rIx K) (tVar 2) (tVar 4)) (tCall (sp_draw K) [] E0 (tCons (tVar 0) (tCons (tCB (rLen K) (tCons (tOp (rIx K) (tVar 2) (tVar 4)) tNil)) tNil)))) (gName 7)) (tIfS (tB (tCB (rIsi K) (tCons (tVar 7) (tCons (tC (.ty "tuple")) tNil)))) (tAsg (tCB (rTupleOf K) (tCons (tComp [] 1 (iSeq K (tVar 7)) (gName 8) tYes (tOp (rIx K) (tOp (rIx K) (tVar 2) (tVar 4)) (tCall (sp_draw K) [] E0 (tCons (tVar 0) (tCons (tCB (rLen K) (tCons (tOp (rIx K) (tVar 2) (tVar 4)) tNil)) tNil))))) tNil)) (gName 7)) tNext)) (t_filled_3 K))
def t_filled_5 (K : PySem.W.Frag) : TS := (tSeq (tFor (iSeq K (tSl (rSl K) (tVar 5) (tPart (tC (.int 1))) tNoPart)) (gName 7) (t_filled_4 K)) (t_filled_2 K))
def t_filled_6 (K : PySem.W.Frag) : TS := (tSeq (tAsg (tLst tNil) (gName 6)) (t_filled_5 K))
def t_filled_7 (K : PySem.W.Frag) : TS := (tSeq (tFor (iEnum K (tCons (tVar 1) tNil)) (gTup K 2 (gCons (gName 4) (gCons (gName 5) gNil))) (t_filled_6 K)) (t_filled_1 K))
def t_filled (K : PySem.W.Frag) : TS := (tSeq (tAsg (tLst tNil) (gName 3)) (t_filled_7 K))
abbrev PS_part : List Str := ["_law_state", "_law_word", "_law_names_here", "_law_params", "_law_counts", "_law_most"]
abbrev N_part : List Str := ["_law_state", "_law_word", "_law_names_here", "_law_params", "_law_counts", "_law_most", "_law_many", "_law_rows", "_law_known"]
def t_part_1 (K : PySem.W.Frag) : TS := (tRet (tTup (tCons (tVar 1) (tCons (tCB (rTupleOf K) (tCons (tVar 3) tNil)) (tCons (tCall (sp_filled K) [] E0 (tCons (tVar 0) (tCons (tVar 7) (tCons (tVar 8) tNil)))) tNil)))))
def t_part_2 (K : PySem.W.Frag) : TS := (tSeq (tAsg (tCall (sp_set_names K) [] E0 (tCons (tVar 7) (tCons (tVar 2) (tCons (tVar 3) tNil)))) (gName 8)) (t_part_1 K))
def t_part_3 (K : PySem.W.Frag) : TS := (tSeq (tAsg (tCall (sp_mended K) [] E0 (tCons (tVar 7) (tCons (tVar 2) (tCons (tOp (rEqG K) (tCB (rLen K) (tCons (tVar 3) tNil)) (tC (.int 0))) tNil)))) (gName 7)) (t_part_2 K))
def t_part_4 (K : PySem.W.Frag) : TS := (tSeq (tAsg (tComp [] 1 (iRng1 (tCons (tVar 6) tNil)) (gName 9) tYes (tCall (sp_rough_row K) [] E0 (tCons (tVar 0) (tCons (tVar 2) (tCons (tVar 6) (tCons (tVar 4) tNil)))))) (gName 7)) (t_part_3 K))
def t_part (K : PySem.W.Frag) : TS := (tSeq (tAsg (tCB (rMax2) (tCons (tOp (rPlus K) (tC (.int 1)) (tCB (rInt1) (tCons (tOp (rEqG K) (tCB (rLen K) (tCons (tVar 3) tNil)) (tC (.int 0))) tNil))) (tCons (tOp (rPlus K) (tC (.int 1)) (tCall (sp_draw K) [] E0 (tCons (tVar 0) (tCons (tVar 5) tNil)))) tNil))) (gName 6)) (t_part_4 K))
abbrev PS_program : List Str := ["_law_state", "_law_most"]
abbrev N_program : List Str := ["_law_state", "_law_most", "_law_five", "_law_words", "_law_names_here", "_law_counts", "_law_found", "_law_word", "_law_many", "_law_turn", "_law_params"]
def t_program_1 (K : PySem.W.Frag) : TS := (tRet (tCB (rTupleOf K) (tCons (tVar 6) tNil)))
def t_program_2 (K : PySem.W.Frag) : TS := (tDrop (tBM K "list" rAppend (tVar 6) (tCons (tCall (sp_part K) [] E0 (tCons (tVar 0) (tCons (tVar 7) (tCons (tVar 4) (tCons (tVar 10) (tCons (tVar 5) (tCons (tVar 1) tNil))))))) tNil)))
def t_program_3 (K : PySem.W.Frag) : TS := (tSeq (tAsg (tSl (rSl K) (tOp (rPlus K) (tSl (rSl K) (tVar 4) (tPart (tVar 9)) tNoPart) (tSl (rSl K) (tVar 4) tNoPart (tPart (tVar 9)))) tNoPart (tPart (tVar 8))) (gName 10)) (t_program_2 K))
def t_program_4 (K : PySem.W.Frag) : TS := (tSeq (tAsg (tCall (sp_draw K) [] E0 (tCons (tVar 0) (tCons (tCB (rLen K) (tCons (tVar 4) tNil)) tNil))) (gName 9)) (t_program_3 K))
def t_program_5 (K : PySem.W.Frag) : TS := (tSeq (tFor (iZip K (tCons (tVar 3) (tCons (tVar 5) tNil))) (gTup K 2 (gCons (gName 7) (gCons (gName 8) gNil))) (t_program_4 K)) (t_program_1 K))
def t_program_6 (K : PySem.W.Frag) : TS := (tSeq (tAsg (tLst tNil) (gName 6)) (t_program_5 K))
def t_program_7 (K : PySem.W.Frag) : TS := (tSeq (tAsg (tComp [7] 0 (iSeq K (tVar 3)) (gName 7) tYes (tCall (sp_draw K) [] E0 (tCons (tVar 0) (tCons (tOp (rPlus K) (tCB (rMin2) (tCons (tC (.int 4)) (tCons (tCB (rLen K) (tCons (tVar 4) tNil)) tNil))) (tC (.int 1))) tNil)))) (gName 5)) (t_program_6 K))
def t_program_8 (K : PySem.W.Frag) : TS := (tSeq (tAsg (tCall (sp_names K) [] E0 (tCons (tVar 0) (tCons (tOp (rPlus K) (tC (.int 2)) (tCall (sp_draw K) [] E0 (tCons (tVar 0) (tCons (tC (.int 5)) tNil)))) tNil))) (gName 4)) (t_program_7 K))
def t_program_9 (K : PySem.W.Frag) : TS := (tSeq (tAsg (tSl (rSl K) (tCall (sp_names K) [] E0 (tCons (tVar 0) (tCons (tC (.int 5)) tNil))) tNoPart (tPart (tOp (rIx K) (tLst (tCons (tOp (rPlus K) (tC (.int 1)) (tCall (sp_draw K) [] E0 (tCons (tVar 0) (tCons (tC (.int 3)) tNil)))) (tCons (tC (.int 5)) tNil))) (tVar 2)))) (gName 3)) (t_program_8 K))
def t_program (K : PySem.W.Frag) : TS := (tSeq (tAsg (tCB (rInt1) (tCons (tOp (rEqG K) (tOp (rMod2) (tOp (rFdiv2) (tCB (rSum K) (tCons (tSl (rSl K) (tOp (rIx K) (tVar 0) (tC (.int 0))) tNoPart (tPart (tC (.int 1)))) tNil)) (tC (.int 4))) (tC (.int 16))) (tC (.int 5))) tNil)) (gName 2)) (t_program_9 K))
end Bg
end
section
set_option Elab.async false
set_option linter.all false
set_option maxRecDepth 100000
set_option maxHeartbeats 4000000
namespace Bg
open PySem L2
abbrev abc : Str := "abcdefghijklmnopqrstuvwxyz"
theorem abc_len : abc.length ≤ sizeLine := by decide +kernel
def one (c : Nat) : Str := ⟨#[c]⟩
theorem codes_join0 : ∀ cs : List Nat, (Txt.join "" (cs.map one)).cps.toList = cs
  | [] => by decide +kernel
  | c :: r => by
    unfold Txt.join
    rw [StrLaws.glued_eq_join]
    induction r generalizing c with
    | nil => rfl
    | cons d r ih =>
      show (one c ++ ("" : Str) ++ Str.join "" ((d :: r).map one)).cps.toList = _
      have e : (one c ++ ("" : Str) ++ Str.join "" ((d :: r).map one)).cps.toList = (one c).cps.toList ++ ("" : Str).cps.toList ++ (Str.join "" ((d :: r).map one)).cps.toList := by
        show ((one c).cps ++ ("" : Str).cps ++ (Str.join "" ((d :: r).map one)).cps).toList = _
        rw [Array.toList_append, Array.toList_append]
      rw [e, ih d]
      rfl
theorem len_codes (y : Str) : y.length = y.cps.toList.length := by
  show y.cps.size = _
  rw [Array.length_toList]
theorem abc_code : ∀ j : Nat, j < 26 → abc.cps.toList[j]? = some (97 + j) := by decide +kernel
theorem resv_len : ∀ y ∈ resv, y.length ≤ 4 := by decide +kernel
theorem resv_last : ∀ y ∈ resv, y.cps.toList.getLast? ≠ some 120 := by decide +kernel
theorem codes_x (y : Str) : (y ++ "x").cps.toList = y.cps.toList ++ [120] := by
  show (y.cps ++ ("x" : Str).cps).toList = _
  rw [Array.toList_append]
  rfl
theorem nm_plain {y : Str} {cs : List Nat} (h : y.cps.toList = cs) (l1 : 1 ≤ cs.length) (l8 : cs.length ≤ 8) (a : ∀ c ∈ cs, 97 ≤ c ∧ c ≤ 122) (n : y ∉ resv) : Nm y :=
  ⟨by rw [len_codes, h]; exact l1, by rw [len_codes, h]; exact l8, by rw [h]; exact a, n⟩
theorem nm_x {y : Str} {cs : List Nat} (h : y.cps.toList = cs) (l8 : cs.length ≤ 7) (a : ∀ c ∈ cs, 97 ≤ c ∧ c ≤ 122) : Nm (y ++ "x") := by
  have e := codes_x y
  rw [h] at e
  refine ⟨by rw [len_codes, e, List.length_append]; simp, by rw [len_codes, e, List.length_append]; simp; lia, fun c hc => ?_, fun hm => ?_⟩
  · rw [e] at hc
    rcases List.mem_append.mp hc with z | z
    · exact a c z
    · rw [List.mem_singleton.mp z]; decide
  · have := resv_last _ hm
    rw [e, List.getLast?_append] at this
    exact this rfl
def NmP (st b l : Addr) (n sz at' : Nat) (f : Int) (H4 : Hp) (i : Nat) : St → Hp → Prop := fun σ' H' => ∃ (ys : List Str) (o1 o2 o3 : Option V), σ' = [some (.ref st), some (.int (n : Nat)), some (.str abc), some (.int (sz : Nat)), some (.int (at' : Nat)), some (.int f), some (.ref b), some (.ref l), o1, o2, o3] ∧ H' l = some (.lst (ys.map V.str)) ∧ ys.length = i ∧ (∀ y ∈ ys, Nm y) ∧ (∀ (j : Nat) y, ys[j]? = some y → y.cps.toList[at']? = some (97 + ((f + 5 * (j : Int)) % 26).toNat)) ∧ But l (upd H4 l (.lst [])) H'
theorem r_names {K : PySem.W.Frag} {vs : List V} {H : Hp} {Q : VK} {E : XK} (h : sp_names K vs H Q E) : t_names K { nx := fun _ H' => Q .non H', rt := Q } (start N_names vs) H := by
  obtain ⟨st, n, k, rfl, S, hk, hn, q⟩ := h
  refine ⟨_, rfl, st, 8, k, rfl, S, by lia, by decide, by decide, fun d H1 d0 d1 S1 B1 => .inl ⟨_, _, rfl, rfl, ?_⟩⟩
  obtain ⟨sz, hsz, z1, z8⟩ : ∃ sz : Nat, (1 : Int) + d = (sz : Int) ∧ 1 ≤ sz ∧ sz ≤ 8 := ⟨(1 + d).toNat, by lia, by lia, by lia⟩
  show t_names_10 K _ [some (.ref st), some (.int (n : Nat)), some (.str abc), some (.int ((1 : Int) + d)), none, none, none, none, none, none, none] H1
  rw [hsz]
  refine ⟨_, rfl, _, rfl, st, _, k + 1, rfl, S1, by lia, by lia, by lia, fun a H2 a0 a1 S2 B2' => ?_⟩
  obtain ⟨at', rfl⟩ : ∃ j : Nat, a = (j : Int) := ⟨a.toNat, by lia⟩
  have B2 := B1.trans B2'
  refine ⟨_, rfl, st, 26, k + 2, rfl, S2, by lia, by decide, by decide, fun f H3 f0 f1 S3 B3' => ?_⟩
  have B3 := B2.trans B3'
  refine ⟨_, rfl, _, rfl, by lia, by lia, fun b hb => ?_⟩
  obtain ⟨ys3, hs3⟩ := S3.lst
  have nb : b ≠ st := fun z => by rw [z, hs3] at hb; cases hb
  refine comp_range (fun i σ' H' => ∃ (bc : List Nat) (kk : Nat) (o : Option V), σ' = [some (.ref st), some (.int (n : Nat)), some (.str abc), some (.int (sz : Nat)), some (.int (at' : Nat)), some (.int f), none, none, none, none, none, o] ∧
    H' b = some (.lst ((bc.map one).map V.str)) ∧ bc.length = i ∧ (∀ c ∈ bc, 97 ≤ c ∧ c ≤ 122) ∧ Stt K H' st kk ∧ kk ≤ k + 3 + i ∧ But st H H') ?_ ?_ ?_
  · exact ⟨[], k + 3, none, rfl, upd_same, rfl, by simp, S3.new hb, by lia, B3.new hb⟩
  · rintro i σ' H' hi ⟨bs, kk, o, rfl, hbl, hlen, hone, S4, hkk, B4⟩
    have hi : i < sz := by simpa using hi
    refine app_yes ?_
    refine ⟨_, rfl, _, rfl, _, rfl, .inl ⟨_, _, rfl, rfl, .inl ⟨by decide, by decide⟩, _, rfl, st, 4, kk, rfl, S4, by lia, by decide, by decide, fun e H5 e0 e1 S5 B5 => .inl ⟨_, _, rfl, rfl, .inr ⟨by lia, by lia⟩, .inl ⟨_, _, rfl, rfl, _, _, rfl, rfl, (by show (0 : Int) < 26; decide), ?_⟩⟩⟩⟩
    have x0 : 0 ≤ (f + 7 * (0 + (i : Int)) * e) % 26 := Int.emod_nonneg _ (by decide)
    have x1 : (f + 7 * (0 + (i : Int)) * e) % 26 < 26 := Int.emod_lt_of_pos _ (by decide)
    refine ixS abc_len x0 (abc_code _ (by lia)) ?_
    have x2 : ((f + 7 * (0 + (i : Int)) * e) % 26).toNat < 26 := by lia
    generalize ((f + 7 * (0 + (i : Int)) * e) % 26).toNat = x at x2
    have h5 := B5 b _ nb hbl
    refine ⟨_, h5, smallL (by rw [List.length_map, List.length_map]; lia), bs ++ [97 + x], kk + 1, _, rfl, ?_, by simp [hlen], ?_, ?_, by lia, ?_⟩
    · rw [upd_same, List.map_append, List.map_append]; rfl
    · intro y hy
      rcases List.mem_append.mp hy with z | z
      · exact hone y z
      · rw [List.mem_singleton.mp z]; lia
    · exact S5.mono .upd_at h5 (Ne.symm nb)
    · exact fun c' u n' h' => by
        have w := (B4.trans B5) c' u n' h'
        have ncb : c' ≠ b := fun z => by
          have : H c' = none := (B3.free (fun z' => n' z') (by rw [z]; exact hb))
          rw [this] at h'; cases h'
        rw [upd_ne ncb]; exact w
  · rintro σ' H4 ⟨bs, kk, o, rfl, hbl, hlen, hone, S4, hkk, B4⟩
    have hlen : bs.length = sz := by simpa using hlen
    have hkk : kk ≤ k + 3 + sz := by simpa using hkk
    refine ⟨(by show 0 ≤ sizeLine; decide), fun l hl => ?_⟩
    have nlb : b ≠ l := ne_of_none hbl hl
    obtain ⟨ys4, hs4⟩ := S4.lst
    have nls : st ≠ l := ne_of_none hs4 hl
    have Hl : H l = none := B4.free (Ne.symm nls) hl
    show t_names_6 K _ [some (.ref st), some (.int (n : Nat)), some (.str abc), some (.int (sz : Nat)), some (.int (at' : Nat)), some (.int f), some (.ref b), some (.ref l), none, none, none] (upd H4 l (.lst []))
    refine ⟨_, rfl, _, rfl, by lia, by lia, for_range (NmP st b l n sz at' f H4) ⟨[], none, none, none, rfl, upd_same, rfl, by simp, by simp, .refl _ _⟩ ?_ ?_⟩
    · rintro i σ' H5 hi ⟨ys, o1, o2, o3, rfl, hyl, ylen, yok, ycd, B5⟩
      have hi : i < n := by simpa using hi
      have hb5 : H5 b = some (.lst ((bs.map one).map V.str)) := B5 b _ nlb (by rw [upd_ne nlb]; exact hbl)
      refine ⟨_, rfl, _, rfl, _, rfl, .inl ⟨b, _, rfl, SqL.of hb5, fun p1 hp1 => ?_⟩⟩
      rw [cut_take, ← List.map_take, ← List.map_take]
      have np1b : b ≠ p1 := ne_of_none hb5 hp1
      have np1l : l ≠ p1 := ne_of_none hyl hp1
      refine ⟨_, rfl, _, rfl, _, rfl, .inl ⟨_, _, rfl, rfl, .inl ⟨by decide, by decide⟩, .inl ⟨_, _, rfl, rfl, _, _, rfl, rfl, (by show (0 : Int) < 26; decide), ?_⟩⟩⟩
      have e00 : (0 : Int) + (i : Int) = (i : Int) := by lia
      rw [e00]
      have x0 : 0 ≤ (f + 5 * (i : Int)) % 26 := Int.emod_nonneg _ (by decide)
      have x1 : (f + 5 * (i : Int)) % 26 < 26 := Int.emod_lt_of_pos _ (by decide)
      obtain ⟨c, hc⟩ : ∃ c, c = 97 + ((f + 5 * (i : Int)) % 26).toNat := ⟨_, rfl⟩
      refine ixS abc_len x0 (by rw [abc_code _ (by lia), ← hc]) ⟨(by show 1 ≤ sizeLine; decide), fun p2 hp2 => ?_⟩
      have np12 : p1 ≠ p2 := ne_of_none upd_same hp2
      have np2b : b ≠ p2 := ne_of_none (by rw [upd_ne np1b]; exact hb5) hp2
      have np2l : l ≠ p2 := ne_of_none (by rw [upd_ne np1l]; exact hyl) hp2
      refine .inr (.inr (.inl ⟨p1, p2, _, _, rfl, rfl, by rw [upd_ne np12, upd_same], upd_same, ?_, fun p3 hp3 => ?_⟩))
      · have := smallL (n := 9) (by decide)
        rw [List.length_map, List.length_map, List.length_take]
        show min at' bs.length + 1 ≤ sizeLine
        lia
      have np13 : p1 ≠ p3 := ne_of_none (by rw [upd_ne np12]; exact upd_same) hp3
      have np3b : b ≠ p3 := ne_of_none (by rw [upd_ne np2b, upd_ne np1b]; exact hb5) hp3
      have np3l : l ≠ p3 := ne_of_none (by rw [upd_ne np2l, upd_ne np1l]; exact hyl) hp3
      refine ⟨_, rfl, _, rfl, .inl ⟨_, _, rfl, rfl, _, rfl, .inl ⟨b, _, rfl, SqL.of (by rw [upd_ne np3b, upd_ne np2b, upd_ne np1b]; exact hb5), fun p4 hp4 => ?_⟩⟩⟩
      rw [show ((at' : Int) + 1) = ((at' + 1 : Nat) : Int) by lia, cut_drop, ← List.map_drop, ← List.map_drop]
      have np34 : p3 ≠ p4 := ne_of_none upd_same hp4
      have np4l : l ≠ p4 := ne_of_none (by rw [upd_ne np3l, upd_ne np2l, upd_ne np1l]; exact hyl) hp4
      refine .inr (.inr (.inl ⟨p3, p4, _, _, rfl, rfl, by rw [upd_ne np34, upd_same], upd_same, ?_, fun p5 hp5 => ?_⟩))
      · have := smallL (n := 100) (by decide)
        rw [List.length_append, List.length_map, List.length_map, List.length_map, List.length_map, List.length_take, List.length_drop]
        show min at' bs.length + 1 + (bs.length - (at' + 1)) ≤ sizeLine
        lia
      have np5l : l ≠ p5 := ne_of_none (by rw [upd_ne np4l, upd_ne np3l, upd_ne np2l, upd_ne np1l]; exact hyl) hp5
      have ew : ((bs.take at').map one).map V.str ++ [V.str ⟨#[c]⟩] ++ ((bs.drop (at' + 1)).map one).map V.str = ((bs.take at' ++ [c] ++ bs.drop (at' + 1)).map one).map V.str := by rw [List.map_append, List.map_append, List.map_append, List.map_append]; rfl
      rw [ew]
      have wl : (bs.take at' ++ [c] ++ bs.drop (at' + 1)).length = sz := by rw [List.length_append, List.length_append, List.length_take, List.length_drop, List.length_singleton]; lia
      have wone : ∀ y ∈ bs.take at' ++ [c] ++ bs.drop (at' + 1), 97 ≤ y ∧ y ≤ 122 := fun y hy => by
        rcases List.mem_append.mp hy with z | z
        · rcases List.mem_append.mp z with z | z
          · exact hone y (List.mem_of_mem_take z)
          · rw [List.mem_singleton.mp z]; lia
        · exact hone y (List.mem_of_mem_drop z)
      have wat : (bs.take at' ++ [c] ++ bs.drop (at' + 1))[at']? = some c := by
        have tl : (bs.take at').length = at' := by rw [List.length_take]; lia
        rw [List.append_assoc, List.getElem?_append_right (by lia), tl, Nat.sub_self]
        rfl
      generalize bs.take at' ++ [c] ++ bs.drop (at' + 1) = w at wl wone wat ⊢
      have B6 := ((((B5.new (o := .lst (((bs.take at').map one).map V.str)) hp1).new (o := .lst [V.str ⟨#[c]⟩]) hp2).new (o := .lst (((bs.take at').map one).map V.str ++ [V.str ⟨#[c]⟩])) hp3).new (o := .lst (((bs.drop (at' + 1)).map one).map V.str)) hp4).new (o := .lst ((w.map one).map V.str)) hp5
      have h6 : (upd (upd (upd (upd (upd H5 p1 (.lst (((bs.take at').map one).map V.str))) p2 (.lst [V.str ⟨#[c]⟩])) p3 (.lst (((bs.take at').map one).map V.str ++ [V.str ⟨#[c]⟩]))) p4 (.lst (((bs.drop (at' + 1)).map one).map V.str))) p5 (.lst ((w.map one).map V.str))) l = some (.lst (ys.map V.str)) := by
        rw [upd_ne np5l, upd_ne np4l, upd_ne np3l, upd_ne np2l, upd_ne np1l]; exact hyl
      have g6 : (upd (upd (upd (upd (upd H5 p1 (.lst (((bs.take at').map one).map V.str))) p2 (.lst [V.str ⟨#[c]⟩])) p3 (.lst (((bs.take at').map one).map V.str ++ [V.str ⟨#[c]⟩]))) p4 (.lst (((bs.drop (at' + 1)).map one).map V.str))) p5 (.lst ((w.map one).map V.str))) p5 = some (.lst ((w.map one).map V.str)) := upd_same
      generalize (upd (upd (upd (upd (upd H5 p1 (.lst (((bs.take at').map one).map V.str))) p2 (.lst [V.str ⟨#[c]⟩])) p3 (.lst (((bs.take at').map one).map V.str ++ [V.str ⟨#[c]⟩]))) p4 (.lst (((bs.drop (at' + 1)).map one).map V.str))) p5 (.lst ((w.map one).map V.str))) = H6 at B6 h6 g6 ⊢
      have wsum : ((w.map one).map (·.length)).sum = w.length := by
        rw [List.map_map, show ((fun x : Str => x.length) ∘ one) = fun _ => 1 from rfl, List.map_const', List.sum_replicate_nat, Nat.mul_one]
      refine ⟨rfl, _, rfl, "", p5, w.map one, rfl, rfl, SqL.of g6, ?_, ?_⟩
      · have e : ("" : Str).length = 0 := by decide +kernel
        rw [wsum, e, Nat.mul_zero]; lia
      have jl := codes_join0 w
      generalize Txt.join "" (w.map one) = nmw at jl ⊢
      show t_names_3 K _ [some (.ref st), some (.int (n : Nat)), some (.str abc), some (.int (sz : Nat)), some (.int (at' : Nat)), some (.int f), some (.ref b), some (.ref l), some (.int (i : Int)), some (.ref p5), some (.str nmw)] H6
      have nl : nmw.length = sz := by rw [len_codes, jl, wl]
      have app : ∀ (nw : Str) (H7 : Hp), Nm nw → nw.cps.toList[at']? = some c → But l (upd H4 l (.lst [])) H7 → H7 l = some (.lst (ys.map V.str)) → t_names_2 K { nx := NmP st b l n sz at' f H4 (i + 1), rt := Q, ct := NmP st b l n sz at' f H4 (i + 1), bk := t_names_1 K { nx := fun _ H' => Q .non H', rt := Q } } [some (.ref st), some (.int (n : Nat)), some (.str abc), some (.int (sz : Nat)), some (.int (at' : Nat)), some (.int f), some (.ref b), some (.ref l), some (.int (i : Int)), some (.ref p5), some (.str nw)] H7 := fun nw H7 w1 w2 B7 h7 => by
        refine ⟨_, rfl, .inl ⟨rfl, _, SqL.of h7⟩, _, rfl, l, _, _, rfl, rfl, h7, smallL (by rw [List.length_map]; lia), ?_⟩
        refine ⟨ys ++ [nw], _, _, _, rfl, ?_, by simp [ylen], ?_, ?_, B7.trans .upd_at⟩
        · rw [upd_same, List.map_append]; rfl
        · intro y hy
          rcases List.mem_append.mp hy with z | z
          · exact yok y z
          · rw [List.mem_singleton.mp z]; exact w1
        · intro j y hy
          by_cases cj : j < ys.length
          · rw [List.getElem?_append_left cj] at hy; exact ycd j y hy
          · have cj2 : j = i := by
              have := (List.getElem?_eq_some_iff.mp hy).1
              rw [List.length_append, List.length_singleton] at this
              lia
            subst cj2
            rw [List.getElem?_append_right (by lia), ylen, Nat.sub_self] at hy
            cases hy
            rw [← hc]; exact w2
      refine ⟨_, rfl, (by show 6 ≤ sizeLine; decide), fun t ht => ⟨t, _, rfl, .inr (SqT.of upd_same), rfl, rfl, _, rfl, ?_⟩⟩
      have ntl : l ≠ t := ne_of_none h6 ht
      have B7 := B6.new (o := .tup [V.str "part", V.str "call", V.str "say", V.str "jump", V.str "test", V.str "give"]) ht
      have h7 : (upd H6 t (.tup [V.str "part", V.str "call", V.str "say", V.str "jump", V.str "test", V.str "give"])) l = some (.lst (ys.map V.str)) := by rw [upd_ne ntl]; exact h6
      have xl : ("x" : Str).length = 1 := by decide +kernel
      have xat : (nmw ++ "x").cps.toList[at']? = some c := by
        rw [codes_x, jl, List.getElem?_append_left (by rw [wl]; lia)]; exact wat
      show if inV (.str nmw) (resv.map V.str) = true then _ else _
      rw [inV_strs]
      refine if_dec (fun hin => ?_) (fun hin => ?_)
      · refine ⟨_, rfl, .inr (.inl ⟨_, _, rfl, rfl, by rw [xl]; have := smallL (n := 100) (by decide); lia, ?_⟩)⟩
        have z4 := resv_len _ hin
        exact app _ _ (nm_x jl (by rw [wl]; lia) wone) xat B7 h7
      · refine ⟨_, rfl, _, _, rfl, rfl, _, rfl, if_dec (fun h8 => ?_) (fun _ => ?_)⟩
        · refine ⟨_, rfl, _, rfl, .inl ⟨_, _, rfl, rfl, _, _, rfl, rfl, (by show (0 : Int) < 3; decide), .inl ⟨rfl, _, rfl, if_dec (fun _ => ?_) (fun _ => ?_)⟩⟩⟩
          · refine ⟨_, rfl, .inr (.inl ⟨_, _, rfl, rfl, by rw [xl]; have := smallL (n := 100) (by decide); lia, ?_⟩)⟩
            exact app _ _ (nm_x jl (by rw [wl]; lia) wone) xat B7 h7
          · exact app _ _ (nm_plain jl (by lia) (by lia) wone hin) (by rw [jl]; exact wat) B7 h7
        · exact iteF (app _ _ (nm_plain jl (by lia) (by lia) wone hin) (by rw [jl]; exact wat) B7 h7)
    · rintro σ' H5 ⟨ys, o1, o2, o3, rfl, hyl, ylen, yok, ycd, B5⟩
      have ylen : ys.length = n := by simpa using ylen
      have nd : ys.Nodup := by
        rw [List.Nodup, List.pairwise_iff_getElem]
        intro i j hi hj lt e
        have e1 := ycd i _ (List.getElem?_eq_getElem hi)
        have e2 := ycd j _ (List.getElem?_eq_getElem hj)
        rw [e, e2] at e1
        have e3 := Option.some.inj e1
        have a1 : 0 ≤ (f + 5 * (i : Int)) % 26 := Int.emod_nonneg _ (by decide)
        have a2 : 0 ≤ (f + 5 * (j : Int)) % 26 := Int.emod_nonneg _ (by decide)
        lia
      refine ⟨_, rfl, q l ys kk H5 Hl ylen nd yok hyl ((S4.new hl).mono B5 upd_same nls) (by lia) (B4.through hl B5)⟩
end Bg
end
section
set_option Elab.async false
set_option linter.all false
set_option maxRecDepth 100000
set_option maxHeartbeats 4000000
namespace Bg
open PySem L2
structure MJ (rl : Addr) (H : Hp) (R : BRow → Prop) (n : Nat) (H' : Hp) (rvs : List V) (rs : List BRow) : Prop where
  at_ : H' rl = some (.lst rvs)
  all : AllAt (RowAt H') rvs rs
  len : rs.length = n
  rough : ∀ r ∈ rs, R r
  but : But rl H H'
theorem MJ.vlen {rl : Addr} {H H' : Hp} {R : BRow → Prop} {n : Nat} {rvs : List V} {rs : List BRow} (m : MJ rl H R n H' rvs rs) : rvs.length = n := m.all.len.trans m.len
theorem MJ.grown {rl : Addr} {H H' H2 : Hp} {R : BRow → Prop} {n : Nat} {rvs : List V} {rs : List BRow} (m : MJ rl H R n H' rvs rs) (s : Same H' H2) : MJ rl H R n H2 rvs rs :=
  ⟨s _ _ m.at_, m.all.imp fun _ _ z => z.mono (.of_same s), m.len, m.rough, fun b o nb h => s _ _ (m.but b o nb h)⟩
theorem MJ.set {rl : Addr} {H H' : Hp} {R : BRow → Prop} {n : Nat} {rvs : List V} {rs : List BRow} {v : V} {r : BRow} (j : Nat) (m : MJ rl H R n H' rvs rs) (q : RowAt H' v r) (ro : R r) :
    MJ rl H R n (upd H' rl (.lst (rvs.set j v))) (rvs.set j v) (rs.set j r) := by
  have t : Tp H' (upd H' rl (.lst (rvs.set j v))) := (Tp.refl H').lst m.at_
  refine ⟨upd_same, (m.all.set q).imp fun _ _ z => z.mono t, by rw [List.length_set]; exact m.len, fun r' hr' => ?_, m.but.trans .upd_at⟩
  rcases List.mem_or_eq_of_mem_set hr' with z | z
  · exact m.rough r' z
  · rw [z]; exact ro
theorem MJ.get {rl : Addr} {H H' : Hp} {R : BRow → Prop} {n : Nat} {rvs : List V} {rs : List BRow} (m : MJ rl H R n H' rvs rs) {j : Nat} (hj : j < n) : ∃ p xs r, rvs[j]? = some (.ref p) ∧ rs[j]? = some r ∧ H' p = some (.tup (.str (word r) :: xs)) ∧ RowAt H' (.ref p) r ∧ R r := by
  obtain ⟨v, r, e1, e2, q⟩ := m.all.get (i := j) (by rw [m.len]; exact hj)
  obtain ⟨p, xs, rfl, hp⟩ := q.ref
  exact ⟨p, xs, r, e1, e2, hp, q, m.rough r (List.mem_of_getElem? e2)⟩
def EndAt (n : Nat) (rs : List BRow) : Prop := ∃ r, rs[n - 1]? = some r ∧ isEnd r = true
def NumAt (bare : Bool) (rs : List BRow) : Prop := bare = true → ∃ r, rs[0]? = some r ∧ isNum r = true
theorem word_jump {r : BRow} (h : word r = "jump") : ∃ to, r = .jump to := by
  cases r with
  | jump to => exact ⟨to, rfl⟩
  | num x z => exact absurd h (by show ¬ ("num" : Str) = "jump"; decide +kernel)
  | op x s a b => exact absurd h (by show ¬ ("op" : Str) = "jump"; decide +kernel)
  | call x k as => exact absurd h (by show ¬ ("call" : Str) = "jump"; decide +kernel)
  | say a => exact absurd h (by show ¬ ("say" : Str) = "jump"; decide +kernel)
  | test a to => exact absurd h (by show ¬ ("test" : Str) = "jump"; decide +kernel)
  | give a => exact absurd h (by show ¬ ("give" : Str) = "jump"; decide +kernel)
theorem is_num {r : BRow} (h : word r = "num") : isNum r = true := by
  cases r with
  | num x z => rfl
  | jump to => exact absurd h (by show ¬ ("jump" : Str) = "num"; decide +kernel)
  | op x s a b => exact absurd h (by show ¬ ("op" : Str) = "num"; decide +kernel)
  | call x k as => exact absurd h (by show ¬ ("call" : Str) = "num"; decide +kernel)
  | say a => exact absurd h (by show ¬ ("say" : Str) = "num"; decide +kernel)
  | test a to => exact absurd h (by show ¬ ("test" : Str) = "num"; decide +kernel)
  | give a => exact absurd h (by show ¬ ("give" : Str) = "num"; decide +kernel)
theorem in_end {r : BRow} (h : inV (.str (word r)) [V.str "jump", V.str "give"] = true) : isEnd r = true := by
  cases r with
  | jump to => rfl
  | give a => rfl
  | num x z => exact absurd h (by show ¬ inV (.str "num") [V.str "jump", V.str "give"] = true; decide +kernel)
  | op x s a b => exact absurd h (by show ¬ inV (.str "op") [V.str "jump", V.str "give"] = true; decide +kernel)
  | call x k as => exact absurd h (by show ¬ inV (.str "call") [V.str "jump", V.str "give"] = true; decide +kernel)
  | say a => exact absurd h (by show ¬ inV (.str "say") [V.str "jump", V.str "give"] = true; decide +kernel)
  | test a to => exact absurd h (by show ¬ inV (.str "test") [V.str "jump", V.str "give"] = true; decide +kernel)
theorem str_inj {a b : Str} (h : V.str a = V.str b) : a = b := by cases h; rfl
theorem stp_stop {rs : List BRow} {n : Nat} (h : ∀ r, rs[n]? = some r → isJump r = false) : stp rs n = n := by
  unfold stp
  cases e : rs[n]? with
  | none => rfl
  | some r => cases r with
    | jump t => exact absurd (h _ e) (by show ¬ true = false; decide)
    | _ => rfl
theorem runJ_stop {rs : List BRow} {n : Nat} (h : ∀ r, rs[n]? = some r → isJump r = false) : ∀ k, runJ rs k n = n
  | 0 => rfl
  | k + 1 => by
    show runJ rs k (stp rs n) = n
    rw [stp_stop h]; exact runJ_stop h k
theorem runJ_succ (rs : List BRow) : ∀ (k n : Nat), runJ rs (k + 1) n = stp rs (runJ rs k n)
  | 0, n => rfl
  | k + 1, n => by
    show runJ rs (k + 1) (stp rs n) = stp rs (runJ rs k (stp rs n))
    exact runJ_succ rs k (stp rs n)
theorem runJ_set {rs : List BRow} {j : Nat} {r' : BRow} (hr : isJump r' = false) (hj : j < rs.length) : ∀ (k m : Nat), (∀ r, rs[runJ rs k m]? = some r → isJump r = false) → ∀ r, (rs.set j r')[runJ (rs.set j r') k m]? = some r → isJump r = false := by
  have at_j : ∀ r, (rs.set j r')[j]? = some r → isJump r = false := fun r e => by
    rw [List.getElem?_set_self hj] at e; cases e; exact hr
  intro k
  induction k with
  | zero =>
    intro m h r e
    by_cases c : j = m
    · subst c; exact at_j r e
    · have e' : (rs.set j r')[m]? = some r := e
      rw [List.getElem?_set_ne c] at e'; exact h r e'
  | succ k ih =>
    intro m h r e
    by_cases c : j = m
    · subst c
      rw [runJ_stop at_j] at e; exact at_j r e
    · have es : stp (rs.set j r') m = stp rs m := by unfold stp; rw [List.getElem?_set_ne c]
      have e' : (rs.set j r')[runJ (rs.set j r') k (stp (rs.set j r') m)]? = some r := e
      rw [es] at e'
      exact ih (stp rs m) h r e'
theorem not_jump {r : BRow} (h : ¬ word r = "jump") : isJump r = false := by
  cases r <;> first | rfl | exact absurd rfl h
def MdP (rl nm : Addr) (bare : Bool) (H : Hp) (R : BRow → Prop) (n i : Nat) : St → Hp → Prop := fun σ' H' => ∃ (rvs : List V) (rs : List BRow) (o4 o5 o6 : Option V), σ' = [some (.ref rl), some (.ref nm), some (.bl bare), some (.int ((n - 1 : Nat) : Nat)), o4, o5, o6] ∧ MJ rl H R n H' rvs rs ∧ EndAt n rs ∧ NumAt bare rs ∧ ∀ m, m < i → ∀ r, rs[runJ rs n m]? = some r → isJump r = false
theorem r_mended {K : PySem.W.Frag} {vs : List V} {H : Hp} {Q : VK} {E : XK} (h : sp_mended K vs H Q E) : t_mended K { nx := fun _ H' => Q .non H', rt := Q } (start N_mended vs) H := by
  obtain ⟨rl, nm, bare, rvs, rs, ys, R, rfl, hrl, hA, hpos, hfew, hR, rSay, rGive, rJump, hnm, ysne, rNum, nnr, hbare, q⟩ := h
  obtain ⟨n, hn⟩ : ∃ n, n = rs.length := ⟨_, rfl⟩
  have n1 : 1 ≤ n := by rw [hn]; exact List.length_pos_iff.mpr hpos
  have n100 : n ≤ 100 := by rw [hn]; exact hfew
  have M0 : MJ rl H R n H rvs rs := ⟨hrl, hA, hn.symm, hR, .refl _ _⟩
  refine ⟨_, rfl, _, _, rfl, .inl ⟨_, SqL.of hrl, rfl⟩, _, _, rfl, rfl, ?_⟩
  show t_mended_8 K _ [some (.ref rl), some (.ref nm), some (.bl bare), some (.int (((rvs.length : Nat) : Int) - 1)), none, none, none] H
  rw [show ((rvs.length : Nat) : Int) - 1 = ((n - 1 : Nat) : Nat) by rw [M0.vlen]; lia]
  have loop : ∀ H', MdP rl nm bare H R n 0 [some (.ref rl), some (.ref nm), some (.bl bare), some (.int ((n - 1 : Nat) : Nat)), none, none, none] H' → t_mended_6 K { nx := fun _ H' => Q .non H', rt := Q } [some (.ref rl), some (.ref nm), some (.bl bare), some (.int ((n - 1 : Nat) : Nat)), none, none, none] H' := fun H' P0 => by
    obtain ⟨rvs0, rs0, _, _, _, _, MM, _, _, _⟩ := id P0
    refine ⟨_, rfl, _, _, rfl, .inl ⟨_, SqL.of MM.at_, rfl⟩, _, rfl, by lia, by rw [MM.vlen]; lia, for_range (fun i => MdP rl nm bare H R n i) P0 ?_ ?_⟩
    · rintro i σ' H1 hi ⟨rvs, rs, o4, o5, o6, rfl, M, hE, hN, hJ⟩
      have hi : i < n := by rw [MM.vlen] at hi; simpa using hi
      have e0 : (0 : Int) + (i : Int) = ((i : Nat) : Int) := by lia
      show t_mended_5 K _ [some (.ref rl), some (.ref nm), some (.bl bare), some (.int ((n - 1 : Nat) : Nat)), some (.int ((0 : Int) + (i : Int))), o5, o6] H1
      rw [e0]
      refine ⟨_, rfl, ?_⟩
      show t_mended_4 K _ [some (.ref rl), some (.ref nm), some (.bl bare), some (.int ((n - 1 : Nat) : Nat)), some (.int (i : Nat)), some (.int (i : Nat)), o6] H1
      refine .inl ⟨_, rfl, rl, rfl, ⟨_, SqL.of M.at_⟩, for_list (xs := rvs) (fun j σ H' => ∃ (to : Nat) (o : Option V), σ = [some (.ref rl), some (.ref nm), some (.bl bare), some (.int ((n - 1 : Nat) : Nat)), some (.int (i : Nat)), some (.int (to : Nat)), o] ∧ H' = H1 ∧ to < n ∧ (∀ r, rs[i]? = some r → isNum r = true → to = i) ∧ to = runJ rs j i)
        ⟨i, o6, rfl, rfl, hi, fun _ _ _ => rfl, rfl⟩ (fun _ _ _ _ ⟨_, _, _, e, _⟩ => by rw [e]; exact SqL.of M.at_) ?_ ?_⟩
      · rintro j x σ' H2 hx ⟨to, o, rfl, rfl, hto, hk, hrun⟩
        obtain ⟨p, xs, r, e1, e2, hp, hra, hro⟩ := M.get hto
        have e1' : rvs[((to : Nat) : Int).toNat]? = some (.ref p) := by simpa using e1
        refine ⟨_, rfl, _, rfl, ixL (SqL.of M.at_) (by lia) e1' (ixT hp (by decide) rfl (.inl ⟨rfl, _, rfl, if_dec (fun hw => ?_) (fun hw => ?_)⟩))⟩
        · obtain ⟨t', rfl⟩ := word_jump (str_inj hw)
          obtain ⟨p', e3, hp'⟩ := hra
          cases e3
          refine ⟨_, rfl, _, rfl, ixL (SqL.of M.at_) (by lia) e1' (ixT hp' (by decide) rfl ?_)⟩
          refine ⟨t', _, rfl, rfl, by rw [hn]; exact rJump _ hro, fun r hr hnum => ?_, ?_⟩
          · have := hk r hr hnum
            rw [this] at e2
            rw [e2] at hr; cases hr; cases hnum
          · rw [runJ_succ, ← hrun]; unfold stp; rw [e2]
        · refine ⟨to, _, rfl, rfl, hto, hk, ?_⟩
          rw [runJ_succ, ← hrun, stp_stop]
          intro r' hr'
          rw [e2] at hr'; cases hr'
          exact not_jump fun z => hw (by rw [z])
      · rintro σ' H2 ⟨to, o, rfl, rfl, hto, hk, hrun⟩
        rw [M.vlen] at hrun
        obtain ⟨p, xs, r, e1, e2, hp, hra, hro⟩ := M.get hto
        have e1' : rvs[((to : Nat) : Int).toNat]? = some (.ref p) := by simpa using e1
        refine ⟨_, rfl, _, rfl, ixL (SqL.of M.at_) (by lia) e1' (ixT hp (by decide) rfl (.inl ⟨rfl, _, rfl, if_dec (fun hw => ?_) (fun hw => ⟨rvs, rs, _, _, _, rfl, M, hE, hN, fun m hm => ?_⟩)⟩))⟩
        rotate_left
        · by_cases cm : m < i
          · exact hJ m cm
          · have : m = i := by lia
            subst this
            intro r' hr'
            rw [← hrun, e2] at hr'; cases hr'
            exact not_jump fun z => hw (by rw [z])
        obtain ⟨t', rfl⟩ := word_jump (str_inj hw)
        refine ⟨(by show 2 ≤ sizeLine; decide), fun p1 hp1 => ⟨(by show 2 ≤ sizeLine; decide), fun p2 hp2 => ⟨(by show 2 ≤ sizeLine; decide), fun l hl => ?_⟩⟩⟩
        have n12 : p1 ≠ p2 := ne_of_none upd_same hp2
        have n1l : p1 ≠ l := ne_of_none (by rw [upd_ne n12]; exact upd_same) hl
        have n2l : p2 ≠ l := ne_of_none upd_same hl
        have sm : Same H2 (upd (upd (upd H2 p1 (.tup [V.str "say", V.str ""])) p2 (.tup [V.str "give", V.str ""])) l (.lst [V.ref p1, V.ref p2])) := (((Same.refl H2).new hp1).new hp2).new hl
        have M2 := M.grown sm
        have hl2 : (upd (upd (upd H2 p1 (.tup [V.str "say", V.str ""])) p2 (.tup [V.str "give", V.str ""])) l (.lst [V.ref p1, V.ref p2])) l = some (.lst [V.ref p1, V.ref p2]) := upd_same
        have h1 : (upd (upd (upd H2 p1 (.tup [V.str "say", V.str ""])) p2 (.tup [V.str "give", V.str ""])) l (.lst [V.ref p1, V.ref p2])) p1 = some (.tup [V.str "say", V.str ""]) := by rw [upd_ne n1l, upd_ne n12, upd_same]
        have h2 : (upd (upd (upd H2 p1 (.tup [V.str "say", V.str ""])) p2 (.tup [V.str "give", V.str ""])) l (.lst [V.ref p1, V.ref p2])) p2 = some (.tup [V.str "give", V.str ""]) := by rw [upd_ne n2l, upd_same]
        generalize (upd (upd (upd H2 p1 (.tup [V.str "say", V.str ""])) p2 (.tup [V.str "give", V.str ""])) l (.lst [V.ref p1, V.ref p2])) = H3 at M2 hl2 h1 h2 ⊢
        have fin : ∀ (v : V) (r : BRow), RowAt H3 v r → R r → isJump r = false → (i = n - 1 → isEnd r = true) → gSub (tVar 0) (tVar 4) rSetL v [some (.ref rl), some (.ref nm), some (.bl bare), some (.int ((n - 1 : Nat) : Nat)), some (.int (i : Nat)), some (.int (to : Nat)), o] H3 (MdP rl nm bare H R n (i + 1)) := fun v r hv hr hj he => by
          refine ⟨_, rfl, _, rfl, setL M2.at_ (by lia) (by rw [M2.vlen]; simpa using hi) ?_⟩
          have ei : ((i : Nat) : Int).toNat = i := by simp
          rw [ei]
          refine ⟨_, rs.set i r, _, _, _, rfl, M2.set i hv hr, ?_, fun hb => ?_, fun m hm => ?_⟩
          · obtain ⟨r1, a1, a2⟩ := hE
            by_cases c : i = n - 1
            · exact ⟨r, by rw [← c, List.getElem?_set_self (by rw [M2.len]; exact hi)], he c⟩
            · exact ⟨r1, by rw [List.getElem?_set_ne c]; exact a1, a2⟩
          · obtain ⟨r0, a1, a2⟩ := hN hb
            have c : i ≠ 0 := fun c => by
              subst c
              have := hk r0 a1 a2
              subst this
              rw [e2] at a1; cases a1; cases a2
            exact ⟨r0, by rw [List.getElem?_set_ne c]; exact a1, a2⟩
          · have il : i < rs.length := by rw [M2.len]; exact hi
            by_cases cm : m < i
            · exact runJ_set hj il n m (hJ m cm)
            · have : m = i := by lia
              subst this
              have atm : ∀ r', (rs.set m r)[m]? = some r' → isJump r' = false := fun r' e => by rw [List.getElem?_set_self il] at e; cases e; exact hj
              intro r' hr'
              rw [runJ_stop atm] at hr'
              exact atm r' hr'
        refine ⟨_, rfl, _, rfl, .inl ⟨rfl, ?_⟩⟩
        refine .inr ⟨_, rfl, ?_⟩
        by_cases c : i = n - 1
        · have ec : decide (V.int (i : Nat) = V.int ((n - 1 : Nat) : Nat)) = true := by rw [c]; exact decide_eq_true rfl
          rw [ec]
          exact ixL (SqL.of hl2) (by decide) rfl (fin _ (.give "") ⟨p2, rfl, h2⟩ rGive rfl fun _ => rfl)
        · have ec : decide (V.int (i : Nat) = V.int ((n - 1 : Nat) : Nat)) = false := decide_eq_false (fun z => c (by injection z with z; lia))
          rw [ec]
          exact ixL (SqL.of hl2) (by decide) rfl (fin _ (.say "") ⟨p1, rfl, h1⟩ rSay rfl fun z => absurd z c)
    · rintro σ' H1 ⟨rvs, rs', o4, o5, o6, rfl, M, hE, hN, hJ⟩
      rw [MM.vlen, Int.toNat_natCast] at hJ
      refine ⟨_, rfl, q rvs rs' H1 M.at_ M.all (M.len.trans hn) M.rough ?_ ?_ (by intro m hm; rw [M.len] at hm ⊢; exact hJ m hm) M.but⟩
      · obtain ⟨r, a1, a2⟩ := hE
        rw [List.getLast?_eq_getElem?, M.len, a1, Option.map_some, a2]
      · intro hb
        obtain ⟨r, a1, a2⟩ := hN hb
        rw [List.head?_eq_getElem?, a1, Option.map_some, a2]
  have second : ∀ (H' : Hp) (rvs : List V) (rs : List BRow), MJ rl H R n H' rvs rs → EndAt n rs → t_mended_7 K { nx := fun _ H' => Q .non H', rt := Q } [some (.ref rl), some (.ref nm), some (.bl bare), some (.int ((n - 1 : Nat) : Nat)), none, none, none] H' := fun H' rvs rs M hE => by
    refine ⟨_, rfl, bare, rfl, if_bl (fun hb => ?_) (fun hb => ?_)⟩
    · have n2 : 2 ≤ n := by rw [hn]; exact hbare hb
      obtain ⟨p, xs, r, e1, e2, hp, hra, hro⟩ := M.get (j := 0) (by lia)
      refine ⟨_, rfl, ixL (SqL.of M.at_) (by decide) e1 (ixT hp (by decide) rfl (.inl ⟨rfl, _, rfl, if_not (fun hw => ?_) (fun hw => ?_)⟩))⟩
      · refine ⟨_, rfl, _, _, rfl, rfl, _, rfl, if_dec (fun _ => ?_) (fun hz => absurd (show (0 : Int) < ((n - 1 : Nat) : Nat) by lia) hz)⟩
        have hnm' := M.but nm _ nnr hnm
        obtain ⟨y, yr, rfl⟩ : ∃ y yr, ys = y :: yr := List.exists_cons_of_ne_nil ysne
        refine ⟨_, rfl, ixL (SqL.of hnm') (by decide) rfl ⟨(by show 3 ≤ sizeLine; decide), fun p2 hp2 => ?_⟩⟩
        have M2 := M.grown ((Same.refl H').new (o := .tup [V.str "num", V.str y, V.int 3]) hp2)
        refine ⟨_, rfl, setL M2.at_ (by decide) (by rw [M2.vlen]; exact n1) (loop _ ⟨_, rs.set 0 (.num y 3), _, _, _, rfl, M2.set 0 ⟨p2, rfl, upd_same⟩ (rNum y List.mem_cons_self hb), ?_, fun _ => ⟨.num y 3, List.getElem?_set_self (by rw [M.len]; exact n1), rfl⟩, fun _ z => absurd z (Nat.not_lt_zero _)⟩)⟩
        obtain ⟨r1, a1, a2⟩ := hE
        exact ⟨r1, by rw [List.getElem?_set_ne (by lia)]; exact a1, a2⟩
      · exact iteF (loop _ ⟨rvs, rs, _, _, _, rfl, M, hE, fun _ => ⟨r, e2, is_num (str_inj hw)⟩, fun _ z => absurd z (Nat.not_lt_zero _)⟩)
    · exact iteF (loop _ ⟨rvs, rs, _, _, _, rfl, M, hE, fun hb' => (by rw [hb] at hb'; cases hb'), fun _ z => absurd z (Nat.not_lt_zero _)⟩)
  obtain ⟨p, xs, r, e1, e2, hp, hra, hro⟩ := M0.get (j := n - 1) (by lia)
  have e1' : rvs[((n - 1 : Nat) : Int).toNat]? = some (.ref p) := by simpa using e1
  refine ⟨_, rfl, _, rfl, ixL (SqL.of hrl) (by lia) e1' (ixT hp (by decide) rfl ⟨(by show 2 ≤ sizeLine; decide), fun t ht => ⟨t, _, rfl, .inr (SqT.of upd_same), rfl, rfl, _, rfl, ?_⟩⟩)⟩
  have M1 := M0.grown ((Same.refl H).new (o := .tup [V.str "jump", V.str "give"]) ht)
  refine if_bl (fun hb => ?_) (fun hb => ?_)
  · refine ⟨(by show 2 ≤ sizeLine; decide), fun p2 hp2 => ?_⟩
    have M2 := M1.grown ((Same.refl _).new (o := .tup [V.str "give", V.str ""]) hp2)
    refine ⟨_, rfl, _, rfl, setL M2.at_ (by lia) (by rw [M2.vlen]; lia) ?_⟩
    have ei : ((n - 1 : Nat) : Int).toNat = n - 1 := by simp
    rw [ei]
    exact second _ _ _ (M2.set (n - 1) (r := .give "") ⟨p2, rfl, upd_same⟩ rGive) ⟨.give "", List.getElem?_set_self (by rw [M0.len]; lia), rfl⟩
  · refine second _ _ _ M1 ⟨r, e2, in_end ?_⟩
    have hb' : (!inV (.str (word r)) [V.str "jump", V.str "give"]) = false := hb
    simpa using hb'
end Bg
end
section
set_option Elab.async false
set_option linter.all false
set_option maxRecDepth 100000
set_option maxHeartbeats 4000000
namespace Bg
open PySem L2
def TxA (kl : Addr) (H : Hp) (v : V) (ks : List Str) : Prop := ∃ a, v = .ref a ∧ a ≠ kl ∧ H a = some (.lst (ks.map V.str))
theorem TxA.same {kl : Addr} {H H' : Hp} {v : V} {ks : List Str} (h : TxA kl H v ks) (s : Same H H') : TxA kl H' v ks := by
  obtain ⟨a, e, n, h⟩ := h; exact ⟨a, e, n, s _ _ h⟩
theorem TxA.upd {kl : Addr} {H : Hp} {v : V} {ks : List Str} {o : HO} (h : TxA kl H v ks) : TxA kl (upd H kl o) v ks := by
  obtain ⟨a, e, n, h⟩ := h; exact ⟨a, e, n, by rw [upd_ne n]; exact h⟩
def sumL (kss : List (List Str)) : Nat := (kss.map List.length).sum
theorem sumL_set : ∀ {kss : List (List Str)} {m : Nat} {ks kp : List Str}, kss[m]? = some ks → sumL (kss.set m kp) + ks.length = sumL kss + kp.length
  | [], m, ks, kp, h => by simp at h
  | a :: r, 0, ks, kp, h => by
    simp at h; subst h
    show kp.length + sumL r + a.length = a.length + sumL r + kp.length
    lia
  | a :: r, m + 1, ks, kp, h => by
    have ih := sumL_set (kss := r) (m := m) (ks := ks) (kp := kp) (by simpa using h)
    show a.length + sumL (r.set m kp) + ks.length = a.length + sumL r + kp.length
    lia
structure KJ (kl : Addr) (H : Hp) (ys ps : List Str) (w : Str) (n : Nat) (H' : Hp) (refs : List V) (kss : List (List Str)) : Prop where
  at_ : H' kl = some (.lst refs)
  all : AllAt (TxA kl H') refs kss
  len : kss.length = n
  wit : ∀ (i : Nat) ks, kss[i]? = some ks → ks.length ≤ 100 ∧ (∀ y ∈ ks, y ∈ ys) ∧ (w ∈ ks ∨ (i = 0 ∧ ps = []))
  same : Same H H'
theorem KJ.grown {kl : Addr} {H H' H2 : Hp} {ys ps : List Str} {w : Str} {n : Nat} {refs : List V} {kss : List (List Str)} (k : KJ kl H ys ps w n H' refs kss) (s : Same H' H2) : KJ kl H ys ps w n H2 refs kss :=
  ⟨s _ _ k.at_, k.all.imp fun _ _ z => z.same s, k.len, k.wit, k.same.trans s⟩
theorem KJ.vlen {kl : Addr} {H H' : Hp} {ys ps : List Str} {w : Str} {n : Nat} {refs : List V} {kss : List (List Str)} (k : KJ kl H ys ps w n H' refs kss) : refs.length = n := k.all.len.trans k.len
theorem KJ.get {kl : Addr} {H H' : Hp} {ys ps : List Str} {w : Str} {n : Nat} {refs : List V} {kss : List (List Str)} (k : KJ kl H ys ps w n H' refs kss) {j : Nat} (hj : j < n) : ∃ a ks, refs[j]? = some (.ref a) ∧ kss[j]? = some ks ∧ a ≠ kl ∧ H' a = some (.lst (ks.map V.str)) := by
  obtain ⟨v, ks, e1, e2, a, rfl, n1, h1⟩ := k.all.get (i := j) (by rw [k.len]; exact hj)
  exact ⟨a, ks, e1, e2, n1, h1⟩
theorem KJ.set {kl a : Addr} {H H' : Hp} {ys ps : List Str} {w : Str} {n m : Nat} {refs : List V} {kss : List (List Str)} {kp : List Str} (k : KJ kl H ys ps w n H' refs kss) (hkl : H kl = none) (na : a ≠ kl) (ha : H' a = some (.lst (kp.map V.str)))
    (hw : kp.length ≤ 100 ∧ (∀ y ∈ kp, y ∈ ys) ∧ (w ∈ kp ∨ (m = 0 ∧ ps = []))) : KJ kl H ys ps w n (upd H' kl (.lst (refs.set m (.ref a)))) (refs.set m (.ref a)) (kss.set m kp) := by
  refine ⟨upd_same, AllAt.set (k.all.imp fun _ _ z => z.upd) ⟨a, rfl, na, by rw [upd_ne na]; exact ha⟩, by rw [List.length_set]; exact k.len, fun i ks e => ?_, fun b o h => ?_⟩
  · by_cases c : m = i
    · subst c
      have hi : m < kss.length := by have := (List.getElem?_eq_some_iff.mp e).1; rw [List.length_set] at this; exact this
      rw [List.getElem?_set_self hi] at e; cases e; exact hw
    · rw [List.getElem?_set_ne c] at e; exact k.wit i ks e
  · rw [upd_ne (ne_of_none h hkl)]; exact k.same _ _ h
theorem filter_take {α : Type} (p : α → Bool) (l : List α) (i : Nat) (v : α) (h : l[i]? = some v) : (l.take (i + 1)).filter p = (l.take i).filter p ++ (if p v = true then [v] else []) := by
  rw [List.take_add_one, h, List.filter_append]
  cases hp : p v <;> simp [hp]
theorem in_sets {r : BRow} (h : inV (.str (word r)) [V.str "num", V.str "op", V.str "call"] = true) : ∃ x, setsOf r = .str x := by
  cases r with
  | num x z => exact ⟨x, rfl⟩
  | op x s a b => exact ⟨x, rfl⟩
  | call x k as => exact ⟨x, rfl⟩
  | jump to => exact absurd h (by show ¬ inV (.str "jump") [V.str "num", V.str "op", V.str "call"] = true; decide +kernel)
  | say a => exact absurd h (by show ¬ inV (.str "say") [V.str "num", V.str "op", V.str "call"] = true; decide +kernel)
  | test a to => exact absurd h (by show ¬ inV (.str "test") [V.str "num", V.str "op", V.str "call"] = true; decide +kernel)
  | give a => exact absurd h (by show ¬ inV (.str "give") [V.str "num", V.str "op", V.str "call"] = true; decide +kernel)
theorem sets_at {H : Hp} {p : Addr} {r : BRow} {x : Str} (h : RowAt H (.ref p) r) (e : setsOf r = .str x) : ∃ xs, H p = some (.tup (.str (word r) :: .str x :: xs)) := by
  cases r with
  | num y z => cases e; obtain ⟨p', e', h⟩ := h; cases e'; exact ⟨_, h⟩
  | op y s a b => cases e; obtain ⟨p', e', h⟩ := h; cases e'; exact ⟨_, h⟩
  | call y k as => cases e; obtain ⟨p', q, e', h, _⟩ := h; cases e'; exact ⟨_, h⟩
  | jump to => cases e
  | say a => cases e
  | test a to => cases e
  | give a => cases e
theorem leads_lt {ys : List Str} {cs : List Nat} {rs : List BRow} {i m j : Nat} {r : BRow} (hr : rs[i]? = some r) (ro : Rough ys cs rs.length r) (hE : rs.getLast?.map isEnd = some true) (hm : (leadsL i r)[j]? = some m) : m < rs.length := by
  have hi : i < rs.length := (List.getElem?_eq_some_iff.mp hr).1
  have nx : isEnd r = false → i + 1 < rs.length := fun he => by
    by_cases c : i + 1 < rs.length
    · exact c
    · have ei : i = rs.length - 1 := by lia
      rw [List.getLast?_eq_getElem?, ← ei, hr, Option.map_some, he] at hE
      cases hE
  have mem := List.mem_of_getElem? hm
  cases r with
  | jump to => rw [List.mem_singleton.mp mem]; exact ro
  | test a to =>
    rcases List.mem_cons.mp mem with e | e
    · rw [e]; exact nx rfl
    · rw [List.mem_singleton.mp e]; exact ro.2
  | give a => cases mem
  | num x z => rw [List.mem_singleton.mp mem]; exact nx rfl
  | op x s a b => rw [List.mem_singleton.mp mem]; exact nx rfl
  | call x k as => rw [List.mem_singleton.mp mem]; exact nx rfl
  | say a => rw [List.mem_singleton.mp mem]; exact nx rfl
def PassOk (rs : List BRow) (i : Nat) (kss : List (List Str)) : Prop := ∀ (n m : Nat) r ks km, n < i → rs[n]? = some r → m ∈ leadsL n r → kss[n]? = some ks → kss[m]? = some km → ∀ y ∈ km, y ∈ ks ∨ setsOf r = .str y
def Zero (ps : List Str) (kss : List (List Str)) : Prop := ∀ ks, kss[0]? = some ks → ∀ y ∈ ks, y ∈ ps
theorem Zero.set {ps : List Str} {kss : List (List Str)} {m : Nat} {km kp : List Str} (h : Zero ps kss) (e : kss[m]? = some km) (s : ∀ y ∈ kp, y ∈ km) : Zero ps (kss.set m kp) := by
  intro ks e0 y hy
  by_cases c : m = 0
  · subst c
    have hl : 0 < kss.length := (List.getElem?_eq_some_iff.mp e).1
    rw [List.getElem?_set_self hl] at e0; cases e0
    exact h km e y (s y hy)
  · rw [List.getElem?_set_ne c] at e0; exact h ks e0 y hy
def SnP (rl nm pr kl : Addr) (H : Hp) (ys ps : List Str) (w : Str) (rs : List BRow) (B i : Nat) : St → Hp → Prop := fun σ' H' => ∃ (refs : List V) (kss : List (List Str)) (more : Bool) (o5 o6 o7 o8 : Option V), σ' = [some (.ref rl), some (.ref nm), some (.ref pr), some (.ref kl), some (.bl more), o5, o6, o7, o8] ∧ KJ kl H ys ps w rs.length H' refs kss ∧ 2 * sumL kss + more.toNat ≤ B ∧ Zero ps kss ∧ (more = false → PassOk rs i kss)
def SnQ (rl nm pr kl : Addr) (H : Hp) (ys ps : List Str) (w : Str) (rs : List BRow) (B i : Nat) (la l : Addr) (ls : List Str) (ms : List Nat) (kss0 : List (List Str)) (j : Nat) : St → Hp → Prop := fun σ' H' => ∃ (refs : List V) (kss : List (List Str)) (more : Bool) (o7 o8 : Option V), σ' = [some (.ref rl), some (.ref nm), some (.ref pr), some (.ref kl), some (.bl more), some (.int (i : Nat)), some (.ref la), o7, o8] ∧ KJ kl H ys ps w rs.length H' refs kss ∧ 2 * sumL kss + more.toNat ≤ B ∧ H' la = some (.lst (ls.map V.str)) ∧ H' l = some (.lst (intsV ms)) ∧ Zero ps kss ∧
  (more = false → kss = kss0 ∧ PassOk rs i kss0 ∧ ∀ j', j' < j → ∀ m km, ms[j']? = some m → kss0[m]? = some km → ∀ y ∈ km, y ∈ ls)
end Bg
end
section
set_option Elab.async false
set_option linter.all false
set_option maxRecDepth 100000
set_option maxHeartbeats 4000000
namespace Bg
open PySem L2
def Bt2 (a b : Addr) (H H' : Hp) : Prop := ∀ c o, c ≠ a → c ≠ b → H c = some o → H' c = some o
theorem Bt2.refl (a b : Addr) (H : Hp) : Bt2 a b H H := fun _ _ _ _ h => h
theorem Bt2.trans {a b : Addr} {H H1 H2 : Hp} (x : Bt2 a b H H1) (y : Bt2 a b H1 H2) : Bt2 a b H H2 := fun c o n m h => y c o n m (x c o n m h)
theorem Bt2.of_l {a b : Addr} {H H' : Hp} (x : But a H H') : Bt2 a b H H' := fun c o n _ h => x c o n h
theorem Bt2.of_r {a b : Addr} {H H' : Hp} (x : But b H H') : Bt2 a b H H' := fun c o _ m h => x c o m h
theorem Bt2.upd_r {a b : Addr} {H : Hp} {o : HO} : Bt2 a b H (upd H b o) := .of_r .upd_at
theorem Bt2.tp {a b : Addr} {H H' : Hp} {xs ys : List V} (x : Bt2 a b H H') (ha : H a = some (.lst xs)) (hb : H b = some (.lst ys)) : Tp H H' := fun p zs h =>
  x p _ (by rintro rfl; rw [h] at ha; cases ha) (by rintro rfl; rw [h] at hb; cases hb) h
theorem Bt2.but {a b : Addr} {H H1 H2 : Hp} (x : But a H H1) (hb : H b = none) (y : Bt2 a b H1 H2) : But a H H2 := fun c o n h => y c o n (ne_of_none h hb) (x c o n h)
def cst : V → Nat
  | .str s => if s = "" then 1 else 0
  | .ref _ => 4
  | _ => 0
def ThOk (ks : List Str) (H : Hp) : V → Prop
  | .str s => s = "" → ks ≠ []
  | .int _ => True
  | .ref q => ∃ as : List Str, H q = some (.tup (as.map V.str)) ∧ as.length ≤ 4 ∧ ks ≠ []
  | _ => False
theorem ThOk.mono {ks : List Str} {H H' : Hp} {x : V} (h : ThOk ks H x) (t : Tp H H') : ThOk ks H' x := by
  cases x with
  | str s => exact h
  | int i => exact h
  | ref q => obtain ⟨as, h1, h2⟩ := h; exact ⟨as, t _ _ h1, h2⟩
  | _ => exact h.elim
def Fil (ks : List Str) (H : Hp) (y x : V) : Prop := match x with
  | .str s => (s = "" → ∃ z ∈ ks, y = .str z) ∧ (s ≠ "" → y = .str s)
  | .int i => y = .int i
  | .ref q => ∃ (as bs : List Str) (q' : Addr), H q = some (.tup (as.map V.str)) ∧ y = .ref q' ∧ H q' = some (.tup (bs.map V.str)) ∧ bs.length = as.length ∧ ∀ b ∈ bs, b ∈ ks
  | _ => False
theorem Fil.mono {ks : List Str} {H H' : Hp} {x y : V} (h : Fil ks H y x) (t : Tp H H') : Fil ks H' y x := by
  cases x with
  | str s => exact h
  | int i => exact h
  | ref q => obtain ⟨as, bs, q', h1, h2, h3, h4⟩ := h; exact ⟨as, bs, q', t _ _ h1, h2, t _ _ h3, h4⟩
  | _ => exact h.elim
theorem fl_name {K : PySem.W.Frag} {σ : St} {st kl a : Addr} {i k : Nat} {refs : List V} {ks : List Str} {H : Hp} {Q : VK} (h0 : σ[0]? = some (some (.ref st))) (h2 : σ[2]? = some (some (.ref kl))) (h4 : σ[4]? = some (some (.int (i : Nat))))
    (hkl : H kl = some (.lst refs)) (hr : refs[i]? = some (.ref a)) (ha : H a = some (.lst (ks.map V.str))) (ne : ks ≠ []) (len : ks.length ≤ 100) (S : Stt K H st k) (hk : k ≤ 900000) (na : a ≠ st)
    (q : ∀ (y : Str) (H' : Hp), y ∈ ks → Stt K H' st (k + 1) → But st H H' → Q (.str y) H') :
    tOp (rIx K) (tOp (rIx K) (tVar 2) (tVar 4)) (tCall (sp_draw K) [] E0 (tCons (tVar 0) (tCons (tCB (rLen K) (tCons (tOp (rIx K) (tVar 2) (tVar 4)) tNil)) tNil))) σ H Q := by
  have hl : 0 < ks.length := List.length_pos_iff.mpr ne
  have hr' : refs[((i : Nat) : Int).toNat]? = some (.ref a) := by simpa using hr
  refine ⟨_, h2, _, h4, ixL (SqL.of hkl) (by lia) hr' ⟨_, h0, _, h2, _, h4, ixL (SqL.of hkl) (by lia) hr' ⟨_, _, rfl, .inl ⟨_, SqL.of ha, rfl⟩, st, _, k, rfl, S, by lia, by rw [List.length_map]; lia, by rw [List.length_map]; lia, fun d H1 d0 d1 S1 B1 => ?_⟩⟩⟩
  rw [List.length_map] at d1
  have dl : d.toNat < ks.length := by lia
  exact ixL (SqL.of (B1 a _ na ha)) d0 (strs_get (List.getElem?_eq_getElem dl)) (q _ H1 (List.getElem_mem dl) S1 B1)
theorem fl_thing {K : PySem.W.Frag} {st rl kl fd p sm a : Addr} {i k : Nat} {refs vs : List V} {ks : List Str} {x : V} {H : Hp} {D : Ends} (hkl : H kl = some (.lst refs)) (hr : refs[i]? = some (.ref a)) (ha : H a = some (.lst (ks.map V.str))) (len : ks.length ≤ 100) (S : Stt K H st k) (hk : k ≤ 800000) (na : a ≠ st) (nk : kl ≠ st)
    (hsm : H sm = some (.lst vs)) (vl : vs.length ≤ 100) (ns : sm ≠ st) (ok : ThOk ks H x)
    (q : ∀ (y : V) (k' : Nat) (H' : Hp), Fil ks H' y x → H' sm = some (.lst (vs ++ [y])) → Stt K H' st k' → k' ≤ k + cst x → Bt2 st sm H H' → D.nx [some (.ref st), some (.ref rl), some (.ref kl), some (.ref fd), some (.int (i : Nat)), some (.ref p), some (.ref sm), some y] H') :
    t_filled_4 K D [some (.ref st), some (.ref rl), some (.ref kl), some (.ref fd), some (.int (i : Nat)), some (.ref p), some (.ref sm), some x] H := by
  have app : ∀ (y : V) (k' : Nat) (H1 : Hp), Fil ks H1 y x → Stt K H1 st k' → k' ≤ k + cst x → But st H H1 → t_filled_3 K D [some (.ref st), some (.ref rl), some (.ref kl), some (.ref fd), some (.int (i : Nat)), some (.ref p), some (.ref sm), some y] H1 := fun y k' H1 f S1 l1 B1 => by
    have h1 := B1 sm _ ns hsm
    refine ⟨_, rfl, .inl ⟨rfl, _, SqL.of h1⟩, _, rfl, sm, _, _, rfl, rfl, h1, smallL (by lia), ?_⟩
    exact q y k' _ (f.mono ((Tp.refl H1).lst h1)) upd_same (S1.mono .upd_at h1 (Ne.symm ns)) l1 ((Bt2.of_l B1).trans .upd_r)
  cases x with
  | str s =>
    refine ⟨_, rfl, .inl ⟨rfl, _, rfl, if_dec (fun e => ?_) (fun e => ?_)⟩⟩
    · have e' : s = "" := by cases e; rfl
      refine fl_name rfl rfl rfl hkl hr ha (ok e') len S (by lia) na fun y H' hy S' B' => ?_
      refine app (.str y) _ H' ⟨fun _ => ⟨y, hy, rfl⟩, fun z => absurd e' z⟩ S' ?_ B'
      show k + 1 ≤ k + (if s = "" then 1 else 0)
      rw [if_pos e']; exact Nat.le_refl _
    · refine ⟨_, rfl, _, _, _, rfl, .str_tuple _, _, rfl, iteF ?_⟩
      exact app (.str s) k H ⟨fun z => absurd (by rw [z]) e, fun _ => rfl⟩ S (by lia) (.refl _ _)
  | int j =>
    refine ⟨_, rfl, .inl ⟨rfl, _, rfl, no (fun z => by cases z) ?_⟩⟩
    refine ⟨_, rfl, _, _, _, rfl, .int_tuple _, _, rfl, iteF ?_⟩
    exact app (.int j) k H rfl S (by lia) (.refl _ _)
  | ref t =>
    obtain ⟨as, ht, l4, ne⟩ := ok
    obtain ⟨ys0, hst⟩ := S.lst
    have nt : t ≠ st := Ne.symm (ne_lst_tup hst ht)
    refine ⟨_, rfl, .inr (.inr (.inl ⟨t, _, _, rfl, rfl, SqT.of ht, _, rfl, iteF ?_⟩))⟩
    refine ⟨_, rfl, _, _, _, rfl, .tup_tuple (SqT.of ht), _, rfl, iteT ?_⟩
    refine .inr ⟨_, rfl, t, rfl, ⟨_, SqT.of ht⟩, fun L hL => ?_⟩
    have nL : L ≠ st := fun z => by rw [z, hst] at hL; cases hL
    refine comp_tup (xs := as.map V.str) (fun j σ' H' => ∃ (bs : List Str) (k' : Nat) (o : Option V), σ' = [some (.ref st), some (.ref rl), some (.ref kl), some (.ref fd), some (.int (i : Nat)), some (.ref p), some (.ref sm), some (.ref t), o] ∧ H' L = some (.lst (bs.map V.str)) ∧ bs.length = j ∧ (∀ b ∈ bs, b ∈ ks) ∧ Stt K H' st k' ∧ k' ≤ k + j ∧ But st H H') ?_ ?_ ?_ ?_
    · exact ⟨[], k, none, rfl, upd_same, rfl, by simp, S.new hL, by lia, (But.refl st H).new hL⟩
    · rintro j σ' H' _ ⟨_, _, _, _, _, _, _, _, _, B⟩
      exact SqT.of (B t _ nt ht)
    · rintro j x σ' H' hx ⟨bs, k', o, rfl, hb, bl, bm, S', hk', B'⟩
      have jl : j < as.length := by have := (List.getElem?_eq_some_iff.mp hx).1; rw [List.length_map] at this; exact this
      refine app_yes (fl_name rfl rfl rfl (B' kl _ nk hkl) hr (B' a _ na ha) ne len S' (by lia) na fun y H2 hy S2 B2 => ?_)
      have h2 := B2 L _ nL hb
      refine ⟨_, h2, smallL (by rw [List.length_map]; lia), bs ++ [y], k' + 1, _, rfl, by rw [upd_same, List.map_append]; rfl, by simp [bl], fun b hb' => ?_, S2.mono .upd_at h2 (Ne.symm nL), by lia, ?_⟩
      · rcases List.mem_append.mp hb' with z | z
        · exact bm b z
        · rw [List.mem_singleton.mp z]; exact hy
      · exact fun c u n h => by rw [upd_ne (ne_of_none h hL)]; exact (B'.trans B2) c u n h
    · rintro σ' H2 ⟨bs, k', o, _, hb, bl, bm, S', hk', B'⟩
      rw [List.length_map] at bl hk'
      refine ⟨L, _, rfl, .inl ⟨SqL.of hb, fun l hl => ?_⟩⟩
      have nl : L ≠ l := ne_of_none hb hl
      have h2 := B' t _ nt ht
      refine app (.ref l) k' _ ⟨as, bs, l, by rw [upd_ne (ne_of_none h2 hl)]; exact h2, rfl, upd_same, bl, bm⟩ (S'.new hl) ?_ (B'.new hl)
      show k' ≤ k + 4
      lia
  | _ => exact ok.elim
end Bg
end
section
set_option Elab.async false
set_option linter.all false
set_option maxRecDepth 100000
set_option maxHeartbeats 4000000
namespace Bg
open PySem L2
theorem cut_tail (w : V) (rest : List V) : cutV (w :: rest) (some 1) none = rest := by
  unfold cutV
  have e1 : HT.sIx (w :: rest).length 0 (some 1) = 1 := by
    rw [show (1 : Int) = ((1 : Nat) : Int) from rfl, HT.sIx_nat, List.length_cons]; lia
  rw [e1, HT.sIx_none, List.drop_succ_cons, List.drop_zero, List.length_cons]
  exact List.take_of_length_le (by lia)
theorem cut_part (w : V) {rest : List V} (h : rest ≠ []) : ¬ (HT.sIx (w :: rest).length 0 (some 1) = 0 ∧ HT.sIx (w :: rest).length (w :: rest).length none = (w :: rest).length) := by
  rintro ⟨h1, _⟩
  rw [show (1 : Int) = ((1 : Nat) : Int) from rfl, HT.sIx_nat, List.length_cons] at h1
  lia
theorem fl_row {K : PySem.W.Frag} {st rl kl fd p a : Addr} {i k : Nat} {refs fs rest : List V} {w : Str} {ks : List Str} {H : Hp} {D : Ends} {o6 o7 : Option V} (hkl : H kl = some (.lst refs)) (hr : refs[i]? = some (.ref a)) (ha : H a = some (.lst (ks.map V.str))) (len : ks.length ≤ 100) (S : Stt K H st k) (hk : k ≤ 750000) (na : a ≠ st) (nk : kl ≠ st)
    (hp : H p = some (.tup (.str w :: rest))) (rne : rest ≠ []) (rl4 : rest.length ≤ 4) (ok : ∀ x ∈ rest, ThOk ks H x) (cs5 : (rest.map cst).sum ≤ 5) (hfd : H fd = some (.lst fs)) (fl : fs.length ≤ 100) (nf : fd ≠ st)
    (q : ∀ (o6 o7 : Option V) (p' : Addr) (vs : List V) (k' : Nat) (H' : Hp), H' fd = some (.lst (fs ++ [.ref p'])) → H' p' = some (.tup (.str w :: vs)) → AllAt (Fil ks H') vs rest → Stt K H' st k' → k' ≤ k + 5 → Bt2 st fd H H' → D.nx [some (.ref st), some (.ref rl), some (.ref kl), some (.ref fd), some (.int (i : Nat)), some (.ref p), o6, o7] H') :
    t_filled_6 K D [some (.ref st), some (.ref rl), some (.ref kl), some (.ref fd), some (.int (i : Nat)), some (.ref p), o6, o7] H := by
  obtain ⟨ys0, hst⟩ := S.lst
  refine ⟨(by show 0 ≤ sizeLine; decide), fun sm hsm => ?_⟩
  have nsm : sm ≠ st := fun z => by rw [z, hst] at hsm; cases hsm
  have s1 : Same H (upd H sm (.lst [])) := (Same.refl H).new hsm
  have g1 : (upd H sm (.lst [])) sm = some (.lst []) := upd_same
  show t_filled_5 K D [some (.ref st), some (.ref rl), some (.ref kl), some (.ref fd), some (.int (i : Nat)), some (.ref p), some (.ref sm), o7] (upd H sm (.lst []))
  generalize upd H sm (.lst []) = H1 at s1 g1 ⊢
  refine .inr ⟨_, rfl, _, rfl, .inr ⟨p, _, rfl, SqT.of (s1 _ _ hp), cut_part _ rne, fun tp htp => ?_⟩⟩
  rw [cut_tail]
  have s2 : Same H (upd H1 tp (.tup rest)) := s1.new htp
  have g2 : (upd H1 tp (.tup rest)) sm = some (.lst []) := by rw [upd_ne (ne_of_none g1 htp)]; exact g1
  have t2 : (upd H1 tp (.tup rest)) tp = some (.tup rest) := upd_same
  generalize upd H1 tp (.tup rest) = H2 at s2 g2 t2 ⊢
  have nts : tp ≠ st := Ne.symm (ne_lst_tup (s2 _ _ hst) t2)
  have ntm : tp ≠ sm := Ne.symm (ne_lst_tup g2 t2)
  have nfm : fd ≠ sm := ne_of_none hfd hsm
  have nkm : kl ≠ sm := ne_of_none hkl hsm
  have nam : a ≠ sm := ne_of_none ha hsm
  have nps : p ≠ st := Ne.symm (ne_lst_tup hst hp)
  have npm : p ≠ sm := ne_of_none hp hsm
  refine ⟨tp, rfl, ⟨_, SqT.of t2⟩, for_tup (xs := rest) (fun j σ' H' => ∃ (vs : List V) (k' : Nat) (o : Option V), σ' = [some (.ref st), some (.ref rl), some (.ref kl), some (.ref fd), some (.int (i : Nat)), some (.ref p), some (.ref sm), o] ∧ H' sm = some (.lst vs) ∧ AllAt (Fil ks H') vs (rest.take j) ∧ Stt K H' st k' ∧ k' ≤ k + ((rest.take j).map cst).sum ∧ Bt2 st sm H2 H') ?_ ?_ ?_ ?_⟩
  · exact ⟨[], k, o7, rfl, g2, .nil, S.same s2, by simp, .refl _ _ _⟩
  · rintro j σ' H' _ ⟨_, _, _, _, _, _, _, _, B⟩
    exact SqT.of (B tp _ nts ntm t2)
  · rintro j x σ' H' hx ⟨vs, k', o, rfl, hvs, hA, S', hk', B'⟩
    have jl : j < rest.length := (List.getElem?_eq_some_iff.mp hx).1
    have et : rest.take (j + 1) = rest.take j ++ [x] := by rw [List.take_add_one, hx]; rfl
    have c5 : ((rest.take j).map cst).sum ≤ 5 := by
      have e := congrArg (fun l => (l.map cst).sum) (List.take_append_drop j rest)
      simp only [List.map_append, List.sum_append] at e
      lia
    have vl : vs.length ≤ 4 := by rw [hA.len, List.length_take]; lia
    refine fl_thing (B' kl _ nk nkm (s2 _ _ hkl)) hr (B' a _ na nam (s2 _ _ ha)) len S' (by lia) na nk hvs (by lia) nsm (((ok x (List.mem_of_getElem? hx)).mono (.of_same s2)).mono (B'.tp (s2 _ _ hst) g2)) fun y k2 H3 f h3 S3 l3 B3 => ?_
    obtain ⟨ys1, hst'⟩ := S'.lst
    refine ⟨vs ++ [y], k2, _, rfl, h3, ?_, S3, ?_, B'.trans B3⟩
    · rw [et]; exact (hA.imp fun _ _ z => z.mono (B3.tp hst' hvs)).snoc f
    · rw [et, List.map_append, List.sum_append]
      show k2 ≤ k + (((rest.take j).map cst).sum + (cst x + 0))
      lia
  · rintro σ' H3 ⟨vs, k', o, rfl, hvs, hA, S', hk', B'⟩
    rw [List.take_length] at hA hk'
    have h3p := B' p _ nps npm (s2 _ _ hp)
    have h3f := B' fd _ nf nfm (s2 _ _ hfd)
    obtain ⟨ys1, hst'⟩ := S'.lst
    have vl : vs.length = rest.length := hA.len
    have vne : vs ≠ [] := fun z => rne (List.length_eq_zero_iff.mp (by rw [← vl, z]; rfl))
    have BH : But st H H3 := (Bt2.but (s2.but) hsm B')
    refine ⟨_, rfl, .inl ⟨rfl, _, SqL.of h3f⟩, _, rfl, ixT h3p (by decide) rfl ⟨(by show 1 ≤ sizeLine; decide), fun t1 ht1 => ⟨_, rfl, sm, _, rfl, .inl ⟨SqL.of (by rw [upd_ne (ne_of_none hvs ht1)]; exact hvs), fun t4 ht4 => ?_⟩⟩⟩⟩
    have n14 : t1 ≠ t4 := ne_of_none upd_same ht4
    refine .inr (.inr (.inr ⟨t1, t4, [.str w], vs, rfl, rfl, SqT.of (by rw [upd_ne n14]; exact upd_same), SqT.of upd_same, by simp, ?_, fun z => absurd z vne, fun _ t5 ht5 => ?_⟩))
    · have := smallL (n := 100) (by decide)
      show 1 + vs.length ≤ sizeLine
      lia
    have s5 : Same H3 (upd (upd (upd H3 t1 (.tup [.str w])) t4 (.tup vs)) t5 (.tup (.str w :: vs))) := (((Same.refl H3).new ht1).new ht4).new ht5
    have g5 : (upd (upd (upd H3 t1 (.tup [.str w])) t4 (.tup vs)) t5 (.tup (.str w :: vs))) t5 = some (.tup (.str w :: vs)) := upd_same
    show rAppend (.ref fd) [.ref t5] (upd (upd (upd H3 t1 (.tup [.str w])) t4 (.tup vs)) t5 (.tup (.str w :: vs))) fun x H1 => D.nx [some (.ref st), some (.ref rl), some (.ref kl), some (.ref fd), some (.int (i : Nat)), some (.ref p), some (.ref sm), o] H1
    generalize upd (upd (upd H3 t1 (.tup [.str w])) t4 (.tup vs)) t5 (.tup (.str w :: vs)) = H5 at s5 g5 ⊢
    have h5f := s5 _ _ h3f
    refine ⟨fd, _, _, rfl, rfl, h5f, smallL (by lia), ?_⟩
    have tp6 : Tp H5 (upd H5 fd (.lst (fs ++ [.ref t5]))) := (Tp.refl H5).lst h5f
    refine q _ _ t5 vs k' _ upd_same (tp6 _ _ g5) ((hA.imp fun _ _ z => z.mono (.of_same s5)).imp fun _ _ z => z.mono tp6) ((S'.same s5).mono .upd_at h5f (Ne.symm nf)) (by lia) ?_
    exact fun c u n m h => by rw [upd_ne m]; exact s5 _ _ (BH c u n h)
end Bg
end
section
set_option Elab.async false
set_option linter.all false
set_option maxRecDepth 100000
set_option maxHeartbeats 4000000
namespace Bg
open PySem L2
theorem signs_ne {s : Str} (h : s ∈ signs) : s ≠ "" := by
  intro e
  subst e
  exact absurd h (by decide +kernel)
theorem map_str_len {as bs : List Str} (h : as.map V.str = bs.map V.str) : as.length = bs.length := by
  have := congrArg List.length h
  simpa using this
theorem fil_str {ks : List Str} {H : Hp} {y : V} {s : Str} (h : Fil ks H y (.str s)) (n : s ≠ "") : y = .str s := h.2 n
theorem fil_nil {ks : List Str} {H : Hp} {y : V} (h : Fil ks H y (.str "")) : ∃ z ∈ ks, y = .str z := h.1 rfl
theorem cst_str {s : Str} (n : s ≠ "") : cst (.str s) = 0 := by
  show (if s = "" then 1 else 0) = 0
  rw [if_neg n]
theorem vs2 {vs : List V} (h : vs.length = 2) : ∃ a b, vs = [a, b] := by
  match vs, h with
  | [a, b], _ => exact ⟨a, b, rfl⟩
theorem vs1 {vs : List V} (h : vs.length = 1) : ∃ a, vs = [a] := by
  match vs, h with
  | [a], _ => exact ⟨a, rfl⟩
theorem vs3 {vs : List V} (h : vs.length = 3) : ∃ a b c, vs = [a, b, c] := by
  match vs, h with
  | [a, b, c], _ => exact ⟨a, b, c, rfl⟩
theorem vs4 {vs : List V} (h : vs.length = 4) : ∃ a b c d, vs = [a, b, c, d] := by
  match vs, h with
  | [a, b, c, d], _ => exact ⟨a, b, c, d, rfl⟩
theorem fil_row {H : Hp} {p : Addr} {r : BRow} {ys ks : List Str} {cs : List Nat} {n : Nat} (hra : RowAt H (.ref p) r) (ro : Rough ys cs n r) (yne : ∀ y ∈ ys, y ≠ "") (cs4 : ∀ c ∈ cs, c ≤ 4) (hks : ks ≠ [] ∨ isNum r = true) :
    ∃ rest, H p = some (.tup (.str (word r) :: rest)) ∧ rest ≠ [] ∧ rest.length ≤ 4 ∧ (∀ x ∈ rest, ThOk ks H x) ∧ (rest.map cst).sum ≤ 5 ∧ ∀ (H' : Hp) (p' : Addr) (vs : List V), AllAt (Fil ks H') vs rest → H' p' = some (.tup (.str (word r) :: vs)) → Tp H H' → ∃ r', RowAt H' (.ref p') r' ∧ FillOf ks r r' := by
  cases r with
  | num x z =>
    obtain ⟨p', e, h⟩ := hra
    cases e
    have xn := yne x ro.1
    refine ⟨_, h, by simp, by simp, fun v hv => ?_, ?_, fun H' p' vs hA hp' t => ?_⟩
    · rcases List.mem_cons.mp hv with rfl | hv
      · exact fun z => absurd z xn
      · rw [List.mem_singleton.mp hv]; exact trivial
    · show cst (.str x) + (0 + 0) ≤ 5
      rw [cst_str xn]; decide
    · obtain ⟨a, b, rfl⟩ := vs2 hA.len
      have e1 := fil_str (hA.at_ 0 _ _ rfl rfl) xn
      have e2 : b = .int z := hA.at_ 1 _ _ rfl rfl
      subst e1 e2
      exact ⟨.num x z, ⟨p', rfl, hp'⟩, rfl⟩
  | op x s a b =>
    obtain ⟨p', e, h⟩ := hra
    cases e
    obtain ⟨xy, ss, rfl, rfl⟩ := ro
    have xn := yne x xy
    have sn := signs_ne ss
    have kn : ks ≠ [] := hks.resolve_right (by intro z; cases z)
    refine ⟨_, h, by simp, by simp, fun v hv => ?_, ?_, fun H' p' vs hA hp' t => ?_⟩
    · rcases List.mem_cons.mp hv with rfl | hv
      · exact fun z => absurd z xn
      · rcases List.mem_cons.mp hv with rfl | hv
        · exact fun z => absurd z sn
        · rcases List.mem_cons.mp hv with rfl | hv
          · exact fun _ => kn
          · rw [List.mem_singleton.mp hv]; exact fun _ => kn
    · show cst (.str x) + (cst (.str s) + (cst (.str "") + (cst (.str "") + 0))) ≤ 5
      rw [cst_str xn, cst_str sn]; decide +kernel
    · obtain ⟨v1, v2, v3, v4, rfl⟩ := vs4 hA.len
      have e1 := fil_str (hA.at_ 0 _ _ rfl rfl) xn
      have e2 := fil_str (hA.at_ 1 _ _ rfl rfl) sn
      obtain ⟨z3, m3, e3⟩ := fil_nil (hA.at_ 2 _ _ rfl rfl)
      obtain ⟨z4, m4, e4⟩ := fil_nil (hA.at_ 3 _ _ rfl rfl)
      subst e1 e2 e3 e4
      exact ⟨.op x s z3 z4, ⟨p', rfl, hp'⟩, z3, z4, rfl, m3, m4⟩
  | call x k as =>
    obtain ⟨p', q, e, h, hq⟩ := hra
    cases e
    obtain ⟨xy, c, hc, rfl⟩ := ro
    have xn := yne x xy
    have kn : ks ≠ [] := hks.resolve_right (by intro z; cases z)
    have c4 := cs4 c (List.mem_of_getElem? hc)
    refine ⟨_, h, by simp, by simp, fun v hv => ?_, ?_, fun H' p' vs hA hp' t => ?_⟩
    · rcases List.mem_cons.mp hv with rfl | hv
      · exact fun z => absurd z xn
      · rcases List.mem_cons.mp hv with rfl | hv
        · exact trivial
        · rw [List.mem_singleton.mp hv]; exact ⟨_, hq, by rw [List.length_replicate]; exact c4, kn⟩
    · show cst (.str x) + (0 + (4 + 0)) ≤ 5
      rw [cst_str xn]; decide
    · obtain ⟨v1, v2, v3, rfl⟩ := vs3 hA.len
      have e1 := fil_str (hA.at_ 0 _ _ rfl rfl) xn
      have e2 : v2 = .int (k : Nat) := hA.at_ 1 _ _ rfl rfl
      obtain ⟨as', bs, q', hq', e3, h3, hl, hm⟩ := (show Fil ks H' v3 (.ref q) from hA.at_ 2 _ _ rfl rfl)
      subst e1 e2 e3
      have := t _ _ hq
      rw [hq'] at this
      have e := map_str_len (HO.tup.inj (Option.some.inj this))
      exact ⟨.call x k bs, ⟨p', q', rfl, hp', h3⟩, bs, rfl, hl.trans e, hm⟩
  | say a =>
    obtain ⟨p', e, h⟩ := hra
    cases e
    have ro : a = "" := ro
    subst ro
    have kn : ks ≠ [] := hks.resolve_right (by intro z; cases z)
    refine ⟨_, h, by simp, by simp, fun v hv => ?_, ?_, fun H' p' vs hA hp' t => ?_⟩
    · rw [List.mem_singleton.mp hv]; exact fun _ => kn
    · show cst (.str "") + 0 ≤ 5
      decide +kernel
    · obtain ⟨v1, rfl⟩ := vs1 hA.len
      obtain ⟨z, m, e⟩ := fil_nil (hA.at_ 0 _ _ rfl rfl)
      subst e
      exact ⟨.say z, ⟨p', rfl, hp'⟩, z, rfl, m⟩
  | jump to =>
    obtain ⟨p', e, h⟩ := hra
    cases e
    refine ⟨_, h, by simp, by simp, fun v hv => ?_, ?_, fun H' p' vs hA hp' t => ?_⟩
    · rw [List.mem_singleton.mp hv]; exact trivial
    · show 0 + 0 ≤ 5
      decide
    · obtain ⟨v1, rfl⟩ := vs1 hA.len
      have e : v1 = .int (to : Nat) := hA.at_ 0 _ _ rfl rfl
      subst e
      exact ⟨.jump to, ⟨p', rfl, hp'⟩, rfl⟩
  | test a to =>
    obtain ⟨p', e, h⟩ := hra
    cases e
    obtain ⟨ro, _⟩ : a = "" ∧ _ := ro
    subst ro
    have kn : ks ≠ [] := hks.resolve_right (by intro z; cases z)
    refine ⟨_, h, by simp, by simp, fun v hv => ?_, ?_, fun H' p' vs hA hp' t => ?_⟩
    · rcases List.mem_cons.mp hv with rfl | hv
      · exact fun _ => kn
      · rw [List.mem_singleton.mp hv]; exact trivial
    · show cst (.str "") + (0 + 0) ≤ 5
      decide +kernel
    · obtain ⟨v1, v2, rfl⟩ := vs2 hA.len
      obtain ⟨z, m, e⟩ := fil_nil (hA.at_ 0 _ _ rfl rfl)
      have e2 : v2 = .int (to : Nat) := hA.at_ 1 _ _ rfl rfl
      subst e e2
      exact ⟨.test z to, ⟨p', rfl, hp'⟩, z, rfl, m⟩
  | give a =>
    obtain ⟨p', e, h⟩ := hra
    cases e
    have ro : a = "" := ro
    subst ro
    have kn : ks ≠ [] := hks.resolve_right (by intro z; cases z)
    refine ⟨_, h, by simp, by simp, fun v hv => ?_, ?_, fun H' p' vs hA hp' t => ?_⟩
    · rw [List.mem_singleton.mp hv]; exact fun _ => kn
    · show cst (.str "") + 0 ≤ 5
      decide +kernel
    · obtain ⟨v1, rfl⟩ := vs1 hA.len
      obtain ⟨z, m, e⟩ := fil_nil (hA.at_ 0 _ _ rfl rfl)
      subst e
      exact ⟨.give z, ⟨p', rfl, hp'⟩, z, rfl, m⟩
theorem r_filled {K : PySem.W.Frag} {vs : List V} {H : Hp} {Q : VK} {E : XK} (h : sp_filled K vs H Q E) : t_filled K { nx := fun _ H' => Q .non H', rt := Q } (start N_filled vs) H := by
  obtain ⟨st, rl, kl, k, rvs, refs, rs, kss, ys, cs, rfl, S, hk, hrl, hA, hOk, yne, cs4, hkl, hT, klen, k100, kne, rst, nrl, nkl, q⟩ := h
  obtain ⟨ys0, hst⟩ := S.lst
  refine ⟨(by show 0 ≤ sizeLine; decide), fun fd hfd => ?_⟩
  have nf : fd ≠ st := fun z => by rw [z, hst] at hfd; cases hfd
  have s1 : Same H (upd H fd (.lst [])) := (Same.refl H).new hfd
  have g1 : (upd H fd (.lst [])) fd = some (.lst []) := upd_same
  show t_filled_7 K _ [some (.ref st), some (.ref rl), some (.ref kl), some (.ref fd), none, none, none, none] (upd H fd (.lst []))
  generalize upd H fd (.lst []) = H1 at s1 g1 ⊢
  refine ⟨_, rfl, rl, rfl, ⟨_, SqL.of (s1 _ _ hrl)⟩, for_enum (xs := rvs) (fun i σ' H' => ∃ (fs : List V) (rs' : List BRow) (k' : Nat) (o4 o5 o6 o7 : Option V), σ' = [some (.ref st), some (.ref rl), some (.ref kl), some (.ref fd), o4, o5, o6, o7] ∧ H' fd = some (.lst fs) ∧ AllAt (RowAt H') fs rs' ∧ rs'.length = i ∧
    (∀ (j : Nat) ks r r', kss[j]? = some ks → rs[j]? = some r → rs'[j]? = some r' → FillOf ks r r') ∧ Stt K H' st k' ∧ k' ≤ k + 5 * i ∧ But st H H') ?_ ?_ ?_ ?_⟩
  · exact ⟨[], [], k, none, none, none, none, rfl, g1, .nil, rfl, fun j ks r r' _ _ z => by simp at z, S.same s1, by lia, s1.but⟩
  · rintro i σ' H' _ ⟨_, _, _, _, _, _, _, _, _, _, _, _, _, _, B⟩
    exact SqL.of (B rl _ nrl hrl)
  · rintro i x σ' H' tp hx htp ⟨fs, rs', k', o4, o5, o6, o7, rfl, hfs, hR, rlen, hF, S', hk', B'⟩
    obtain ⟨r, hr, hra⟩ := hA.of_v hx
    obtain ⟨p, xs, rfl, _⟩ := hra.ref
    have il : i < rs.length := (List.getElem?_eq_some_iff.mp hr).1
    have few := hOk.few
    obtain ⟨v, ks, e1, e2, a, rfl, ha⟩ := hT.get (i := i) (by rw [klen]; exact il)
    have na : a ≠ st := fun z => rst (.ref a) (List.mem_of_getElem? e1) (by rw [z])
    have B2 : But st H (upd H' tp (.tup [.int (i : Nat), .ref p])) := B'.new htp
    have s2 : Same H' (upd H' tp (.tup [.int (i : Nat), .ref p])) := (Same.refl H').new htp
    have g2 : (upd H' tp (.tup [.int (i : Nat), .ref p])) tp = some (.tup [.int (i : Nat), .ref p]) := upd_same
    generalize upd H' tp (.tup [.int (i : Nat), .ref p]) = H2 at B2 s2 g2 ⊢
    refine ⟨tp, _, rfl, SqT.of g2, rfl, _, _, rfl, _, _, rfl, rfl, ?_⟩
    show t_filled_6 K _ [some (.ref st), some (.ref rl), some (.ref kl), some (.ref fd), some (.int (i : Nat)), some (.ref p), o6, o7] H2
    have T2 : Tp H H2 := .of_but B2 hst
    obtain ⟨rest, h1, h2, h3, h4, h5, h6⟩ := fil_row (ks := ks) (hra.mono T2) (hOk.rough r (List.mem_of_getElem? hr)) yne cs4 (kne i ks r e2 hr)
    have f2 := s2 _ _ hfs
    have S2 := S'.same s2
    obtain ⟨ys2, hst2⟩ := S2.lst
    refine fl_row (B2 kl _ nkl hkl) e1 (B2 a _ na ha) (k100 i ks e2) S2 (by lia) na nkl h1 h2 h3 h4 h5 f2 (by rw [hR.len, rlen]; lia) nf fun p6 p7 p' vs k3 H3 f3 g3 hA3 S3 l3 B3 => ?_
    have T3 : Tp H2 H3 := B3.tp hst2 f2
    obtain ⟨r', hr', hf'⟩ := h6 H3 p' vs hA3 g3 T3
    refine ⟨fs ++ [.ref p'], rs' ++ [r'], k3, _, _, _, _, rfl, f3, ((hR.imp fun _ _ z => (z.mono (.of_same s2)).mono T3)).snoc hr', by simp [rlen], fun j ks' r1 r2 a1 a2 a3 => ?_, S3, by lia, ?_⟩
    · by_cases c : j < rs'.length
      · rw [List.getElem?_append_left c] at a3
        exact hF j ks' r1 r2 a1 a2 a3
      · have c2 : j = i := by
          have := (List.getElem?_eq_some_iff.mp a3).1
          rw [List.length_append, List.length_singleton] at this
          lia
        subst c2
        rw [List.getElem?_append_right (by lia), rlen, Nat.sub_self] at a3
        cases a3
        rw [e2] at a1; cases a1
        rw [hr] at a2; cases a2
        exact hf'
    · exact fun c u n h => by
        have hc := B2 c u n h
        exact B3 c u n (ne_of_none h hfd) hc
  · rintro σ' H' ⟨fs, rs', k', o4, o5, o6, o7, rfl, hfs, hR, rlen, hF, S', hk', B'⟩
    rw [hA.len] at rlen hk'
    refine ⟨_, rfl, fd, _, rfl, .inl ⟨SqL.of hfs, fun l hl => ?_⟩⟩
    exact q l fs rs' k' _ upd_same (hR.imp fun _ _ z => z.mono ((Tp.refl H').new hl)) rlen hF (S'.new hl) hk' (B'.new hl)
end Bg
end
section
set_option Elab.async false
set_option linter.all false
set_option maxRecDepth 100000
set_option maxHeartbeats 4000000
namespace Bg
open PySem L2
theorem txts_ne {K : PySem.W.Frag} {H : Hp} {st : Addr} {k : Nat} {v : V} {ks : List Str} (S : Stt K H st k) (h : TxtsAt H v ks) : v ≠ .ref st := by
  rintro rfl
  obtain ⟨a, e, h⟩ := h
  cases e
  obtain ⟨scr, ns, c, hs, _⟩ := S
  rw [h] at hs
  cases ks with
  | nil => cases hs
  | cons y r => cases hs
theorem fill_leads {ks : List Str} {r r' : BRow} (h : FillOf ks r r') (n : Nat) : leadsL n r' = leadsL n r := by
  cases r with
  | num x z => have h : r' = .num x z := h; subst h; rfl
  | op x s a b => obtain ⟨_, _, rfl, _⟩ := h; rfl
  | call x k as => obtain ⟨_, rfl, _⟩ := h; rfl
  | say a => obtain ⟨_, rfl, _⟩ := h; rfl
  | jump t => have h : r' = .jump t := h; subst h; rfl
  | test a t => obtain ⟨_, rfl, _⟩ := h; rfl
  | give a => obtain ⟨_, rfl, _⟩ := h; rfl
theorem fill_sets {ks : List Str} {r r' : BRow} (h : FillOf ks r r') : setsOf r' = setsOf r := by
  cases r with
  | num x z => have h : r' = .num x z := h; subst h; rfl
  | op x s a b => obtain ⟨_, _, rfl, _⟩ := h; rfl
  | call x k as => obtain ⟨_, rfl, _⟩ := h; rfl
  | say a => obtain ⟨_, rfl, _⟩ := h; rfl
  | jump t => have h : r' = .jump t := h; subst h; rfl
  | test a t => obtain ⟨_, rfl, _⟩ := h; rfl
  | give a => obtain ⟨_, rfl, _⟩ := h; rfl
theorem fill_end {ks : List Str} {r r' : BRow} (h : FillOf ks r r') : isEnd r' = isEnd r := by
  cases r with
  | num x z => have h : r' = .num x z := h; subst h; rfl
  | op x s a b => obtain ⟨_, _, rfl, _⟩ := h; rfl
  | call x k as => obtain ⟨_, rfl, _⟩ := h; rfl
  | say a => obtain ⟨_, rfl, _⟩ := h; rfl
  | jump t => have h : r' = .jump t := h; subst h; rfl
  | test a t => obtain ⟨_, rfl, _⟩ := h; rfl
  | give a => obtain ⟨_, rfl, _⟩ := h; rfl
theorem fill_jump {ks : List Str} {r r' : BRow} (h : FillOf ks r r') : isJump r' = isJump r := by
  cases r with
  | num x z => have h : r' = .num x z := h; subst h; rfl
  | op x s a b => obtain ⟨_, _, rfl, _⟩ := h; rfl
  | call x k as => obtain ⟨_, rfl, _⟩ := h; rfl
  | say a => obtain ⟨_, rfl, _⟩ := h; rfl
  | jump t => have h : r' = .jump t := h; subst h; rfl
  | test a t => obtain ⟨_, rfl, _⟩ := h; rfl
  | give a => obtain ⟨_, rfl, _⟩ := h; rfl
theorem fill_reads {ks : List Str} {r r' : BRow} (h : FillOf ks r r') : ∀ y ∈ readsOf r', y ∈ ks := by
  cases r with
  | num x z => have h : r' = .num x z := h; subst h; intro y hy; cases hy
  | op x s a b =>
    obtain ⟨c, d, rfl, h1, h2⟩ := h
    intro y hy
    rcases List.mem_cons.mp hy with rfl | hy
    · exact h1
    · rw [List.mem_singleton.mp hy]; exact h2
  | call x k as => obtain ⟨_, rfl, _, h⟩ := h; exact h
  | say a => obtain ⟨_, rfl, h⟩ := h; intro y hy; rw [List.mem_singleton.mp hy]; exact h
  | jump t => have h : r' = .jump t := h; subst h; intro y hy; cases hy
  | test a t => obtain ⟨_, rfl, h⟩ := h; intro y hy; rw [List.mem_singleton.mp hy]; exact h
  | give a => obtain ⟨_, rfl, h⟩ := h; intro y hy; rw [List.mem_singleton.mp hy]; exact h
theorem fill_ok {ys ks : List Str} {cs : List Nat} {n : Nat} {r r' : BRow} (ro : Rough ys cs n r) (hk : ∀ y ∈ ks, y ∈ ys) (h : FillOf ks r r') : RowOk ys cs n r' := by
  cases r with
  | num x z => have h : r' = .num x z := h; subst h; exact ro
  | op x s a b => obtain ⟨c, d, rfl, h1, h2⟩ := h; exact ⟨ro.1, ro.2.1, hk _ h1, hk _ h2⟩
  | call x k as =>
    obtain ⟨bs, rfl, hl, h⟩ := h
    obtain ⟨r1, c, r2, r3⟩ := ro
    refine ⟨r1, ?_, fun a ha => hk _ (h a ha)⟩
    rw [hl, r3, List.length_replicate]; exact r2
  | say a => obtain ⟨_, rfl, h⟩ := h; exact hk _ h
  | jump t => have h : r' = .jump t := h; subst h; exact ro
  | test a t => obtain ⟨_, rfl, h⟩ := h; exact ⟨hk _ h, ro.2⟩
  | give a => obtain ⟨_, rfl, h⟩ := h; exact hk _ h
structure Alike (rs rs' : List BRow) : Prop where
  len : rs'.length = rs.length
  fill : ∀ (i : Nat) r r', rs[i]? = some r → rs'[i]? = some r' → ∃ ks, FillOf ks r r'
theorem Alike.get {rs rs' : List BRow} (h : Alike rs rs') {i : Nat} {r' : BRow} (e : rs'[i]? = some r') : ∃ r ks, rs[i]? = some r ∧ FillOf ks r r' := by
  have hi : i < rs.length := by rw [← h.len]; exact (List.getElem?_eq_some_iff.mp e).1
  obtain ⟨ks, f⟩ := h.fill i _ _ (List.getElem?_eq_getElem hi) e
  exact ⟨_, ks, List.getElem?_eq_getElem hi, f⟩
theorem Alike.stp {rs rs' : List BRow} (h : Alike rs rs') (n : Nat) : stp rs' n = stp rs n := by
  unfold Bg.stp
  cases e : rs'[n]? with
  | none =>
    have : rs[n]? = none := by rw [List.getElem?_eq_none_iff] at e ⊢; rw [← h.len]; exact e
    rw [this]
  | some r' =>
    obtain ⟨r, ks, e1, f⟩ := h.get e
    rw [e1]
    cases r with
    | num x z => have f : r' = .num x z := f; subst f; rfl
    | op x s a b => obtain ⟨_, _, rfl, _⟩ := f; rfl
    | call x k as => obtain ⟨_, rfl, _⟩ := f; rfl
    | say a => obtain ⟨_, rfl, _⟩ := f; rfl
    | jump t => have f : r' = .jump t := f; subst f; rfl
    | test a t => obtain ⟨_, rfl, _⟩ := f; rfl
    | give a => obtain ⟨_, rfl, _⟩ := f; rfl
theorem Alike.runJ {rs rs' : List BRow} (h : Alike rs rs') : ∀ (k n : Nat), runJ rs' k n = runJ rs k n
  | 0, _ => rfl
  | k + 1, n => by
    show Bg.runJ rs' k (Bg.stp rs' n) = Bg.runJ rs k (Bg.stp rs n)
    rw [h.stp]; exact Alike.runJ h k _
theorem Alike.ring {rs rs' : List BRow} (h : Alike rs rs') (q : NoRing rs) : NoRing rs' := by
  intro n hn r' e
  rw [h.len] at hn
  rw [h.len, h.runJ] at e
  obtain ⟨r, ks, e1, f⟩ := h.get e
  rw [fill_jump f]; exact q n hn r e1
theorem r_part {K : PySem.W.Frag} {vs : List V} {H : Hp} {Q : VK} {E : XK} (h : sp_part K vs H Q E) : t_part K { nx := fun _ H' => Q .non H', rt := Q } (start N_part vs) H := by
  obtain ⟨st, nm, pr, cn, wd, m, k, ys, ps, cs, rfl, S, hk, hnm, ysne, ysl, yne, hpr, psl, pnd, pin, hcn, csne, csl, cs4, m1, m50, nnm, npr, ncn, q⟩ := h
  refine ⟨_, rfl, _, _, rfl, .inl ⟨_, SqL.of hpr, rfl⟩, .inl ⟨rfl, .inr ⟨_, rfl, .inl ⟨_, _, rfl, rfl, _, rfl, _, rfl, st, _, k, rfl, S, by lia, by lia, by lia, fun d H1 d0 d1 S1 B1 => .inl ⟨_, _, rfl, rfl, _, _, rfl, ?_⟩⟩⟩⟩⟩
  rw [List.length_map]
  obtain ⟨n, hn, n1, n51, nm1, n2⟩ : ∃ n : Nat, (if 1 + d > 1 + (if decide (V.int ((ps.length : Nat) : Int) = V.int 0) = true then 1 else 0) then 1 + d else 1 + (if decide (V.int ((ps.length : Nat) : Int) = V.int 0) = true then 1 else 0)) = (n : Int) ∧ 1 ≤ n ∧ n ≤ 52 ∧ n ≤ m + 1 ∧ (ps = [] → 2 ≤ n) := by
    by_cases c : ps = []
    · have e : decide (V.int ((ps.length : Nat) : Int) = V.int 0) = true := by rw [c]; rfl
      rw [e, if_pos rfl]
      by_cases c2 : 1 + d > 1 + 1
      · rw [if_pos c2]; exact ⟨(1 + d).toNat, by lia, by lia, by lia, by lia, fun _ => by lia⟩
      · rw [if_neg c2]; exact ⟨2, rfl, by lia, by lia, by lia, fun _ => by lia⟩
    · have e : decide (V.int ((ps.length : Nat) : Int) = V.int 0) = false := decide_eq_false fun z => c (List.length_eq_zero_iff.mp (by injection z with z; lia))
      rw [e, if_neg Bool.false_ne_true]
      by_cases c2 : 1 + d > 1 + 0
      · rw [if_pos c2]; exact ⟨(1 + d).toNat, by lia, by lia, by lia, by lia, fun z => absurd z c⟩
      · rw [if_neg c2]; exact ⟨1, rfl, by lia, by lia, by lia, fun z => absurd z c⟩
  rw [hn]
  show t_part_4 K _ [some (.ref st), some (.str wd), some (.ref nm), some (.ref pr), some (.ref cn), some (.int (m : Nat)), some (.int (n : Nat)), none, none] H1
  refine ⟨_, rfl, _, rfl, by lia, by lia, fun L hL => ?_⟩
  obtain ⟨ys1, hs1⟩ := S1.lst
  have nL : L ≠ st := fun z => by rw [z, hs1] at hL; cases hL
  have HL : H L = none := B1.free nL hL
  refine comp_range (fun i σ' H' => ∃ (rvs : List V) (rs : List BRow) (k' : Nat) (o : Option V), σ' = [some (.ref st), some (.str wd), some (.ref nm), some (.ref pr), some (.ref cn), some (.int (m : Nat)), some (.int (n : Nat)), none, none, o] ∧
    H' L = some (.lst rvs) ∧ AllAt (RowAt H') rvs rs ∧ rs.length = i ∧ (∀ r ∈ rs, Rough ys cs n r) ∧ Stt K H' st k' ∧ k' ≤ k + 1 + 8 * i ∧ But st H H') ?_ ?_ ?_
  · exact ⟨[], [], k + 1, none, rfl, upd_same, .nil, rfl, by simp, S1.new hL, by lia, B1.new hL⟩
  · rintro i σ' H' hi ⟨rvs, rs, k', o, rfl, hrl, hA, rlen, ro, S', hk', B'⟩
    have hi : i < n := by simpa using hi
    refine app_yes ⟨_, rfl, _, rfl, _, rfl, _, rfl, st, nm, cn, n, k', ys, cs, rfl, S', by lia, B' nm _ nnm hnm, ysne, ysl, n1, by lia, B' cn _ ncn hcn, csne, csl, cs4, nnm, ncn, fun v r k2 H2 hv hr S2 l2 B2 => ?_⟩
    have h2 := B2 L _ nL hrl
    have t2 : Tp H' H2 := by obtain ⟨_, e⟩ := S'.lst; exact .of_but B2 e
    have t3 : Tp H2 (upd H2 L (.lst (rvs ++ [v]))) := (Tp.refl H2).lst h2
    refine ⟨_, h2, smallL (by rw [hA.len]; lia), rvs ++ [v], rs ++ [r], k2, _, rfl, upd_same, (hA.imp fun _ _ z => (z.mono t2).mono t3).snoc (hv.mono t3), by simp [rlen], fun r' hr' => ?_, S2.mono .upd_at h2 (Ne.symm nL), by lia, ?_⟩
    · rcases List.mem_append.mp hr' with z | z
      · exact ro r' z
      · rw [List.mem_singleton.mp z]; exact hr
    · exact But.past (B'.trans B2) HL .upd_at
  · rintro σ' H2 ⟨rvs, rs, k2, o, _, hrl, hA, rlen, ro, S2, hk2, B2⟩
    have rlen : rs.length = n := by simpa using rlen
    have hk2 : k2 ≤ k + 1 + 8 * n := by simpa using hk2
    have nnL : nm ≠ L := ne_of_none hnm HL
    have npL : pr ≠ L := ne_of_none hpr HL
    have Ok : RowsOk ys cs rs := ⟨fun z => by rw [z] at rlen; simp at rlen; lia, by lia, by rw [rlen]; exact ro⟩
    show t_part_3 K _ [some (.ref st), some (.str wd), some (.ref nm), some (.ref pr), some (.ref cn), some (.int (m : Nat)), some (.int (n : Nat)), some (.ref L), none] H2
    have hpr2 := B2 pr _ npr hpr
    have ebare : decide (V.int (((ps.map V.str).length : Nat) : Int) = V.int 0) = true → ps = [] := fun z => by
      have z' := of_decide_eq_true z
      rw [List.length_map] at z'
      injection z' with z'
      exact List.length_eq_zero_iff.mp (by lia)
    have ebare' : ps = [] → decide (V.int (((ps.map V.str).length : Nat) : Int) = V.int 0) = true := fun z => by rw [z]; rfl
    refine ⟨_, rfl, _, rfl, _, rfl, _, _, rfl, .inl ⟨_, SqL.of hpr2, rfl⟩, .inl ⟨rfl, L, nm, _, rvs, rs, ys, Rough ys cs n, rfl, hrl, hA, Ok.pos, Ok.few, ro, rfl, rfl, fun t ht => by rw [rlen]; exact ht, B2 nm _ nnm hnm, ysne, fun y hy _ => ⟨hy, by decide, by decide⟩, nnL, fun z => by rw [rlen]; exact n2 (ebare z), fun rvs' rs' H3 h3 hA3 len3 hR3 hE3 hN3 hJ3 B3 => ?_⟩⟩
    have n3 : rs'.length = n := len3.trans rlen
    have Ok3 : RowsOk ys cs rs' := ⟨fun z => by rw [z] at n3; simp at n3; lia, by lia, by rw [n3]; exact hR3⟩
    have S3 : Stt K H3 st k2 := S2.mono B3 hrl (Ne.symm nL)
    have BH3 : But st H H3 := But.past B2 HL B3
    show t_part_2 K _ [some (.ref st), some (.str wd), some (.ref nm), some (.ref pr), some (.ref cn), some (.int (m : Nat)), some (.int (n : Nat)), some (.ref L), none] H3
    refine ⟨_, rfl, _, rfl, _, rfl, L, nm, pr, rvs', rs', ys, ps, cs, rfl, h3, hA3, Ok3, hE3, BH3 nm _ nnm hnm, ysl, BH3 pr _ npr hpr, psl, pin, fun z => hN3 (ebare' z), fun kl refs kss H4 hkl h4 hT lk hK hKn s4 => ?_⟩
    have S4 := S3.same s4
    have BH4 : But st H H4 := BH3.trans s4.but
    have nkl : kl ≠ st := fun z => by obtain ⟨_, e⟩ := S3.lst; rw [z, e] at hkl; cases hkl
    show t_part_1 K _ [some (.ref st), some (.str wd), some (.ref nm), some (.ref pr), some (.ref cn), some (.int (m : Nat)), some (.int (n : Nat)), some (.ref L), some (.ref kl)] H4
    refine ⟨_, rfl, _, rfl, pr, _, rfl, .inl ⟨SqL.of (BH4 pr _ npr hpr), fun t ht => ?_⟩⟩
    have s5 : Same H4 (upd H4 t (.tup (ps.map V.str))) := (Same.refl H4).new ht
    have g5 : (upd H4 t (.tup (ps.map V.str))) t = some (.tup (ps.map V.str)) := upd_same
    generalize upd H4 t (.tup (ps.map V.str)) = H5 at s5 g5 ⊢
    have S5 := S4.same s5
    have hT5 : AllAt (TxtsAt H5) refs kss := hT.imp fun _ _ ⟨a, e, h⟩ => ⟨a, e, s5 _ _ h⟩
    refine ⟨_, rfl, _, rfl, _, rfl, st, L, kl, k2, rvs', refs, rs', kss, ys, cs, rfl, S5, by lia, s5 _ _ (s4 _ _ h3), (hA3.imp fun _ _ z => (z.mono (.of_same s4)).mono (.of_same s5)), Ok3, yne, cs4, s5 _ _ h4, hT5, lk, fun i ks e => (hK i ks e).1, fun i ks r e1 e2 => ?_, fun a ha => ?_, nL, nkl, fun p rvs6 rs6 k6 H6 h6 hA6 len6 hF S6 l6 B6 => ?_⟩
    · rcases (hK i ks e1).2.2 with z | ⟨z1, z2⟩
      · exact .inl z
      · subst z1
        have := hN3 (ebare' z2)
        rw [List.head?_eq_getElem?, e2] at this
        exact .inr (Option.some.inj this)
    · obtain ⟨i, hi, e⟩ := List.mem_iff_getElem.mp ha
      obtain ⟨ks, _, z⟩ := hT5.of_v (i := i) (v := a) (by rw [List.getElem?_eq_getElem hi, e])
      exact txts_ne S5 z
    refine ⟨(by show 3 ≤ sizeLine; decide), fun f hf => ?_⟩
    obtain ⟨_, e5⟩ := S5.lst
    have t6 : Tp H5 H6 := .of_but B6 e5
    have t7 : Tp H6 (upd H6 f (.tup [.str wd, .ref t, .ref p])) := (Tp.refl H6).new hf
    have ksAt : ∀ (i : Nat) r, rs'[i]? = some r → ∃ ks, kss[i]? = some ks := fun i r e => ⟨_, List.getElem?_eq_getElem (by rw [lk]; exact (List.getElem?_eq_some_iff.mp e).1)⟩
    have al : Alike rs' rs6 := ⟨len6, fun i r r' e1 e2 => by
      obtain ⟨ks, ek⟩ := ksAt i r e1
      exact ⟨ks, hF i ks r r' ek e1 e2⟩⟩
    have both : ∀ (i : Nat) r', rs6[i]? = some r' → ∃ r ks, rs'[i]? = some r ∧ kss[i]? = some ks ∧ FillOf ks r r' := fun i r' e => by
      obtain ⟨r, _, e1, _⟩ := al.get e
      obtain ⟨ks, ek⟩ := ksAt i r e1
      exact ⟨r, ks, e1, ek, hF i ks r r' ek e1 e⟩
    have ok : PartOk ys cs ⟨wd, ps, rs6⟩ := by
      refine ⟨pnd, pin, fun z => ?_, ?_, fun r' hr' => ?_, ?_, al.ring hJ3, kss, ?_, ⟨hKn.zero, fun i m r' ks km e hm ek em y hy => ?_⟩, fun i r' ks e ek => ?_⟩
      · have z' : rs6 = [] := z
        rw [z', n3] at len6; simp at len6; lia
      · show rs6.length ≤ 60
        lia
      · show RowOk ys cs rs6.length r'
        obtain ⟨i, hi, e⟩ := List.mem_iff_getElem.mp hr'
        obtain ⟨r, ks, e1, e2, f⟩ := both i r' (by rw [← e]; exact List.getElem?_eq_getElem hi)
        rw [len6, n3]
        exact fill_ok (hR3 r (List.mem_of_getElem? e1)) (hK i ks e2).2.1 f
      · show rs6.getLast?.map isEnd = some true
        have hl : rs6.length - 1 < rs6.length := by lia
        obtain ⟨r, ks, e1, e2, f⟩ := both (rs6.length - 1) _ (List.getElem?_eq_getElem hl)
        rw [List.getLast?_eq_getElem?, List.getElem?_eq_getElem hl, Option.map_some, fill_end f]
        rw [List.getLast?_eq_getElem?, ← len6, e1, Option.map_some] at hE3
        exact hE3
      · show kss.length = rs6.length
        rw [lk, len6]
      · obtain ⟨r, ks', e1, e2, f⟩ := both i r' e
        rw [fill_leads f] at hm
        rw [fill_sets f]
        exact hKn.on i m r ks km e1 hm ek em y hy
      · obtain ⟨r, ks', e1, e2, f⟩ := both i r' e
        rw [ek] at e2; cases e2
        exact fill_reads f
    refine q _ ⟨wd, ps, rs6⟩ k6 _ ⟨f, t, p, rvs6, rfl, upd_same, t7 _ _ (t6 _ _ g5), t7 _ _ h6, hA6.imp fun _ _ z => z.mono t7⟩ rfl rfl ok (by show rs6.length ≤ m + 1; lia) (S6.new hf) (by lia) ?_
    exact ((BH4.trans s5.but).trans B6).new hf
end Bg
end
section
set_option Elab.async false
set_option linter.all false
set_option maxRecDepth 100000
set_option maxHeartbeats 4000000
namespace Bg
open PySem L2
inductive Way (rs : List BRow) (un : Option Str) : Nat → Prop where
  | zero : Way rs un 0
  | step {n m : Nat} {r : BRow} : Way rs un n → rs[n]? = some r → (∀ y, un = some y → setsOf r ≠ .str y) → m ∈ leadsL n r → Way rs un m
structure RowsGood (rs : List BRow) : Prop where
  pos : 0 < rs.length
  few : rs.length < 64
  inr : ∀ (n m : Nat) r, rs[n]? = some r → m ∈ leadsL n r → m < rs.length
  ring : NoRing rs
theorem Way.lt {rs : List BRow} {un : Option Str} (g : RowsGood rs) {m : Nat} (h : Way rs un m) : m < rs.length := by
  cases h with
  | zero => exact g.pos
  | step _ e _ hm => exact g.inr _ _ _ e hm
theorem leads_in {rs : List BRow} (hg : ∀ r ∈ rs, ∀ t : Nat, goalOf r = .int (t : Nat) → t < rs.length) (hE : rs.getLast?.map isEnd = some true) : ∀ (n m : Nat) r, rs[n]? = some r → m ∈ leadsL n r → m < rs.length := by
  intro i m r hr mem
  have hi : i < rs.length := (List.getElem?_eq_some_iff.mp hr).1
  have nx : isEnd r = false → i + 1 < rs.length := fun he => by
    by_cases c : i + 1 < rs.length
    · exact c
    · have ei : i = rs.length - 1 := by lia
      rw [List.getLast?_eq_getElem?, ← ei, hr, Option.map_some, he] at hE
      cases hE
  have hm := hg r (List.mem_of_getElem? hr)
  cases r with
  | jump to => rw [List.mem_singleton.mp mem]; exact hm to rfl
  | test a to =>
    rcases List.mem_cons.mp mem with e | e
    · rw [e]; exact nx rfl
    · rw [List.mem_singleton.mp e]; exact hm to rfl
  | give a => cases mem
  | num x z => rw [List.mem_singleton.mp mem]; exact nx rfl
  | op x s a b => rw [List.mem_singleton.mp mem]; exact nx rfl
  | call x k as => rw [List.mem_singleton.mp mem]; exact nx rfl
  | say a => rw [List.mem_singleton.mp mem]; exact nx rfl
theorem PartOk.good {ys : List Str} {cs : List Nat} {b : BPart} (h : PartOk ys cs b) : RowsGood b.rows := by
  have := h.few
  refine ⟨List.length_pos_iff.mpr h.pos, by lia, leads_in (fun r hr t e => ?_) h.last, h.ring⟩
  have ro := h.rows r hr
  cases r with
  | jump to =>
    injection e with e
    have : to = t := by lia
    subst this; exact ro
  | test a to =>
    injection e with e
    have : to = t := by lia
    subst this; exact ro.2
  | _ => cases e
theorem runJ_add (rs : List BRow) : ∀ (j k n : Nat), runJ rs (j + k) n = runJ rs j (runJ rs k n)
  | j, 0, n => rfl
  | j, k + 1, n => by
    show runJ rs (j + k) (stp rs n) = runJ rs j (runJ rs k (stp rs n))
    exact runJ_add rs j k (stp rs n)
theorem stp_lt {rs : List BRow} (g : RowsGood rs) {n : Nat} (h : n < rs.length) : stp rs n < rs.length := by
  unfold stp
  rw [List.getElem?_eq_getElem h]
  cases e : rs[n] with
  | jump t => exact g.inr n t (.jump t) (by rw [List.getElem?_eq_getElem h, e]) (List.mem_singleton.mpr rfl)
  | _ => exact h
theorem runJ_lt {rs : List BRow} (g : RowsGood rs) : ∀ (k : Nat) {n : Nat}, n < rs.length → runJ rs k n < rs.length
  | 0, _, h => h
  | k + 1, _, h => runJ_lt g k (stp_lt g h)
theorem runJ_end {rs : List BRow} {k n : Nat} (hk : k ≤ rs.length) (h : ∀ r, rs[runJ rs k n]? = some r → isJump r = false) : runJ rs rs.length n = runJ rs k n := by
  have e : rs.length = (rs.length - k) + k := by lia
  rw [e, runJ_add]
  exact runJ_stop h _
theorem nodup_lt : ∀ {n : Nat} {l : List Nat}, l.Nodup → (∀ x ∈ l, x < n) → l.length ≤ n
  | 0, l, _, h => by
    cases l with
    | nil => exact Nat.le_refl _
    | cons a r => exact absurd (h a List.mem_cons_self) (Nat.not_lt_zero _)
  | n + 1, l, nd, h => by
    by_cases c : n ∈ l
    · have h1 := nodup_lt (n := n) (l := l.erase n) (nd.erase n) fun x hx => by
        have := (nd.mem_erase_iff).mp hx
        have := h x this.2
        lia
      rw [List.length_erase_of_mem c] at h1
      lia
    · have h1 := nodup_lt (n := n) nd fun x hx => by
        have := h x hx
        have : x ≠ n := fun z => c (z ▸ hx)
        lia
      lia
theorem lt_of_le_nodup : ∀ {l : List Nat}, l.Pairwise (· ≤ ·) → l.Nodup → l.Pairwise (· < ·)
  | [], _, _ => .nil
  | a :: r, h, nd => by
    rw [List.pairwise_cons] at h ⊢
    rw [List.nodup_cons] at nd
    refine ⟨fun x hx => ?_, lt_of_le_nodup h.2 nd.2⟩
    have := h.1 x hx
    have : a ≠ x := fun z => nd.1 (z ▸ hx)
    lia
theorem perm_nats {ms : List Int} {ns : List Nat} (p : ms.Perm (ns.map fun n => ((n : Nat) : Int))) (s : ms.Pairwise (· ≤ ·)) (nd : ns.Nodup) : ∃ ks : List Nat, ms = ks.map (fun n => ((n : Nat) : Int)) ∧ (∀ x, x ∈ ks ↔ x ∈ ns) ∧ ks.Pairwise (· < ·) := by
  have hm : ms.map (fun i => ((i.toNat : Nat) : Int)) = ms := by
    have : ∀ i ∈ ms, ((i.toNat : Nat) : Int) = i := fun i hi => by
      obtain ⟨n, _, e⟩ := List.mem_map.mp (p.mem_iff.mp hi)
      lia
    exact (List.map_congr_left this).trans (List.map_id _)
  have pk : (ms.map Int.toNat).Perm ns := by
    have := p.map Int.toNat
    rw [List.map_map] at this
    have e : ns.map (Int.toNat ∘ fun n => ((n : Nat) : Int)) = ns := by
      have : ∀ n ∈ ns, (Int.toNat ∘ fun n => ((n : Nat) : Int)) n = n := fun n _ => by simp
      exact (List.map_congr_left this).trans (List.map_id _)
    rw [e] at this
    exact this
  refine ⟨ms.map Int.toNat, ?_, fun x => pk.mem_iff, lt_of_le_nodup ?_ (pk.nodup_iff.mpr nd)⟩
  · rw [List.map_map]; exact hm.symm
  · rw [List.pairwise_map]
    exact s.imp fun {a b} h => by lia
end Bg
end
section
set_option Elab.async false
set_option linter.all false
set_option maxRecDepth 100000
set_option maxHeartbeats 4000000
namespace Bg
open PySem L2
def uOf : Option Str → V
  | none => .non
  | some y => .str y
def sp_p_stands (_ : PySem.W.Frag) : Sp := fun vs H Q _ => ∃ (rt : Addr) (n : Nat) (rvs : List V) (rs : List BRow), vs = [.ref rt, .int (n : Nat)] ∧ H rt = some (.tup rvs) ∧ AllAt (RowAt H) rvs rs ∧ RowsGood rs ∧ n < rs.length ∧ Q (.int (runJ rs rs.length n : Nat)) H
def sp_p_walked (_ : PySem.W.Frag) : Sp := fun vs H Q _ => ∃ (rt : Addr) (un : Option Str) (rvs : List V) (rs : List BRow), vs = [.ref rt, uOf un] ∧ H rt = some (.tup rvs) ∧ AllAt (RowAt H) rvs rs ∧ RowsGood rs ∧
  ∀ (l : Addr) (ns : List Nat) (H' : Hp), (∀ m, m ∈ ns ↔ Way rs un m) → ns.Pairwise (· < ·) → H' l = some (.lst (intsV ns)) → H l = none → Same H H' → Q (.ref l) H'
def Stood (rs : List BRow) (m : Nat) : Prop := Way rs none m ∧ ∀ r, rs[m]? = some r → isJump r = false
def spStood : Sp := fun vs H Q _ => ∃ (rt : Addr) (rvs : List V) (rs : List BRow), vs = [.ref rt] ∧ H rt = some (.tup rvs) ∧ AllAt (RowAt H) rvs rs ∧ RowsGood rs ∧
  ∀ (l : Addr) (ns : List Nat) (H' : Hp), (∀ m, m ∈ ns ↔ Stood rs m) → ns.Pairwise (· < ·) → H' l = some (.lst (intsV ns)) → H l = none → Same H H' → Q (.ref l) H'
abbrev sp_p_come_to (_ : PySem.W.Frag) : Sp := spStood
abbrev k_p_stands : Nat := 1
abbrev K_p_stands : Nat := 2
abbrev k_p_walked : Nat := 2
abbrev K_p_walked : Nat := 3
abbrev k_p_come_to : Nat := 3
abbrev K_p_come_to : Nat := 4
end Bg
end
section
set_option Elab.async false
set_option linter.all false
set_option maxRecDepth 100000
set_option maxHeartbeats 4000000
namespace Bg
open PySem PySem.Spec PyProof.Rows L2
abbrev PS_p_stands : List Str := ["rows", "n"]
abbrev N_p_stands : List Str := ["rows", "n", "at"]
def t_p_stands_1 (K : PySem.W.Frag) : TS := (tRet (tVar 2))
def t_p_stands_2 (K : PySem.W.Frag) : TS := (tAsg (tCall (sp_p_goal K) [] E0 (tCons (tOp (rIx K) (tVar 0) (tVar 2)) tNil)) (gName 2))
def t_p_stands_3 (K : PySem.W.Frag) : TS := (tSeq (tWhile (tTest (tOp (rEqG K) (tOp (rIx K) (tOp (rIx K) (tVar 0) (tVar 2)) (tC (.int 0))) (tC (.str "jump")))) (t_p_stands_2 K)) (t_p_stands_1 K))
def t_p_stands (K : PySem.W.Frag) : TS := (tSeq (tAsg (tVar 1) (gName 2)) (t_p_stands_3 K))
abbrev PS_p_walked : List Str := ["rows", "unset"]
abbrev N_p_walked : List Str := ["rows", "unset", "found", "waiting", "n", "to"]
def t_p_walked_1 (K : PySem.W.Frag) : TS := (tRet (tCB rSortD (tCons (tVar 2) tNil)))
def t_p_walked_2 (K : PySem.W.Frag) : TS := (tDrop (tBM K "list" rAppend (tVar 3) (tCons (tVar 5) tNil)))
def t_p_walked_3 (K : PySem.W.Frag) : TS := (tIfS (tTest (tOp ((rInD true)) (tVar 5) (tVar 2))) (tSeq (tAsg (tC (.bl true)) (gSub (tVar 2) (tVar 5) rSetD)) (t_p_walked_2 K)) tNext)
def t_p_walked_4 (K : PySem.W.Frag) : TS := (tIfS (tOr (tTest (tOp (rIsN) (tVar 1) (tC .non))) (tTest (tOp (rNeG K) (tCall (sp_p_sets K) [] E0 (tCons (tOp (rIx K) (tVar 0) (tVar 4)) tNil)) (tVar 1)))) (tFor (iSeq K (tCall (sp_p_leads K) [] E0 (tCons (tVar 0) (tCons (tVar 4) tNil)))) (gName 5) (t_p_walked_3 K)) tNext)
def t_p_walked_5 (K : PySem.W.Frag) : TS := (tSeq (tAsg (tBM0 K "list" rPop (tVar 3)) (gName 4)) (t_p_walked_4 K))
def t_p_walked_6 (K : PySem.W.Frag) : TS := (tSeq (tWhile (tTest (tOp (rGt2) (tCB (rLen K) (tCons (tVar 3) tNil)) (tC (.int 0)))) (t_p_walked_5 K)) (t_p_walked_1 K))
def t_p_walked_7 (K : PySem.W.Frag) : TS := (tSeq (tAsg (tLst (tCons (tC (.int 0)) tNil)) (gName 3)) (t_p_walked_6 K))
def t_p_walked (K : PySem.W.Frag) : TS := (tSeq (tAsg (tDisp [((tC (.int 0)), (tC (.bl true)))]) (gName 2)) (t_p_walked_7 K))
abbrev PS_p_come_to : List Str := ["rows"]
abbrev N_p_come_to : List Str := ["rows"]
def t_p_come_to (K : PySem.W.Frag) : TS := (tRet (tComp [] 1 (iSeq K (tCall (sp_p_walked K) [.non] E0 (tCons (tVar 0) tNil))) (gName 1) (tTest (tOp (rNeG K) (tOp (rIx K) (tOp (rIx K) (tVar 0) (tVar 1)) (tC (.int 0))) (tC (.str "jump")))) (tVar 1)))
end Bg
end
section
set_option Elab.async false
set_option linter.all false
set_option maxRecDepth 100000
set_option maxHeartbeats 4000000
namespace Bg
open PySem PySem.Spec PyProof.Rows L2
abbrev PS_p_sets : List Str := ["row"]
abbrev N_p_sets : List Str := ["row"]
def t_p_sets_1 (K : PySem.W.Frag) : TS := (tRet (tC .non))
def t_p_sets (K : PySem.W.Frag) : TS := (tSeq (tIfS (tTest (tOp ((rIn K false)) (tOp (rIx K) (tVar 0) (tC (.int 0))) (tTup (tCons (tC (.str "num")) (tCons (tC (.str "op")) (tCons (tC (.str "call")) tNil)))))) (tRet (tOp (rIx K) (tVar 0) (tC (.int 1)))) tNext) (t_p_sets_1 K))
abbrev PS_p_goal : List Str := ["row"]
abbrev N_p_goal : List Str := ["row"]
def t_p_goal_1 (K : PySem.W.Frag) : TS := (tRet (tC .non))
def t_p_goal_2 (K : PySem.W.Frag) : TS := (tSeq (tIfS (tTest (tOp (rEqG K) (tOp (rIx K) (tVar 0) (tC (.int 0))) (tC (.str "test")))) (tRet (tOp (rIx K) (tVar 0) (tC (.int 2)))) tNext) (t_p_goal_1 K))
def t_p_goal (K : PySem.W.Frag) : TS := (tSeq (tIfS (tTest (tOp (rEqG K) (tOp (rIx K) (tVar 0) (tC (.int 0))) (tC (.str "jump")))) (tRet (tOp (rIx K) (tVar 0) (tC (.int 1)))) tNext) (t_p_goal_2 K))
abbrev PS_p_leads : List Str := ["rows", "n"]
abbrev N_p_leads : List Str := ["rows", "n", "word"]
def t_p_leads_1 (K : PySem.W.Frag) : TS := (tRet (tTup (tCons (tOp (rPlus K) (tVar 1) (tC (.int 1))) tNil)))
def t_p_leads_2 (K : PySem.W.Frag) : TS := (tSeq (tIfS (tTest (tOp (rEqG K) (tVar 2) (tC (.str "test")))) (tRet (tTup (tCons (tOp (rPlus K) (tVar 1) (tC (.int 1))) (tCons (tCall (sp_p_goal K) [] E0 (tCons (tOp (rIx K) (tVar 0) (tVar 1)) tNil)) tNil)))) tNext) (t_p_leads_1 K))
def t_p_leads_3 (K : PySem.W.Frag) : TS := (tSeq (tIfS (tTest (tOp (rEqG K) (tVar 2) (tC (.str "jump")))) (tRet (tTup (tCons (tCall (sp_p_goal K) [] E0 (tCons (tOp (rIx K) (tVar 0) (tVar 1)) tNil)) tNil))) tNext) (t_p_leads_2 K))
def t_p_leads_4 (K : PySem.W.Frag) : TS := (tSeq (tIfS (tTest (tOp (rEqG K) (tVar 2) (tC (.str "give")))) (tRet (tTup tNil)) tNext) (t_p_leads_3 K))
def t_p_leads (K : PySem.W.Frag) : TS := (tSeq (tAsg (tOp (rIx K) (tOp (rIx K) (tVar 0) (tVar 1)) (tC (.int 0))) (gName 2)) (t_p_leads_4 K))
end Bg
end
section
set_option Elab.async false
set_option linter.all false
set_option maxRecDepth 100000
set_option maxHeartbeats 4000000
namespace Bg
open PySem L2
theorem r_p_sets {K : PySem.W.Frag} {vs : List V} {H : Hp} {Q : VK} {E : XK} (h : sp_p_sets K vs H Q E) : t_p_sets K { nx := fun _ H' => Q .non H', rt := Q } (start N_p_sets vs) H := by
  obtain ⟨v, r, rfl, hr, q⟩ := h
  cases r with
  | num x z =>
    obtain ⟨p, rfl, h⟩ := hr
    refine ⟨_, rfl, ixT h (by decide) rfl ?_⟩
    refine ⟨(by show 3 ≤ sizeLine; decide), fun t ht => ⟨t, _, rfl, .inr (SqT.of upd_same), rfl, rfl, _, rfl, if_t (by decide +kernel) ?_⟩⟩
    have nt : p ≠ t := ne_of_none h ht
    exact ⟨_, rfl, ixT (by rw [upd_ne nt]; exact h) (by decide) rfl (q _ ((Same.refl H).new ht))⟩
  | op x s a b =>
    obtain ⟨p, rfl, h⟩ := hr
    refine ⟨_, rfl, ixT h (by decide) rfl ?_⟩
    refine ⟨(by show 3 ≤ sizeLine; decide), fun t ht => ⟨t, _, rfl, .inr (SqT.of upd_same), rfl, rfl, _, rfl, if_t (by decide +kernel) ?_⟩⟩
    have nt : p ≠ t := ne_of_none h ht
    exact ⟨_, rfl, ixT (by rw [upd_ne nt]; exact h) (by decide) rfl (q _ ((Same.refl H).new ht))⟩
  | call x k as =>
    obtain ⟨p, q1, rfl, h, h1⟩ := hr
    refine ⟨_, rfl, ixT h (by decide) rfl ?_⟩
    refine ⟨(by show 3 ≤ sizeLine; decide), fun t ht => ⟨t, _, rfl, .inr (SqT.of upd_same), rfl, rfl, _, rfl, if_t (by decide +kernel) ?_⟩⟩
    have nt : p ≠ t := ne_of_none h ht
    exact ⟨_, rfl, ixT (by rw [upd_ne nt]; exact h) (by decide) rfl (q _ ((Same.refl H).new ht))⟩
  | say a =>
    obtain ⟨p, rfl, h⟩ := hr
    refine ⟨_, rfl, ixT h (by decide) rfl ?_⟩
    refine ⟨(by show 3 ≤ sizeLine; decide), fun t ht => ⟨t, _, rfl, .inr (SqT.of upd_same), rfl, rfl, _, rfl, if_f (by decide +kernel) ?_⟩⟩
    have nt : p ≠ t := ne_of_none h ht
    exact q _ ((Same.refl H).new ht)
  | jump to =>
    obtain ⟨p, rfl, h⟩ := hr
    refine ⟨_, rfl, ixT h (by decide) rfl ?_⟩
    refine ⟨(by show 3 ≤ sizeLine; decide), fun t ht => ⟨t, _, rfl, .inr (SqT.of upd_same), rfl, rfl, _, rfl, if_f (by decide +kernel) ?_⟩⟩
    have nt : p ≠ t := ne_of_none h ht
    exact q _ ((Same.refl H).new ht)
  | test a to =>
    obtain ⟨p, rfl, h⟩ := hr
    refine ⟨_, rfl, ixT h (by decide) rfl ?_⟩
    refine ⟨(by show 3 ≤ sizeLine; decide), fun t ht => ⟨t, _, rfl, .inr (SqT.of upd_same), rfl, rfl, _, rfl, if_f (by decide +kernel) ?_⟩⟩
    have nt : p ≠ t := ne_of_none h ht
    exact q _ ((Same.refl H).new ht)
  | give a =>
    obtain ⟨p, rfl, h⟩ := hr
    refine ⟨_, rfl, ixT h (by decide) rfl ?_⟩
    refine ⟨(by show 3 ≤ sizeLine; decide), fun t ht => ⟨t, _, rfl, .inr (SqT.of upd_same), rfl, rfl, _, rfl, if_f (by decide +kernel) ?_⟩⟩
    have nt : p ≠ t := ne_of_none h ht
    exact q _ ((Same.refl H).new ht)
theorem r_p_goal {K : PySem.W.Frag} {vs : List V} {H : Hp} {Q : VK} {E : XK} (h : sp_p_goal K vs H Q E) : t_p_goal K { nx := fun _ H' => Q .non H', rt := Q } (start N_p_goal vs) H := by
  obtain ⟨v, r, rfl, hr, q⟩ := h
  cases r with
  | num x z =>
    obtain ⟨p, rfl, h⟩ := hr
    refine ⟨_, rfl, ixT h (by decide) rfl (.inl ⟨rfl, _, rfl, no (by decide +kernel) ?_⟩)⟩
    exact ⟨_, rfl, ixT h (by decide) rfl (.inl ⟨rfl, _, rfl, no (by decide +kernel) q⟩)⟩
  | op x s a b =>
    obtain ⟨p, rfl, h⟩ := hr
    refine ⟨_, rfl, ixT h (by decide) rfl (.inl ⟨rfl, _, rfl, no (by decide +kernel) ?_⟩)⟩
    exact ⟨_, rfl, ixT h (by decide) rfl (.inl ⟨rfl, _, rfl, no (by decide +kernel) q⟩)⟩
  | call x k as =>
    obtain ⟨p, q1, rfl, h, h1⟩ := hr
    refine ⟨_, rfl, ixT h (by decide) rfl (.inl ⟨rfl, _, rfl, no (by decide +kernel) ?_⟩)⟩
    exact ⟨_, rfl, ixT h (by decide) rfl (.inl ⟨rfl, _, rfl, no (by decide +kernel) q⟩)⟩
  | say a =>
    obtain ⟨p, rfl, h⟩ := hr
    refine ⟨_, rfl, ixT h (by decide) rfl (.inl ⟨rfl, _, rfl, no (by decide +kernel) ?_⟩)⟩
    exact ⟨_, rfl, ixT h (by decide) rfl (.inl ⟨rfl, _, rfl, no (by decide +kernel) q⟩)⟩
  | jump to =>
    obtain ⟨p, rfl, h⟩ := hr
    exact ⟨_, rfl, ixT h (by decide) rfl (.inl ⟨rfl, _, rfl, yes ⟨_, rfl, ixT h (by decide) rfl q⟩⟩)⟩
  | test a to =>
    obtain ⟨p, rfl, h⟩ := hr
    refine ⟨_, rfl, ixT h (by decide) rfl (.inl ⟨rfl, _, rfl, no (by decide +kernel) ?_⟩)⟩
    exact ⟨_, rfl, ixT h (by decide) rfl (.inl ⟨rfl, _, rfl, yes ⟨_, rfl, ixT h (by decide) rfl q⟩⟩)⟩
  | give a =>
    obtain ⟨p, rfl, h⟩ := hr
    refine ⟨_, rfl, ixT h (by decide) rfl (.inl ⟨rfl, _, rfl, no (by decide +kernel) ?_⟩)⟩
    exact ⟨_, rfl, ixT h (by decide) rfl (.inl ⟨rfl, _, rfl, no (by decide +kernel) q⟩)⟩
theorem r_p_leads {K : PySem.W.Frag} {vs : List V} {H : Hp} {Q : VK} {E : XK} (h : sp_p_leads K vs H Q E) : t_p_leads K { nx := fun _ H' => Q .non H', rt := Q } (start N_p_leads vs) H := by
  obtain ⟨rt, n, rvs, v, r, rfl, hrt, hv, hr, q⟩ := h
  have hn : rvs[((n : Nat) : Int).toNat]? = some v := by simpa using hv
  have n0 : (0 : Int) ≤ ((n : Nat) : Int) := by lia
  have e1 : (((n + 1 : Nat) : Nat) : Int) = (n : Int) + 1 := by lia
  cases r with
  | num x z =>
    have hr0 := hr
    obtain ⟨p, rfl, h⟩ := hr
    refine ⟨_, rfl, _, rfl, ixT hrt n0 hn (ixT h (by decide) rfl ?_)⟩
    refine ⟨_, rfl, .inl ⟨rfl, _, rfl, no (by decide +kernel) ?_⟩⟩
    refine ⟨_, rfl, .inl ⟨rfl, _, rfl, no (by decide +kernel) ?_⟩⟩
    refine ⟨_, rfl, .inl ⟨rfl, _, rfl, no (by decide +kernel) ?_⟩⟩
    exact ⟨_, rfl, .inl ⟨_, _, rfl, rfl, ⟨(by show 1 ≤ sizeLine; decide), fun t ht => q t _ (by rw [upd_same]; first | rfl | (unfold intsV leadsL; simp only [List.map_cons, List.map_nil, e1])) ((Same.refl H).new ht)⟩⟩⟩
  | op x s a b =>
    have hr0 := hr
    obtain ⟨p, rfl, h⟩ := hr
    refine ⟨_, rfl, _, rfl, ixT hrt n0 hn (ixT h (by decide) rfl ?_)⟩
    refine ⟨_, rfl, .inl ⟨rfl, _, rfl, no (by decide +kernel) ?_⟩⟩
    refine ⟨_, rfl, .inl ⟨rfl, _, rfl, no (by decide +kernel) ?_⟩⟩
    refine ⟨_, rfl, .inl ⟨rfl, _, rfl, no (by decide +kernel) ?_⟩⟩
    exact ⟨_, rfl, .inl ⟨_, _, rfl, rfl, ⟨(by show 1 ≤ sizeLine; decide), fun t ht => q t _ (by rw [upd_same]; first | rfl | (unfold intsV leadsL; simp only [List.map_cons, List.map_nil, e1])) ((Same.refl H).new ht)⟩⟩⟩
  | call x k as =>
    have hr0 := hr
    obtain ⟨p, q1, rfl, h, h1⟩ := hr
    refine ⟨_, rfl, _, rfl, ixT hrt n0 hn (ixT h (by decide) rfl ?_)⟩
    refine ⟨_, rfl, .inl ⟨rfl, _, rfl, no (by decide +kernel) ?_⟩⟩
    refine ⟨_, rfl, .inl ⟨rfl, _, rfl, no (by decide +kernel) ?_⟩⟩
    refine ⟨_, rfl, .inl ⟨rfl, _, rfl, no (by decide +kernel) ?_⟩⟩
    exact ⟨_, rfl, .inl ⟨_, _, rfl, rfl, ⟨(by show 1 ≤ sizeLine; decide), fun t ht => q t _ (by rw [upd_same]; first | rfl | (unfold intsV leadsL; simp only [List.map_cons, List.map_nil, e1])) ((Same.refl H).new ht)⟩⟩⟩
  | say a =>
    have hr0 := hr
    obtain ⟨p, rfl, h⟩ := hr
    refine ⟨_, rfl, _, rfl, ixT hrt n0 hn (ixT h (by decide) rfl ?_)⟩
    refine ⟨_, rfl, .inl ⟨rfl, _, rfl, no (by decide +kernel) ?_⟩⟩
    refine ⟨_, rfl, .inl ⟨rfl, _, rfl, no (by decide +kernel) ?_⟩⟩
    refine ⟨_, rfl, .inl ⟨rfl, _, rfl, no (by decide +kernel) ?_⟩⟩
    exact ⟨_, rfl, .inl ⟨_, _, rfl, rfl, ⟨(by show 1 ≤ sizeLine; decide), fun t ht => q t _ (by rw [upd_same]; first | rfl | (unfold intsV leadsL; simp only [List.map_cons, List.map_nil, e1])) ((Same.refl H).new ht)⟩⟩⟩
  | jump to =>
    have hr0 := hr
    obtain ⟨p, rfl, h⟩ := hr
    refine ⟨_, rfl, _, rfl, ixT hrt n0 hn (ixT h (by decide) rfl ?_)⟩
    refine ⟨_, rfl, .inl ⟨rfl, _, rfl, no (by decide +kernel) ?_⟩⟩
    refine ⟨_, rfl, .inl ⟨rfl, _, rfl, yes ?_⟩⟩
    exact ⟨_, rfl, _, rfl, ixT hrt n0 hn ⟨_, _, rfl, hr0, ⟨(by show 1 ≤ sizeLine; decide), fun t ht => q t _ (by rw [upd_same]; first | rfl | (unfold intsV leadsL; simp only [List.map_cons, List.map_nil, e1])) ((Same.refl H).new ht)⟩⟩⟩
  | test a to =>
    have hr0 := hr
    obtain ⟨p, rfl, h⟩ := hr
    refine ⟨_, rfl, _, rfl, ixT hrt n0 hn (ixT h (by decide) rfl ?_)⟩
    refine ⟨_, rfl, .inl ⟨rfl, _, rfl, no (by decide +kernel) ?_⟩⟩
    refine ⟨_, rfl, .inl ⟨rfl, _, rfl, no (by decide +kernel) ?_⟩⟩
    refine ⟨_, rfl, .inl ⟨rfl, _, rfl, yes ?_⟩⟩
    exact ⟨_, rfl, .inl ⟨_, _, rfl, rfl, ⟨_, rfl, _, rfl, ixT hrt n0 hn ⟨_, _, rfl, hr0, ⟨(by show 2 ≤ sizeLine; decide), fun t ht => q t _ (by rw [upd_same]; first | rfl | (unfold intsV leadsL; simp only [List.map_cons, List.map_nil, e1])) ((Same.refl H).new ht)⟩⟩⟩⟩⟩
  | give a =>
    have hr0 := hr
    obtain ⟨p, rfl, h⟩ := hr
    refine ⟨_, rfl, _, rfl, ixT hrt n0 hn (ixT h (by decide) rfl ?_)⟩
    refine ⟨_, rfl, .inl ⟨rfl, _, rfl, yes ?_⟩⟩
    exact ⟨(by show 0 ≤ sizeLine; decide), fun t ht => q t _ (by rw [upd_same]; first | rfl | (unfold intsV leadsL; simp only [List.map_cons, List.map_nil, e1])) ((Same.refl H).new ht)⟩
end Bg
end
section
set_option Elab.async false
set_option linter.all false
set_option maxRecDepth 100000
set_option maxHeartbeats 4000000
namespace Bg
open PySem L2
theorem sn_m {K : PySem.W.Frag} {rl nm pr kl la l : Addr} {H H' : Hp} {ys ps ls : List Str} {w : Str} {rs : List BRow} {kss0 : List (List Str)} {B i mm j0 : Nat} {ms : List Nat} {refs : List V} {kss : List (List Str)} {more : Bool} {o8 : Option V} {rt : VK} {bk : St → Hp → Prop}
    (hkl : H kl = none) (nla : la ≠ kl) (nl : l ≠ kl) (hw : w ∈ ls) (hm : mm < rs.length) (hmj : ms[j0]? = some mm) (hz : Zero ps kss) (hc : more = false → kss = kss0 ∧ PassOk rs i kss0 ∧ ∀ j', j' < j0 → ∀ m km, ms[j']? = some m → kss0[m]? = some km → ∀ y ∈ km, y ∈ ls) (k : KJ kl H ys ps w rs.length H' refs kss) (hB : 2 * sumL kss + more.toNat ≤ B) (hla : H' la = some (.lst (ls.map V.str))) (hl : H' l = some (.lst (intsV ms))) :
    t_set_names_4 K { nx := SnQ rl nm pr kl H ys ps w rs B i la l ls ms kss0 (j0 + 1), rt := rt, ct := SnQ rl nm pr kl H ys ps w rs B i la l ls ms kss0 (j0 + 1), bk := bk } [some (.ref rl), some (.ref nm), some (.ref pr), some (.ref kl), some (.bl more), some (.int (i : Nat)), some (.ref la), some (.int (mm : Nat)), o8] H' := by
  obtain ⟨am, km, e1, e2, nam, ham⟩ := k.get hm
  obtain ⟨k1, k2, k3⟩ := k.wit mm km e2
  have e1' : refs[((mm : Nat) : Int).toNat]? = some (.ref am) := by simpa using e1
  refine .inl ⟨_, rfl, _, rfl, ixL (SqL.of k.at_) (by lia) e1' ⟨am, rfl, ⟨_, SqL.of ham⟩, fun D hD => ?_⟩⟩
  have nD : kl ≠ D := ne_of_none k.at_ hD
  have naD : am ≠ D := ne_of_none ham hD
  have nlaD : la ≠ D := ne_of_none hla hD
  have nlD : l ≠ D := ne_of_none hl hD
  refine comp_list (xs := km.map V.str) (fun j σ' H2 => ∃ o, σ' = [some (.ref rl), some (.ref nm), some (.ref pr), some (.ref kl), some (.bl more), some (.int (i : Nat)), some (.ref la), some (.int (mm : Nat)), o8, o] ∧ H2 = upd H' D (.lst (((km.take j).filter fun y => decide (y ∈ ls)).map V.str))) ?_ ?_ ?_ ?_
  · exact ⟨none, rfl, rfl⟩
  · rintro j σ' H2 _ ⟨o, _, rfl⟩
    exact SqL.of (by rw [upd_ne naD]; exact ham)
  · rintro j x σ' H2 hx ⟨o, rfl, rfl⟩
    rw [List.getElem?_map] at hx
    obtain ⟨y, hy, rfl⟩ : ∃ y, km[j]? = some y ∧ V.str y = x := by
      cases e : km[j]? with
      | none => rw [e] at hx; cases hx
      | some y => rw [e] at hx; exact ⟨y, rfl, Option.some.inj hx⟩
    have jl : j < km.length := (List.getElem?_eq_some_iff.mp hy).1
    have fl : ((km.take j).filter fun y => decide (y ∈ ls)).length ≤ 100 := Nat.le_trans (List.length_filter_le _ _) (by rw [List.length_take]; lia)
    have ft := filter_take (fun y => decide (y ∈ ls)) km j y hy
    refine ⟨_, rfl, _, rfl, la, _, rfl, .inl (SqL.of (by rw [upd_ne nlaD]; exact hla)), rfl, flat_strs _, _, rfl, ?_⟩
    show if inV (.str y) (ls.map V.str) = true then _ else _
    rw [inV_strs]
    refine if_dec (fun hin => ?_) (fun hin => ?_)
    · refine ⟨_, rfl, _, upd_same, smallL (by rw [List.length_map]; lia), _, rfl, ?_⟩
      rw [upd_upd, ft, if_pos (by simpa using hin), List.map_append]
      rfl
    · refine ⟨_, rfl, ?_⟩
      rw [ft, if_neg (by simpa using hin), List.append_nil]
  · rintro σ' H2 ⟨o, _, rfl⟩
    have et : km.take (km.map V.str).length = km := List.take_of_length_le (by rw [List.length_map]; exact Nat.le_refl _)
    rw [et]
    have fl : (km.filter fun y => decide (y ∈ ls)).length ≤ km.length := List.length_filter_le _ _
    have fm : ∀ y ∈ km.filter (fun y => decide (y ∈ ls)), y ∈ ys := fun y hy => k2 y (List.mem_filter.mp hy).1
    have fw : w ∈ km.filter (fun y => decide (y ∈ ls)) ∨ (mm = 0 ∧ ps = []) := k3.imp (fun z => List.mem_filter.mpr ⟨z, by simpa using hw⟩) id
    have fs : ∀ y ∈ km.filter (fun y => decide (y ∈ ls)), y ∈ km := fun y hy => (List.mem_filter.mp hy).1
    have fe : ¬ (km.filter (fun y => decide (y ∈ ls))).length < km.length → ∀ y ∈ km, y ∈ ls := fun hn y hy => by
      have := List.length_filter_eq_length_iff.mp (Nat.le_antisymm (List.length_filter_le (fun y => decide (y ∈ ls)) km) (Nat.not_lt.mp hn)) y hy
      simpa using this
    generalize km.filter (fun y => decide (y ∈ ls)) = kp at fl fm fw fs fe
    have k' := k.grown ((Same.refl H').new (o := .lst (kp.map V.str)) hD)
    have hla' : (upd H' D (.lst (kp.map V.str))) la = some (.lst (ls.map V.str)) := by rw [upd_ne nlaD]; exact hla
    have hl' : (upd H' D (.lst (kp.map V.str))) l = some (.lst (intsV ms)) := by rw [upd_ne nlD]; exact hl
    have ham' : (upd H' D (.lst (kp.map V.str))) am = some (.lst (km.map V.str)) := by rw [upd_ne naD]; exact ham
    have hD' : (upd H' D (.lst (kp.map V.str))) D = some (.lst (kp.map V.str)) := upd_same
    generalize upd H' D (.lst (kp.map V.str)) = H3 at k' hla' hl' ham' hD'
    show t_set_names_3 K _ [some (.ref rl), some (.ref nm), some (.ref pr), some (.ref kl), some (.bl more), some (.int (i : Nat)), some (.ref la), some (.int (mm : Nat)), some (.ref D)] H3
    refine ⟨_, rfl, _, _, rfl, .inl ⟨_, SqL.of hD', rfl⟩, _, rfl, _, rfl, ixL (SqL.of k'.at_) (by lia) e1' ⟨_, _, rfl, .inl ⟨_, SqL.of ham', rfl⟩, _, _, rfl, rfl, _, rfl, if_dec (fun hlt => ?_) (fun hlt => ?_)⟩⟩
    · rw [List.length_map, List.length_map] at hlt
      refine ⟨_, rfl, _, rfl, _, rfl, setL k'.at_ (by lia) (by rw [k'.vlen]; simpa using hm) ?_⟩
      have ei : ((mm : Nat) : Int).toNat = mm := by simp
      rw [ei]
      have ss := sumL_set (kp := kp) e2
      refine ⟨_, kss.set mm kp, true, _, _, rfl, k'.set hkl (Ne.symm nD) hD' ⟨by lia, fm, fw⟩, ?_, by rw [upd_ne nla]; exact hla', by rw [upd_ne nl]; exact hl', hz.set e2 fs, fun z => by cases z⟩
      have : (true : Bool).toNat = 1 := rfl
      lia
    · rw [List.length_map, List.length_map] at hlt
      refine ⟨refs, kss, more, _, _, rfl, k', hB, hla', hl', hz, fun hmo => ?_⟩
      obtain ⟨c1, c2, c3⟩ := hc hmo
      refine ⟨c1, c2, fun j' hj' m km' hm' hk' => ?_⟩
      by_cases cj : j' < j0
      · exact c3 j' cj m km' hm' hk'
      · have : j' = j0 := by lia
        subst this
        rw [hmj] at hm'; cases hm'
        rw [← c1, e2] at hk'; cases hk'
        exact fe (by lia)
end Bg
end
section
set_option Elab.async false
set_option linter.all false
set_option maxRecDepth 100000
set_option maxHeartbeats 4000000
namespace Bg
open PySem L2
theorem intsV_of {ms : List Nat} {j : Nat} {x : V} (h : (intsV ms)[j]? = some x) : ∃ m, ms[j]? = some m ∧ x = .int (m : Nat) := by
  unfold intsV at h
  rw [List.getElem?_map] at h
  cases e : ms[j]? with
  | none => rw [e] at h; cases h
  | some m => rw [e] at h; exact ⟨m, rfl, (Option.some.inj h).symm⟩
theorem sn_i {K : PySem.W.Frag} {rl nm pr kl : Addr} {H H' : Hp} {ys ps : List Str} {cs : List Nat} {w : Str} {B i : Nat} {rvs : List V} {rs : List BRow} {refs : List V} {kss : List (List Str)} {more : Bool} {o6 o7 o8 : Option V} {rt : VK} {bk : St → Hp → Prop}
    (hkl : H kl = none) (hrl : H rl = some (.lst rvs)) (hA : AllAt (RowAt H) rvs rs) (hOk : RowsOk ys cs rs) (hE : rs.getLast?.map isEnd = some true) (hw0 : ps = [] → ∃ z, rs[0]? = some (.num w z)) (hi : i < rs.length) (k : KJ kl H ys ps w rs.length H' refs kss) (hB : 2 * sumL kss + more.toNat ≤ B) (hz : Zero ps kss) (hP : more = false → PassOk rs i kss) :
    t_set_names_7 K { nx := SnP rl nm pr kl H ys ps w rs B (i + 1), rt := rt, ct := SnP rl nm pr kl H ys ps w rs B (i + 1), bk := bk } [some (.ref rl), some (.ref nm), some (.ref pr), some (.ref kl), some (.bl more), some (.int (i : Nat)), o6, o7, o8] H' := by
  obtain ⟨a, ks, e1, e2, na, ha⟩ := k.get hi
  obtain ⟨k1, k2, k3⟩ := k.wit i ks e2
  obtain ⟨v, r, f1, f2, hra⟩ := hA.get (i := i) hi
  obtain ⟨p, xs, rfl, hp⟩ := hra.ref
  have e1' : refs[((i : Nat) : Int).toNat]? = some (.ref a) := by simpa using e1
  have f1' : rvs[((i : Nat) : Int).toNat]? = some (.ref p) := by simpa using f1
  have nkl : rl ≠ kl := ne_of_none hrl hkl
  have ways : ∀ (la : Addr) (ls : List Str) (H2 : Hp), la ≠ kl → w ∈ ls → (∀ y ∈ ls, y ∈ ks ∨ setsOf r = .str y) → KJ kl H ys ps w rs.length H2 refs kss → H2 la = some (.lst (ls.map V.str)) →
      t_set_names_5 K { nx := SnP rl nm pr kl H ys ps w rs B (i + 1), rt := rt, ct := SnP rl nm pr kl H ys ps w rs B (i + 1), bk := bk } [some (.ref rl), some (.ref nm), some (.ref pr), some (.ref kl), some (.bl more), some (.int (i : Nat)), some (.ref la), o7, o8] H2 := fun la ls H2 nla hwl hls k2 hla => by
    refine .inl ⟨_, rfl, _, rfl, rl, i, rvs, .ref p, r, rfl, .inl (k2.same _ _ hrl), f1, hra.mono (.of_same k2.same), fun l hl => ?_⟩
    have nl : l ≠ kl := fun z => by rw [z, k2.at_] at hl; cases hl
    have nlal : la ≠ l := ne_of_none hla hl
    refine ⟨l, rfl, ⟨_, SqL.of upd_same⟩, for_list (xs := intsV (leadsL i r)) (fun j => SnQ rl nm pr kl H ys ps w rs B i la l ls (leadsL i r) kss j) ?_ ?_ ?_ ?_⟩
    · exact ⟨refs, kss, more, _, _, rfl, k2.grown ((Same.refl H2).new hl), hB, by rw [upd_ne nlal]; exact hla, upd_same, hz, fun hmo => ⟨rfl, hP hmo, fun j' hj' => absurd hj' (Nat.not_lt_zero _)⟩⟩
    · rintro j σ' H3 _ ⟨_, _, _, _, _, _, _, _, _, h3, _, _⟩
      exact SqL.of h3
    · rintro j x σ' H3 hx ⟨refs3, kss3, more3, o73, o83, rfl, k3', hB3, hla3, hl3, hz3, hc3⟩
      obtain ⟨mm, hmm, rfl⟩ := intsV_of hx
      exact sn_m hkl nla nl hwl (leads_lt f2 (hOk.rough r (List.mem_of_getElem? f2)) hE hmm) hmm hz3 hc3 k3' hB3 hla3 hl3
    · rintro σ' H3 ⟨refs3, kss3, more3, o73, o83, rfl, k3', hB3, hla3, hl3, hz3, hc3⟩
      refine ⟨refs3, kss3, more3, _, _, _, _, rfl, k3', hB3, hz3, fun hmo => ?_⟩
      obtain ⟨c1, c2, c3⟩ := hc3 hmo
      subst c1
      intro n m r' ks' km hn hr' hm' hks' hkm y hy
      by_cases cn : n < i
      · exact c2 n m r' ks' km cn hr' hm' hks' hkm y hy
      · have : n = i := by lia
        subst this
        rw [f2] at hr'; cases hr'
        rw [e2] at hks'; cases hks'
        obtain ⟨j', hj', hmj⟩ := List.mem_iff_getElem.mp hm'
        have hmj' : (leadsL n r)[j']? = some m := by rw [List.getElem?_eq_getElem hj', hmj]
        exact hls y (c3 j' (by rw [intsV_len]; exact hj') m km hmj' hkm y hy)
  refine ⟨_, rfl, _, rfl, ixL (SqL.of k.at_) (by lia) e1' ?_⟩
  show t_set_names_6 K _ [some (.ref rl), some (.ref nm), some (.ref pr), some (.ref kl), some (.bl more), some (.int (i : Nat)), some (.ref a), o7, o8] H'
  refine ⟨_, rfl, _, rfl, ixL (SqL.of (k.same _ _ hrl)) (by lia) f1' (ixT (k.same _ _ hp) (by decide) rfl ⟨(by show 3 ≤ sizeLine; decide), fun t ht => ⟨t, _, rfl, .inr (SqT.of upd_same), rfl, rfl, _, rfl, ?_⟩⟩)⟩
  have sm := (Same.refl H').new (o := .tup [V.str "num", V.str "op", V.str "call"]) ht
  have kt := k.grown sm
  have hat := sm _ _ ha
  generalize upd H' t (.tup [V.str "num", V.str "op", V.str "call"]) = H1 at sm kt hat ⊢
  refine if_bl (fun hb => ?_) (fun hb => ?_)
  · have hb' : inV (.str (word r)) [V.str "num", V.str "op", V.str "call"] = true := hb
    obtain ⟨x, hx⟩ := in_sets hb'
    obtain ⟨xs', hp'⟩ := sets_at hra hx
    refine ⟨_, rfl, _, rfl, _, rfl, ixL (SqL.of (kt.same _ _ hrl)) (by lia) f1' (ixT (kt.same _ _ hp') (by decide) rfl ⟨(by show 1 ≤ sizeLine; decide), fun p1 hp1 => ?_⟩)⟩
    have na1 : a ≠ p1 := ne_of_none hat hp1
    refine .inr (.inr (.inl ⟨a, p1, _, _, rfl, rfl, by rw [upd_ne na1]; exact hat, upd_same, ?_, fun p2 hp2 => ?_⟩))
    · have := smallL (n := 101) (by decide)
      rw [List.length_map]
      show ks.length + 1 ≤ sizeLine
      lia
    have k5 := (kt.grown ((Same.refl H1).new (o := .lst [V.str x]) hp1)).grown ((Same.refl _).new (o := .lst (ks.map V.str ++ [V.str x])) hp2)
    have np2 : p2 ≠ kl := fun z => by
      have := (kt.grown ((Same.refl H1).new (o := .lst [V.str x]) hp1)).at_
      rw [z, this] at hp2; cases hp2
    refine ways p2 (ks ++ [x]) _ np2 ?_ (fun y hy => (List.mem_append.mp hy).imp id fun z => by rw [List.mem_singleton.mp z]; exact hx) k5 (by rw [upd_same, List.map_append]; rfl)
    rcases k3 with z | ⟨z1, z2⟩
    · exact List.mem_append_left _ z
    · obtain ⟨zz, hz⟩ := hw0 z2
      subst z1
      rw [f2] at hz; cases hz; cases hx
      exact List.mem_append_right _ (List.mem_singleton.mpr rfl)
  · refine ways a ks _ na ?_ (fun y hy => .inl hy) kt hat
    rcases k3 with z | ⟨z1, z2⟩
    · exact z
    · obtain ⟨zz, hz⟩ := hw0 z2
      subst z1
      rw [f2] at hz; cases hz
      exact absurd (show inV (.str "num") [V.str "num", V.str "op", V.str "call"] = false from hb) (by decide +kernel)
theorem repl_snoc {α : Type} (n : Nat) (a : α) : List.replicate (n + 1) a = List.replicate n a ++ [a] := by
  exact List.replicate_succ'
theorem r_set_names {K : PySem.W.Frag} {vs : List V} {H : Hp} {Q : VK} {E : XK} (h : sp_set_names K vs H Q E) : t_set_names K { nx := fun _ H' => Q .non H', rt := Q } (start N_set_names vs) H := by
  obtain ⟨rl, nm, pr, rvs, rs, ys, ps, cs, rfl, hrl, hA, hOk, hE, hnm, ysl, hpr, psl, pin, hnum, q⟩ := h
  have n1 : 1 ≤ rs.length := List.length_pos_iff.mpr hOk.pos
  obtain ⟨w, wy, wp, w0⟩ : ∃ w : Str, w ∈ ys ∧ (ps ≠ [] → w ∈ ps) ∧ (ps = [] → ∃ z, rs[0]? = some (.num w z)) := by
    cases ps with
    | cons p r => exact ⟨p, pin p List.mem_cons_self, fun _ => List.mem_cons_self, fun z => by cases z⟩
    | nil =>
      have h0 := hnum rfl
      rw [List.head?_eq_getElem?] at h0
      cases e : rs[0]? with
      | none => rw [e] at h0; cases h0
      | some r =>
        rw [e, Option.map_some] at h0
        cases r with
        | num x z => exact ⟨x, (hOk.rough _ (List.mem_of_getElem? e)).1, fun z => absurd rfl z, fun _ => ⟨z, rfl⟩⟩
        | _ => cases h0
  refine .inl ⟨_, rfl, rl, rfl, ⟨_, SqL.of hrl⟩, fun kl hkl => ?_⟩
  have nrl : rl ≠ kl := ne_of_none hrl hkl
  have nnm : nm ≠ kl := ne_of_none hnm hkl
  have npr : pr ≠ kl := ne_of_none hpr hkl
  refine comp_list (xs := rvs) (fun j σ' H' => ∃ (refs : List V) (o : Option V), σ' = [some (.ref rl), some (.ref nm), some (.ref pr), none, none, none, none, none, none, o] ∧ H' kl = some (.lst refs) ∧ AllAt (TxA kl H') refs (List.replicate j ys) ∧ Same H H') ?_ ?_ ?_ ?_
  · exact ⟨[], none, rfl, upd_same, .nil, (Same.refl H).new hkl⟩
  · rintro j σ' H' _ ⟨_, _, _, _, _, s⟩
    exact SqL.of (s _ _ hrl)
  · rintro j x σ' H' hx ⟨refs, o, rfl, hk, ha, s⟩
    refine app_yes ?_
    have jl : j < rvs.length := (List.getElem?_eq_some_iff.mp hx).1
    have rl100 : rvs.length ≤ 100 := by rw [hA.len]; exact hOk.few
    have rlen : refs.length = j := by rw [ha.len, List.length_replicate]
    refine ⟨_, rfl, nm, _, rfl, .inl (SqL.of (s _ _ hnm)), fun a ha0 => ?_⟩
    have nak : kl ≠ a := ne_of_none hk ha0
    refine ⟨refs, by rw [upd_ne nak]; exact hk, smallL (by lia), refs ++ [.ref a], _, rfl, upd_same, ?_, fun b o h => ?_⟩
    · rw [repl_snoc]
      refine AllAt.snoc (ha.imp fun _ _ z => (z.same ((Same.refl H').new ha0)).upd) ⟨a, rfl, Ne.symm nak, ?_⟩
      rw [upd_ne (Ne.symm nak), upd_same]
    · have h1 := s b o h
      rw [upd_ne (ne_of_none h hkl), upd_ne (ne_of_none h1 ha0)]; exact h1
  · rintro σ' H1 ⟨refs, o, _, hk, ha, s⟩
    rw [hA.len] at ha
    have rlen : refs.length = rs.length := by rw [ha.len, List.length_replicate]
    show t_set_names_12 K _ [some (.ref rl), some (.ref nm), some (.ref pr), some (.ref kl), none, none, none, none, none] H1
    refine ⟨_, rfl, pr, _, rfl, .inl (SqL.of (s _ _ hpr)), fun a ha0 => ?_⟩
    have nak : kl ≠ a := ne_of_none hk ha0
    have K0 : KJ kl H ys [] w rs.length H1 refs (List.replicate rs.length ys) := ⟨hk, ha, by rw [List.length_replicate], fun i ks e => by
      have hm := List.mem_of_getElem? e
      rw [List.mem_replicate] at hm
      rw [hm.2]; exact ⟨ysl, fun y hy => hy, .inl wy⟩, s⟩
    have K1 := K0.grown ((Same.refl H1).new (o := .lst (ps.map V.str)) ha0)
    refine ⟨_, rfl, setL K1.at_ (by decide) (by rw [rlen]; exact n1) ?_⟩
    have K2 : KJ kl H ys ps w rs.length (upd (upd H1 a (.lst (ps.map V.str))) kl (.lst (refs.set 0 (.ref a)))) (refs.set 0 (.ref a)) ((List.replicate rs.length ys).set 0 ps) := by
      have z := K1.set (m := 0) (kp := ps) (a := a) hkl (Ne.symm nak) upd_same ⟨psl, pin, .inr ⟨rfl, rfl⟩⟩
      refine ⟨z.at_, z.all, z.len, fun i ks e => ?_, z.same⟩
      by_cases c : 0 = i
      · subst c
        rw [List.getElem?_set_self (by rw [List.length_replicate]; exact n1)] at e; cases e
        refine ⟨psl, pin, ?_⟩
        by_cases e : ps = []
        · exact .inr ⟨rfl, e⟩
        · exact .inl (wp e)
      · obtain ⟨z1, z2, z3⟩ := z.wit i ks e
        refine ⟨z1, z2, ?_⟩
        rcases z3 with z3 | z3
        · exact .inl z3
        · exact absurd z3.1.symm c
    show t_set_names_11 K _ [some (.ref rl), some (.ref nm), some (.ref pr), some (.ref kl), none, none, none, none, none] (upd (upd H1 a (.lst (ps.map V.str))) kl (.lst (refs.set 0 (.ref a))))
    generalize upd (upd H1 a (.lst (ps.map V.str))) kl (.lst (refs.set 0 (.ref a))) = H2 at K2 ⊢
    generalize refs.set 0 (.ref a) = refs2 at K2
    have Z2 : Zero ps ((List.replicate rs.length ys).set 0 ps) := fun ks e y hy => by
      rw [List.getElem?_set_self (by rw [List.length_replicate]; exact n1)] at e; cases e; exact hy
    generalize (List.replicate rs.length ys).set 0 ps = kss2 at K2 Z2
    show t_set_names_10 K _ [some (.ref rl), some (.ref nm), some (.ref pr), some (.ref kl), some (.bl true), none, none, none, none] H2
    refine ⟨fun m σ' H' => ∃ (refs : List V) (kss : List (List Str)) (more : Bool) (o5 o6 o7 o8 : Option V), σ' = [some (.ref rl), some (.ref nm), some (.ref pr), some (.ref kl), some (.bl more), o5, o6, o7, o8] ∧ KJ kl H ys ps w rs.length H' refs kss ∧ Zero ps kss ∧ (more = false → PassOk rs rs.length kss) ∧ 2 * sumL kss + more.toNat = m, ⟨_, refs2, kss2, true, _, _, _, _, rfl, K2, Z2, (fun z => by cases z), rfl⟩, ?_⟩
    rintro m σ' H' ⟨refs3, kss3, more, o5, o6, o7, o8, rfl, K3, Z3, P3, hm⟩
    refine ⟨_, rfl, more, rfl, if_bl (fun hmore => ?_) (fun hmore => ?_)⟩
    · subst hmore
      refine ⟨SnP rl nm pr kl H ys ps w rs (2 * sumL kss3) rs.length, ?_, ?_⟩
      · rintro σ4 H4 ⟨refs4, kss4, more4, p5, p6, p7, p8, rfl, K4, hB, Z4, P4⟩
        refine ⟨_, ?_, refs4, kss4, more4, _, _, _, _, rfl, K4, Z4, P4, rfl⟩
        have : (true : Bool).toNat = 1 := rfl
        lia
      · -- more = False; for n in range(len(rows))
        show t_set_names_8 K _ [some (.ref rl), some (.ref nm), some (.ref pr), some (.ref kl), some (.bl false), o5, o6, o7, o8] H'
        have hlr := K3.same _ _ hrl
        refine ⟨_, rfl, _, _, rfl, .inl ⟨_, SqL.of hlr, rfl⟩, _, rfl, by lia, by rw [hA.len]; have := hOk.few; lia, for_range (fun i => SnP rl nm pr kl H ys ps w rs (2 * sumL kss3) i) ⟨refs3, kss3, false, _, _, _, _, rfl, K3, by simp, Z3, fun _ n _ _ _ _ hn => absurd hn (Nat.not_lt_zero _)⟩ ?_ ?_⟩
        · rintro i σ5 H5 hi ⟨refs5, kss5, more5, p5, p6, p7, p8, rfl, K5, hB, Z5, P5⟩
          have hi : i < rs.length := by rw [hA.len] at hi; simpa using hi
          have e0 : (0 : Int) + (i : Int) = ((i : Nat) : Int) := by lia
          show t_set_names_7 K _ [some (.ref rl), some (.ref nm), some (.ref pr), some (.ref kl), some (.bl more5), some (.int ((0 : Int) + (i : Int))), p6, p7, p8] H5
          rw [e0]
          exact sn_i hkl hrl hA hOk hE w0 hi K5 hB Z5 P5
        · rintro σ5 H5 h5
          rw [hA.len, Int.toNat_natCast] at h5
          exact h5
    · refine ⟨_, rfl, q kl refs3 kss3 H' hkl K3.at_ (K3.all.imp fun _ _ ⟨a, e, _, h⟩ => ⟨a, e, h⟩) K3.len (fun i ks e => ?_) ⟨Z3, fun n m r ks km hr hm hks hkm => P3 hmore n m r ks km (List.getElem?_eq_some_iff.mp hr).1 hr hm hks hkm⟩ K3.same⟩
      obtain ⟨z1, z2, z3⟩ := K3.wit i ks e
      refine ⟨z1, z2, z3.imp (fun z e => ?_) id⟩
      rw [e] at z; cases z
end Bg
end
section
set_option Elab.async false
set_option linter.all false
set_option maxRecDepth 100000
set_option maxHeartbeats 4000000
namespace Bg
open PySem L2
theorem at_new {H H1 : Hp} {a : Addr} {o : HO} (s : Same H H1) (h : H a = none) : Same H (upd H1 a o) := fun b u e => by
  rw [upd_ne (ne_of_none e h)]; exact s b u e
theorem r_p_stands {K : PySem.W.Frag} {vs : List V} {H : Hp} {Q : VK} {E : XK} (h : sp_p_stands K vs H Q E) : t_p_stands K { nx := fun _ H' => Q .non H', rt := Q } (start N_p_stands vs) H := by
  obtain ⟨rt, n, rvs, rs, rfl, hrt, hA, g, hn, q⟩ := h
  refine ⟨_, rfl, ?_⟩
  show t_p_stands_3 K _ [some (.ref rt), some (.int (n : Nat)), some (.int (n : Nat))] H
  refine ⟨fun m σ' H' => ∃ k, k ≤ rs.length ∧ m = rs.length - k ∧ σ' = [some (.ref rt), some (.int (n : Nat)), some (.int (runJ rs k n : Nat))] ∧ H' = H, ⟨_, 0, Nat.zero_le _, rfl, rfl, rfl⟩, ?_⟩
  rintro m σ' H' ⟨k, hk, rfl, rfl, rfl⟩
  have lt := runJ_lt g k hn
  obtain ⟨v, r, e1, e2, hra⟩ := hA.get lt
  obtain ⟨p, xs, rfl, hp⟩ := hra.ref
  have e1' : rvs[((runJ rs k n : Nat) : Int).toNat]? = some (.ref p) := by simpa using e1
  refine ⟨_, rfl, _, rfl, ixT hrt (by lia) e1' (ixT hp (by decide) rfl (.inl ⟨rfl, _, rfl, if_dec (fun hw => ?_) (fun hw => ?_)⟩))⟩
  · obtain ⟨t', rfl⟩ := word_jump (str_inj hw)
    have kl : k < rs.length := by
      by_cases c : k < rs.length
      · exact c
      · have : k = rs.length := by lia
        subst this
        have := g.ring n hn _ e2
        cases this
    refine ⟨fun σ' H'' => σ' = [some (.ref rt), some (.int (n : Nat)), some (.int (runJ rs (k + 1) n : Nat))] ∧ H'' = H', ?_, ?_⟩
    · rintro σ4 H4 ⟨rfl, rfl⟩
      exact ⟨rs.length - (k + 1), by lia, k + 1, kl, rfl, rfl, rfl⟩
    · refine ⟨_, rfl, _, rfl, ixT hrt (by lia) e1' ⟨.ref p, .jump t', rfl, hra, ?_⟩⟩
      have e : runJ rs (k + 1) n = t' := by rw [runJ_succ]; unfold stp; rw [e2]
      rw [e]
      exact ⟨rfl, rfl⟩
  · have e := runJ_end (rs := rs) (k := k) (n := n) hk fun r' hr' => by
      rw [e2] at hr'; cases hr'
      exact not_jump fun z => hw (by rw [z])
    rw [e] at q
    exact ⟨_, rfl, q⟩
def keyF (F : List Nat) : List (Key × V) := F.map fun (n : Nat) => (Sum.inl ((n : Nat) : Int), V.bl true)
theorem valF : ∀ (F : List Nat) (m : Nat), (valV (keyF F) (Sum.inl (m : Int))).isSome = decide (m ∈ F)
  | [], m => rfl
  | a :: r, m => by
    unfold valV keyF
    rw [List.map_cons, List.find?_cons]
    by_cases c : m = a
    · subst c
      rw [decide_eq_true (by rfl : ((Sum.inl (m : Int), V.bl true) : Key × V).1 = Sum.inl (m : Int))]
      rw [decide_eq_true List.mem_cons_self]
      rfl
    · have e : decide (((Sum.inl (a : Int), V.bl true) : Key × V).1 = Sum.inl (m : Int)) = false := decide_eq_false fun z => c (by injection z with z; lia)
      rw [e]
      have ih := valF r m
      unfold valV keyF at ih
      refine Eq.trans ih ?_
      rw [Bool.eq_iff_iff, decide_eq_true_eq, decide_eq_true_eq, List.mem_cons]
      exact ⟨.inr, fun z => z.resolve_left c⟩
theorem putF {F : List Nat} {m : Nat} (h : m ∉ F) : putK (keyF F) (Sum.inl (m : Int)) (V.bl true) = keyF (F ++ [m]) := by
  have e : valV (keyF F) (Sum.inl (m : Int)) = none := by
    have := valF F m
    rw [decide_eq_false h] at this
    cases q : valV (keyF F) (Sum.inl (m : Int)) with
    | none => rfl
    | some v => rw [q] at this; cases this
  rw [putK_new _ e]
  unfold keyF
  rw [List.map_append]
  rfl
theorem keyF_len (F : List Nat) : (keyF F).length = F.length := by unfold keyF; rw [List.length_map]
def Done (rs : List BRow) (un : Option Str) (F : List Nat) (n : Nat) : Prop := ∀ r, rs[n]? = some r → (∀ y, un = some y → setsOf r ≠ .str y) → ∀ m ∈ leadsL n r, m ∈ F
theorem Done.mono {rs : List BRow} {un : Option Str} {F F' : List Nat} {n : Nat} (h : Done rs un F n) (s : ∀ x ∈ F, x ∈ F') : Done rs un F' n := fun r e hy m hm => s m (h r e hy m hm)
structure WI (rs : List BRow) (un : Option Str) (F W : List Nat) (now : Nat → Prop) : Prop where
  nd : F.Nodup
  way : ∀ x ∈ F, Way rs un x
  zero : 0 ∈ F
  sub : ∀ x ∈ W, x ∈ F
  cl : ∀ x ∈ F, x ∈ W ∨ now x ∨ Done rs un F x
theorem WI.add {rs : List BRow} {un : Option Str} {F W : List Nat} {now : Nat → Prop} {m : Nat} (i : WI rs un F W now) (h : m ∉ F) (w : Way rs un m) : WI rs un (F ++ [m]) (W ++ [m]) now := by
  refine ⟨nd_snoc i.nd h, fun x hx => ?_, List.mem_append_left _ i.zero, fun x hx => ?_, fun x hx => ?_⟩
  · rcases List.mem_append.mp hx with z | z
    · exact i.way x z
    · rw [List.mem_singleton.mp z]; exact w
  · rcases List.mem_append.mp hx with z | z
    · exact List.mem_append_left _ (i.sub x z)
    · exact List.mem_append_right _ z
  · rcases List.mem_append.mp hx with z | z
    · rcases i.cl x z with a | a | a
      · exact .inl (List.mem_append_left _ a)
      · exact .inr (.inl a)
      · exact .inr (.inr (a.mono fun y hy => List.mem_append_left _ hy))
    · exact .inl (List.mem_append_right _ z)
def WkP (rt fd wl : Addr) (H : Hp) (rs : List BRow) (un : Option Str) (m : Nat) : St → Hp → Prop := fun σ' H' => ∃ (F W : List Nat) (o4 o5 : Option V), σ' = [some (.ref rt), some (uOf un), some (.ref fd), some (.ref wl), o4, o5] ∧ H' fd = some (.dK (keyF F)) ∧ H' wl = some (.lst (intsV W)) ∧ WI rs un F W (fun _ => False) ∧ Same H H' ∧ 2 * (rs.length - F.length) + W.length ≤ m
def WkQ (rt fd wl tp : Addr) (H : Hp) (rs : List BRow) (un : Option Str) (ms : List Nat) (n m j : Nat) : St → Hp → Prop := fun σ' H' => ∃ (F W : List Nat) (o5 : Option V), σ' = [some (.ref rt), some (uOf un), some (.ref fd), some (.ref wl), some (.int (n : Nat)), o5] ∧ H' fd = some (.dK (keyF F)) ∧ H' wl = some (.lst (intsV W)) ∧ H' tp = some (.tup (intsV ms)) ∧ WI rs un F W (fun x => x = n) ∧ Same H H' ∧ 2 * (rs.length - F.length) + W.length ≤ m ∧ ∀ i, i < j → ∀ x, ms[i]? = some x → x ∈ F
theorem intsV_snoc (ns : List Nat) (n : Nat) : intsV (ns ++ [n]) = intsV ns ++ [V.int (n : Nat)] := by unfold intsV; rw [List.map_append]; rfl
theorem WI.done {rs : List BRow} {un : Option Str} {F : List Nat} (i : WI rs un F [] (fun _ => False)) (m : Nat) : m ∈ F ↔ Way rs un m := by
  refine ⟨i.way m, fun h => ?_⟩
  induction h with
  | zero => exact i.zero
  | step _ e hy hm ih =>
    rcases i.cl _ ih with z | z | z
    · cases z
    · exact z.elim
    · exact z _ e hy _ hm
theorem WI.len {rs : List BRow} {un : Option Str} {F W : List Nat} {now : Nat → Prop} (g : RowsGood rs) (i : WI rs un F W now) : F.length ≤ rs.length := nodup_lt i.nd fun x hx => (i.way x hx).lt g
theorem wk_on {K : PySem.W.Frag} {rt fd wl : Addr} {H H1 : Hp} {rvs : List V} {rs : List BRow} {un : Option Str} {F W : List Nat} {n m : Nat} {r : BRow} {v : V} {o5 : Option V} {D : Ends} (hrt : H rt = some (.tup rvs)) (hfd : H fd = none) (hwl : H wl = none) (nfw : fd ≠ wl) (g : RowsGood rs)
    (e1 : rvs[n]? = some v) (e2 : rs[n]? = some r) (hra : RowAt H v r) (hy : ∀ y, un = some y → setsOf r ≠ .str y) (hn : Way rs un n) (h1 : H1 fd = some (.dK (keyF F))) (h2 : H1 wl = some (.lst (intsV W))) (i : WI rs un F W (fun x => x = n)) (s : Same H H1) (hm : 2 * (rs.length - F.length) + W.length ≤ m) (hmb : m ≤ 1000)
    (q : ∀ (σ' : St) (H' : Hp), WkP rt fd wl H rs un m σ' H' → D.nx σ' H') :
    tFor (iSeq K (tCall (sp_p_leads K) [] E0 (tCons (tVar 0) (tCons (tVar 4) tNil)))) (gName 5) (t_p_walked_3 K) D [some (.ref rt), some (uOf un), some (.ref fd), some (.ref wl), some (.int (n : Nat)), o5] H1 := by
  refine .inr ⟨_, rfl, _, rfl, rt, n, rvs, v, r, rfl, s _ _ hrt, e1, hra.mono (.of_same s), fun tp H2 htp s2 => ⟨tp, rfl, ⟨_, SqT.of htp⟩, for_tup (xs := intsV (leadsL n r)) (WkQ rt fd wl tp H rs un (leadsL n r) n m) ?_ ?_ ?_ ?_⟩⟩
  · exact ⟨F, W, _, rfl, s2 _ _ h1, s2 _ _ h2, htp, i, s.trans s2, hm, fun i hi => absurd hi (Nat.not_lt_zero _)⟩
  · rintro j σ' H' _ ⟨_, _, _, _, _, _, h3, _⟩
    exact SqT.of h3
  · rintro j x σ' H' hx ⟨F', W', p5, rfl, h3, h4, h5, i', s', hm', hj⟩
    obtain ⟨to, hto, rfl⟩ := intsV_of hx
    have hw : Way rs un to := .step hn e2 hy (List.mem_of_getElem? hto)
    have fl := i'.len g
    have few := g.few
    show t_p_walked_3 K _ [some (.ref rt), some (uOf un), some (.ref fd), some (.ref wl), some (.int (n : Nat)), some (.int (to : Nat))] H'
    refine ⟨_, rfl, _, rfl, fd, _, rfl, DGet.k (k := Sum.inl (to : Int)) h3, _, rfl, ?_⟩
    show if (!(valV (keyF F') (Sum.inl (to : Int))).isSome) = true then _ else _
    rw [valF]
    refine if_not (fun hin => ?_) (fun hin => ?_)
    · have nd' := nodup_lt (nd_snoc i'.nd hin) (n := rs.length) fun y hy' => by
        rcases List.mem_append.mp hy' with z | z
        · exact (i'.way y z).lt g
        · rw [List.mem_singleton.mp z]; exact hw.lt g
      rw [List.length_append, List.length_singleton] at nd'
      refine ⟨_, rfl, _, rfl, fd, _, rfl, DPut.k (k := Sum.inl (to : Int)) h3 (smallL (by rw [keyF_len]; lia)), ?_⟩
      rw [putF hin]
      have h4' : (upd H' fd (.dK (keyF (F' ++ [to])))) wl = some (.lst (intsV W')) := by rw [upd_ne (Ne.symm nfw)]; exact h4
      have nwl : W'.length ≤ 100000 := by lia
      refine ⟨_, rfl, .inl ⟨rfl, _, SqL.of h4'⟩, _, rfl, wl, _, _, rfl, rfl, h4', smallL (by rw [intsV_len]; exact nwl), ?_⟩
      have ntf : tp ≠ fd := fun z => by rw [z, h3] at h5; cases h5
      have ntw : tp ≠ wl := fun z => by rw [z, h4] at h5; cases h5
      refine ⟨F' ++ [to], W' ++ [to], _, rfl, by rw [upd_ne nfw, upd_same], by rw [upd_same, intsV_snoc], by rw [upd_ne ntw, upd_ne ntf]; exact h5, i'.add hin hw, at_new (at_new s' hfd) hwl, ?_, fun k hk x hxk => ?_⟩
      · simp only [List.length_append, List.length_singleton]; lia
      · by_cases c : k < j
        · exact List.mem_append_left _ (hj k c x hxk)
        · have : k = j := by lia
          subst this
          rw [hto] at hxk; cases hxk
          exact List.mem_append_right _ (List.mem_singleton.mpr rfl)
    · refine ⟨F', W', _, rfl, h3, h4, h5, i', s', hm', fun k hk x hxk => ?_⟩
      by_cases c : k < j
      · exact hj k c x hxk
      · have : k = j := by lia
        subst this
        rw [hto] at hxk; cases hxk
        exact hin
  · rintro σ' H' ⟨F', W', p5, rfl, h3, h4, h5, i', s', hm', hj⟩
    rw [intsV_len] at hj
    refine q _ _ ⟨F', W', _, _, rfl, h3, h4, ⟨i'.nd, i'.way, i'.zero, i'.sub, fun x hx => ?_⟩, s', hm'⟩
    rcases i'.cl x hx with z | z | z
    · exact .inl z
    · subst z
      refine .inr (.inr fun r' e _ m' hm' => ?_)
      rw [e2] at e; cases e
      obtain ⟨k, hk, ek⟩ := List.mem_iff_getElem.mp hm'
      exact hj k hk m' (by rw [List.getElem?_eq_getElem hk, ek])
    · exact .inr (.inr z)
theorem r_p_walked {K : PySem.W.Frag} {vs : List V} {H : Hp} {Q : VK} {E : XK} (h : sp_p_walked K vs H Q E) : t_p_walked K { nx := fun _ H' => Q .non H', rt := Q } (start N_p_walked vs) H := by
  obtain ⟨rt, un, rvs, rs, rfl, hrt, hA, g, q⟩ := h
  refine fun fd hfd => ⟨upd_same, [(Sum.inl 0, V.bl true)], rfl, by decide, ?_⟩
  have e0 : upd (upd H fd (.dK [])) fd (.dK (mergeK [] [(Sum.inl 0, V.bl true)])) = upd H fd (.dK (keyF [0])) := by
    rw [upd_upd]
    have : mergeK [] [((Sum.inl 0 : Key), V.bl true)] = keyF [0] := by
      show putK [] (Sum.inl 0) (V.bl true) = _
      rw [putK_new _ valV_nil]; rfl
    rw [this]
  show t_p_walked_7 K _ [some (.ref rt), some (uOf un), some (.ref fd), none, none, none] (upd (upd H fd (.dK [])) fd (.dK (mergeK [] [(Sum.inl 0, V.bl true)])))
  rw [e0]
  refine ⟨(by show 1 ≤ sizeLine; decide), fun wl hwl0 => ?_⟩
  have nfw : fd ≠ wl := ne_of_none upd_same hwl0
  have hwl : H wl = none := by
    have : (upd H fd (.dK (keyF [0]))) wl = H wl := upd_ne (Ne.symm nfw)
    rw [← this]; exact hwl0
  show t_p_walked_6 K _ [some (.ref rt), some (uOf un), some (.ref fd), some (.ref wl), none, none] (upd (upd H fd (.dK (keyF [0]))) wl (.lst [V.int 0]))
  have few0 := g.few
  refine ⟨fun m σ' H' => m ≤ 1000 ∧ WkP rt fd wl H rs un m σ' H', ⟨2 * (rs.length - 1) + 1, by lia, [0], [0], none, none, rfl, by rw [upd_ne nfw, upd_same], upd_same, ⟨by simp, fun x hx => by rw [List.mem_singleton.mp hx]; exact .zero, by simp, fun x hx => hx, fun x hx => .inl hx⟩, at_new (at_new (Same.refl H) hfd) hwl, by simp⟩, ?_⟩
  rintro m σ' H1 ⟨hmb, F, W, o4, o5, rfl, h1, h2, i, s, hm⟩
  refine ⟨_, rfl, _, _, rfl, .inl ⟨_, SqL.of h2, rfl⟩, _, _, rfl, rfl, _, rfl, if_dec (fun hl => ?_) (fun hl => ?_)⟩
  · rw [intsV_len] at hl
    obtain ⟨L, n, rfl⟩ : ∃ L n, W = L ++ [n] := by
      rcases List.eq_nil_or_concat W with z | ⟨L, n, z⟩
      · subst z; simp at hl
      · exact ⟨L, n, by rw [z, List.concat_eq_append]⟩
    have hnF := i.sub n (List.mem_append_right _ (List.mem_singleton.mpr rfl))
    have hn := i.way n hnF
    have nl := hn.lt g
    obtain ⟨v, r, e1, e2, hra⟩ := hA.get nl
    have hm1 : 2 * (rs.length - F.length) + L.length ≤ m - 1 := by rw [List.length_append, List.length_singleton] at hm; lia
    have m0 : 0 < m := by rw [List.length_append, List.length_singleton] at hm; lia
    refine ⟨WkP rt fd wl H rs un (m - 1), fun σ4 H4 h4 => ⟨m - 1, by lia, by lia, h4⟩, ?_⟩
    rw [intsV_snoc] at h2
    refine ⟨_, rfl, .inl ⟨rfl, _, SqL.of h2⟩, wl, _, V.int (n : Nat), rfl, rfl, h2, ?_, ?_⟩
    · rw [List.length_append, List.length_singleton, Nat.add_sub_cancel, List.getElem?_append_right (Nat.le_refl _), Nat.sub_self]; rfl
    rw [List.dropLast_concat]
    show t_p_walked_4 K _ [some (.ref rt), some (uOf un), some (.ref fd), some (.ref wl), some (.int (n : Nat)), o5] (upd H1 wl (.lst (intsV L)))
    have h1' : (upd H1 wl (.lst (intsV L))) fd = some (.dK (keyF F)) := by rw [upd_ne nfw]; exact h1
    have h2' : (upd H1 wl (.lst (intsV L))) wl = some (.lst (intsV L)) := upd_same
    have s' : Same H (upd H1 wl (.lst (intsV L))) := at_new s hwl
    generalize upd H1 wl (.lst (intsV L)) = H2 at h1' h2' s'
    have i' : WI rs un F L (fun x => x = n) := ⟨i.nd, i.way, i.zero, fun x hx => i.sub x (List.mem_append_left _ hx), fun x hx => by
      rcases i.cl x hx with z | z | z
      · rcases List.mem_append.mp z with z | z
        · exact .inl z
        · exact .inr (.inl (List.mem_singleton.mp z))
      · exact z.elim
      · exact .inr (.inr z)⟩
    have e1' : rvs[((n : Nat) : Int).toNat]? = some v := by simpa using e1
    cases un with
    | none =>
      refine ⟨_, rfl, rfl, _, rfl, iteT (iteT ?_)⟩
      exact wk_on hrt hfd hwl nfw g e1 e2 hra (fun y z => by cases z) hn h1' h2' i' s' hm1 (by lia) fun _ _ z => z
    | some y =>
      refine ⟨_, rfl, rfl, _, rfl, iteF ?_⟩
      refine ⟨_, rfl, _, rfl, ixT (s' _ _ hrt) (by lia) e1' ⟨v, r, rfl, hra.mono (.of_same s'), fun H3 s3 => ⟨_, rfl, .inl ⟨?_, _, rfl, ?_⟩⟩⟩⟩
      · cases r <;> rfl
      · refine if_not (fun hne => ?_) (fun he => ?_)
        · exact wk_on hrt hfd hwl nfw g e1 e2 hra (fun y' z => by cases z; exact hne) hn (s3 _ _ h1') (s3 _ _ h2') i' (s'.trans s3) hm1 (by lia) fun _ _ z => z
        · refine ⟨F, L, _, _, rfl, s3 _ _ h1', s3 _ _ h2', ⟨i'.nd, i'.way, i'.zero, i'.sub, fun x hx => ?_⟩, s'.trans s3, hm1⟩
          rcases i'.cl x hx with z | z | z
          · exact .inl z
          · subst z
            refine .inr (.inr fun r' e hy => ?_)
            rw [e2] at e; cases e
            exact absurd he (hy y rfl)
          · exact .inr (.inr z)
  · rw [intsV_len] at hl
    have : W = [] := List.length_eq_zero_iff.mp (by lia)
    subst this
    have fl := i.len g
    have few := g.few
    refine ⟨_, rfl, fd, _, F.map (fun n => ((n : Nat) : Int)), rfl, h1, ?_, by rw [List.length_map]; lia, fun l ns' hl' hp hs => ?_⟩
    · unfold keyF; rw [List.map_map, List.map_map]; rfl
    · obtain ⟨ks, rfl, hk, hr⟩ := perm_nats hp hs i.nd
      have e : (ks.map fun n => ((n : Nat) : Int)).map V.int = intsV ks := by unfold intsV; rw [List.map_map]; rfl
      rw [e]
      refine q l ks _ (fun m => (hk m).trans (i.done m)) hr upd_same (s.free hl') (s.new hl')
end Bg
end
section
set_option Elab.async false
set_option linter.all false
set_option maxRecDepth 100000
set_option maxHeartbeats 4000000
namespace Bg
open PySem L2
def noJ (rs : List BRow) (m : Nat) : Bool := match rs[m]? with
  | some r => !isJump r
  | none => false
theorem noJ_iff {rs : List BRow} {m : Nat} (h : m < rs.length) : noJ rs m = true ↔ ∀ r, rs[m]? = some r → isJump r = false := by
  unfold noJ
  rw [List.getElem?_eq_getElem h]
  constructor
  · intro z r e; cases e; simpa using z
  · intro z; simpa using z _ rfl
theorem word_noJ {r : BRow} {rs : List BRow} {m : Nat} (e : rs[m]? = some r) : (!decide (V.str (word r) = V.str "jump")) = noJ rs m := by
  unfold noJ
  rw [e]
  cases r with
  | jump t => show (!decide (V.str "jump" = V.str "jump")) = false; decide +kernel
  | num x z => show (!decide (V.str "num" = V.str "jump")) = true; decide +kernel
  | op x s a b => show (!decide (V.str "op" = V.str "jump")) = true; decide +kernel
  | call x k as => show (!decide (V.str "call" = V.str "jump")) = true; decide +kernel
  | say a => show (!decide (V.str "say" = V.str "jump")) = true; decide +kernel
  | test a t => show (!decide (V.str "test" = V.str "jump")) = true; decide +kernel
  | give a => show (!decide (V.str "give" = V.str "jump")) = true; decide +kernel
theorem intsV_append (a b : List Nat) : intsV (a ++ b) = intsV a ++ intsV b := by unfold intsV; rw [List.map_append]
theorem r_p_come_to {K : PySem.W.Frag} {vs : List V} {H : Hp} {Q : VK} {E : XK} (h : sp_p_come_to K vs H Q E) : t_p_come_to K { nx := fun _ H' => Q .non H', rt := Q } (start N_p_come_to vs) H := by
  obtain ⟨rt, rvs, rs, rfl, hrt, hA, g, q⟩ := h
  refine .inl ⟨_, rfl, rt, none, rvs, rs, rfl, hrt, hA, g, fun l ns H1 hns hr hl hl0 s1 => ⟨l, rfl, ⟨_, SqL.of hl⟩, fun D hD => ?_⟩⟩
  have nD : l ≠ D := ne_of_none hl hD
  have nlt : ∀ m ∈ ns, m < rs.length := fun m hm => ((hns m).mp hm).lt g
  refine comp_list (xs := intsV ns) (fun j σ' H' => ∃ o, σ' = [some (.ref rt), o] ∧ H' = upd H1 D (.lst (intsV ((ns.take j).filter (noJ rs))))) ?_ ?_ ?_ ?_
  · exact ⟨none, rfl, rfl⟩
  · rintro j σ' H' _ ⟨o, _, rfl⟩
    exact SqL.of (by rw [upd_ne nD]; exact hl)
  · rintro j x σ' H' hx ⟨o, rfl, rfl⟩
    obtain ⟨m, hm, rfl⟩ := intsV_of hx
    have ml := nlt m (List.mem_of_getElem? hm)
    obtain ⟨v, r, e1, e2, hra⟩ := (hA.imp fun _ _ z => z.mono (Tp.of_same s1)).get ml
    have nj : j < ns.length := (List.getElem?_eq_some_iff.mp hm).1
    have few := g.few
    have nsl : ns.length ≤ rs.length := nodup_lt (hr.imp fun h => Nat.ne_of_lt h) nlt
    have ft := filter_take (noJ rs) ns j m hm
    have fl : ((ns.take j).filter (noJ rs)).length ≤ 100 := Nat.le_trans (List.length_filter_le _ _) (by rw [List.length_take]; lia)
    obtain ⟨p, xs, rfl, hp⟩ := hra.ref
    have e1' : rvs[((m : Nat) : Int).toNat]? = some (.ref p) := by simpa using e1
    have nrt : rt ≠ D := ne_of_none (s1 _ _ hrt) hD
    have np : p ≠ D := ne_of_none hp hD
    refine ⟨_, rfl, _, rfl, ixT (by rw [upd_ne nrt]; exact s1 _ _ hrt) (by lia) e1' (ixT (by rw [upd_ne np]; exact hp) (by decide) rfl (.inl ⟨rfl, _, rfl, ?_⟩))⟩
    rw [word_noJ e2]
    refine if_bl (fun hb => ?_) (fun hb => ?_)
    · refine ⟨_, rfl, _, upd_same, smallL (by rw [intsV_len]; lia), _, rfl, ?_⟩
      rw [upd_upd, ft, if_pos hb, intsV_append]
      rfl
    · refine ⟨_, rfl, ?_⟩
      rw [ft, if_neg (by rw [hb]; decide), List.append_nil]
  · rintro σ' H2 ⟨o, _, rfl⟩
    have et : ns.take (intsV ns).length = ns := List.take_of_length_le (by rw [intsV_len]; exact Nat.le_refl _)
    rw [et]
    refine q D _ _ (fun m => ?_) (hr.filter _) upd_same (s1.free hD) (s1.new hD)
    rw [List.mem_filter]
    constructor
    · rintro ⟨h1, h2⟩
      exact ⟨(hns m).mp h1, (noJ_iff (nlt m h1)).mp h2⟩
    · rintro ⟨h1, h2⟩
      have h1' := (hns m).mpr h1
      exact ⟨h1', (noJ_iff (nlt m h1')).mpr h2⟩
end Bg
end
section
set_option Elab.async false
set_option linter.all false
set_option maxRecDepth 100000
set_option maxHeartbeats 4000000
set_option autoImplicit true
set_option relaxedAutoImplicit true
namespace L2
open PySem PySem.Spec PyProof.Rows
structure QE (X : Cx) (e : Expr) (t : TE) : Prop where
  up : PE X e t
structure QT (X : Cx) (e : Expr) (t : TT) : Prop where
  up : PT X e t
structure QW (X : Cx) (e : Expr) (t : TT) : Prop where
  up : PW X e t
structure QA (X : Cx) (e : List Expr) (t : TA) : Prop where
  up : PA X e t
structure QS (X : Cx) (e : Stmt) (t : TS) : Prop where
  up : PS X e t
structure QSs (X : Cx) (e : List Stmt) (t : TS) : Prop where
  up : PSs X e t
structure QG (X : Cx) (e : Expr) (t : TG) : Prop where
  up : PG X e t
structure QGs (X : Cx) (e : List Expr) (t : TGs) : Prop where
  up : PGs X e t
structure QI (X : Cx) (a b : Expr) (t : TI) : Prop where
  up : PI X a b t
structure QO (X : Cx) (e : Option Expr) (t : TO) : Prop where
  up : PO X e t
structure QIfs (X : Cx) (e : List Expr) (t : TT) : Prop where
  up : PIfs X e t
theorem qv (i : Nat) {x : Str} {pos : Pos} (hN : X.N[i]? = some x := by rfl) (hv : Vis X.env.scope x := by first | exact Or.inl rfl | exact Or.inr (Or.inl rfl) | exact Or.inr (Or.inr rfl)) (hd : (x == ("__debug__" : Str)) = false := by decide) (hcd : (x == ("__classdict__" : Str)) = false := by decide) : QE X (.Name x pos) (tVar i) :=
  ⟨pv i hN hv hd hcd⟩
theorem qe_int {i j pos} : QE X (.Constant (.int i) j pos) (tC (.int i)) :=
  ⟨pe_int ⟩
theorem qe_bl {b j pos} : QE X (.Constant (.bool b) j pos) (tC (.bl b)) :=
  ⟨pe_bl ⟩
theorem qe_non {j pos} : QE X (.Constant .none j pos) (tC .non) :=
  ⟨pe_non ⟩
theorem qe_str {x j pos} : QE X (.Constant (.str x) j pos) (tC (.str x)) :=
  ⟨pe_str ⟩
theorem qe_op {op : Operator} {r : R2} (ho : OpR X (binaryOp op) r) (ha : QE X a ta) (hb : QE X b tb) : QE X (.BinOp a op b pos) (tOp r ta tb) :=
  ⟨pe_op ho ha.up hb.up⟩
theorem qe_un {op : UnaryOp} {r : V → Hp → VK → Prop} (ho : UnR X (unaryOp op) r) (ha : QE X a ta) : QE X (.UnaryOp op a pos) (tUn r ta) :=
  ⟨pe_un ho ha.up⟩
theorem qe_cmpR {op : CmpOp} {r : R2} (ho : OpR X (compareOp op) r) (ha : QE X a ta) (hb : QE X b tb) (hm : behindInMarks op b = false) : QE X (.Compare a [op] [b] pos) (tOp r ta tb) :=
  ⟨pe_cmpR ho ha.up hb.up hm⟩
theorem qe_and {rest : List Expr} (ha : QE X a ta) (hb : QE X (.BoolOp .And (b :: rest) pos) tb) : QE X (.BoolOp .And (a :: b :: rest) pos) (tAndV ta tb) :=
  ⟨pe_and ha.up hb.up⟩
theorem qe_one {op} {t : TE} (h : QE X a t) : QE X (.BoolOp op [a] pos) t :=
  ⟨pe_one h.up⟩
theorem qe_slice {lo hi : Option Expr} {r : V → Option Int → Option Int → Hp → VK → Prop} (hr : SlR X r) (he : QE X e te) (hl : QO X lo tl) (hu : QO X hi th) : QE X (.Subscript e (.Slice lo hi none p2) pos) (tSl r te tl th) :=
  ⟨pe_slice hr he.up hl.up hu.up⟩
theorem qe_ix {r : R2} (hr : IxR X r) (ha : QE X a ta) (hb : QE X b tb) (hs : PlainIx b) : QE X (.Subscript a b pos) (tOp r ta tb) :=
  ⟨pe_ix hr ha.up hb.up hs⟩
theorem qe_tup {x1} (h : QA X es t) : QE X (.Tuple es x1 pos) (tTup t) :=
  ⟨pe_tup h.up⟩
theorem qe_lst (h : QA X es t) : QE X (.List es pos) (tLst t) :=
  ⟨pe_lst h.up⟩
theorem qe_bm {id : String} (pa : PlainAttrs T) (slot : Slot T name id) (hty : typeOf (.builtin id) = pure (.type "method_descriptor")) (hm : MtR X id r) (ho : QE X o to) (ha : QA X (e :: es) t) (hbase : attributeBase o name X.env (eval o X.env) = eval o X.env := by rfl) (hfew : ((backTo cpos (starEach (e :: es) X.env)).all (fun x => !x.1) && (backToKw cpos (keywordEach [] X.env)).all (fun x => x.1.isSome)
      && decide ((e :: es).length + ([] : List Keyword).length + (if ([] : List Keyword).isEmpty then 0 else 1) < 30)) = true := by rfl) (hline : (apos.endLine == cpos.line) = true := by rfl) (hs : starEach (e :: es) X.env = (false, eval e X.env) :: starEach es X.env := by rfl) (hplain : (backTo cpos (starEach es X.env)).any (·.1) = false := by rfl) : QE X (.Call (.Attribute o name apos) (e :: es) [] cpos) (tBM X.K T r to t) :=
  ⟨pe_bm pa slot hty hm ho.up ha.up hbase hfew hline hs hplain⟩
theorem qe_bm0 {id : String} (pa : PlainAttrs T) (slot : Slot T name id) (hty : typeOf (.builtin id) = pure (.type "method_descriptor")) (hm : MtR X id r) (ho : QE X o to) (hbase : attributeBase o name X.env (eval o X.env) = eval o X.env := by rfl) (hline : (apos.endLine == cpos.line) = true := by rfl) : QE X (.Call (.Attribute o name apos) [] [] cpos) (tBM0 X.K T r to) :=
  ⟨pe_bm0 pa slot hty hm ho.up hbase hline⟩
theorem qe_callB {id : String} (hc : CallR X (.builtin id) r) (hg : Gl X x) (hm : X.mg x = none) (hv : bootBuiltins x = some (.builtin id)) (ha : QA X (e :: es) t) (hn : x ≠ "__name__" := by decide) (hdb : (x == ("__debug__" : Str)) = false := by decide) (he : starEach (e :: es) X.env = (false, eval e X.env) :: starEach es X.env := by rfl) (hpl : (backTo pos (starEach es X.env)).any (·.1) = false := by rfl) : QE X (.Call (.Name x p) (e :: es) [] pos) (tCB r t) :=
  ⟨pe_callB hc hg hm hv ha.up hn hdb he hpl⟩
theorem qe_callTy (hc : CallR X (.type T) r) (hg : Gl X x) (hm : X.mg x = none) (hv : bootBuiltins x = some (.type T)) (ha : QA X (e :: es) t) (hn : x ≠ "__name__" := by decide) (hdb : (x == ("__debug__" : Str)) = false := by decide) (he : starEach (e :: es) X.env = (false, eval e X.env) :: starEach es X.env := by rfl) (hpl : (backTo pos (starEach es X.env)).any (·.1) = false := by rfl) : QE X (.Call (.Name x p) (e :: es) [] pos) (tCB r t) :=
  ⟨pe_callTy hc hg hm hv ha.up hn hdb he hpl⟩
theorem qe_fn {X : Cx} {x : Str} {ps : List Str} {k : Nat} {sp : Sp} {e : Expr} {es : List Expr} {t : TA} {p pos : Pos} (c : Callee X.prog X.w X.K X.mg X.base x ps k sp) (hr : Room k X.A) (hg : Gl X x) (ha : QA X (e :: es) t) (hdb : (x == ("__debug__" : Str)) = false := by decide) (he : starEach (e :: es) X.env = (false, eval e X.env) :: starEach es X.env := by rfl) (hpl : (backTo pos (starEach es X.env)).any (·.1) = false := by rfl) : QE X (.Call (.Name x p) (e :: es) [] pos) (tCall sp [] E0 t) :=
  ⟨pe_fn c hr hg ha.up hdb he hpl⟩
theorem qe_comp {wi : TI} (ok : CompOk sc N scope NY js) (hsc : X.env.scope = sc) (hN : X.N = N) (hk : NY.length = N.length + k) (hc : X.calm = true) (hit : QI X target iter wi) (hg : ∀ cl C s₀ H₀ fp, QG (cxComp X NY scope cl C s₀ H₀ fp) target g) (hi : ∀ cl C s₀ H₀ fp, QIfs (cxComp X NY scope cl C s₀ H₀ fp) ifs tc) (he : ∀ cl C s₀ H₀ fp, QE (cxComp X NY scope cl C s₀ H₀ fp) elt te) (hs : ∀ x, foldedSetIterable iter X.env x = pure x := by intro _; rfl) : QE X (.ListComp elt [⟨target, iter, ifs, 0⟩] scope pos) (tComp js k wi g tc te) :=
  ⟨pe_comp ok hsc hN hk hc hit.up (fun cl C s₀ H₀ fp => (hg cl C s₀ H₀ fp).up) (fun cl C s₀ H₀ fp => (hi cl C s₀ H₀ fp).up) (fun cl C s₀ H₀ fp => (he cl C s₀ H₀ fp).up) hs⟩
theorem qs_comp {wi : TI} {i : Nat} {y : Str} {py spos : Pos} (ok : CompOk sc N scope NY js) (hsc : X.env.scope = sc) (hN : X.N = N) (hk : NY.length = N.length + k) (hc : X.calm = true) (hit : QI X target iter wi) (hg : ∀ cl C s₀ H₀ fp, QG (cxComp X NY scope cl C s₀ H₀ fp) target g) (hi : ∀ cl C s₀ H₀ fp, QIfs (cxComp X NY scope cl C s₀ H₀ fp) ifs tc) (he : ∀ cl C s₀ H₀ fp, QE (cxComp X NY scope cl C s₀ H₀ fp) elt te) (nd : X.N.Nodup) (hy : X.N[i]? = some y) (hl : Loc X.env.scope y) (hsw : swapsWith (.ListComp elt [⟨target, iter, ifs, 0⟩] scope pos) (some (.Name y py)) spos.line X.env = pure true) (hs : ∀ x, foldedSetIterable iter X.env x = pure x := by intro _; rfl) (hf : X.fn y = true ∨ X.env.scope.names.lookup y = some .local := by first | exact .inl rfl | exact .inr rfl | assumption) : QS X (.Assign [.Name y py] (.ListComp elt [⟨target, iter, ifs, 0⟩] scope pos) spos) (tAsg (tComp js k wi g tc te) (gName i)) :=
  ⟨ps_comp ok hsc hN hk hc hit.up (fun cl C s₀ H₀ fp => (hg cl C s₀ H₀ fp).up) (fun cl C s₀ H₀ fp => (hi cl C s₀ H₀ fp).up) (fun cl C s₀ H₀ fp => (he cl C s₀ H₀ fp).up) nd hy hl hsw hs hf⟩
theorem qo_none  : QO X none tNoPart :=
  ⟨po_none ⟩
theorem qo_some (h : QE X e te) : QO X (some e) (tPart te) :=
  ⟨po_some h.up⟩
theorem qa_nil  : QA X [] tNil :=
  ⟨pa_nil ⟩
theorem qa_cons (ha : QE X e te) (hr : QA X es t) (hs : starEach (e :: es) X.env = (false, eval e X.env) :: starEach es X.env := by rfl) : QA X (e :: es) (tCons te t) :=
  ⟨pa_cons ha.up hr.up hs⟩
theorem qt_cmpR {op : CmpOp} {r : R2} (ho : OpR X (compareOp op) r) (ha : QE X a ta) (hb : QE X b tb) (hm : behindInMarks op b = false) : QT X (.Compare a [op] [b] pos) (tTest (tOp r ta tb)) :=
  ⟨pt_cmpR ho ha.up hb.up hm⟩
theorem qt_not (ha : QT X a tA) : QT X (.UnaryOp .Not a pos) (tNot tA) :=
  ⟨pt_not ha.up⟩
theorem qw_and {rest : List Expr} (ha : QT X a tA) (hb : QW X (.BoolOp .And (b :: rest) pos) tB') : QW X (.BoolOp .And (a :: b :: rest) pos) (tAnd tA tB') :=
  ⟨pw_and ha.up hb.up⟩
theorem qw_and1 (ha : QT X a tA) : QW X (.BoolOp .And [a] pos) tA :=
  ⟨pw_and1 ha.up⟩
theorem qw_or {rest : List Expr} (ha : QT X a tA) (hb : QW X (.BoolOp .Or (b :: rest) pos) tB') : QW X (.BoolOp .Or (a :: b :: rest) pos) (tOr tA tB') :=
  ⟨pw_or ha.up hb.up⟩
theorem qw_or1 (ha : QT X a tA) : QW X (.BoolOp .Or [a] pos) tA :=
  ⟨pw_or1 ha.up⟩
theorem QW.pt {X : Cx} {e : Expr} {t : TT} (h : QW X e t) : QT X e t :=
  ⟨PW.pt h.up⟩
theorem qt_val {e : Expr} {t : TE} (h : QE X e t) (he : ∀ whole, isTrue e X.env whole = (do let v ← whole; standAt e.pos; holding [v] (truthy v)) := by intro _; rfl) : QT X e (tB t) :=
  ⟨pt_val h.up he⟩
theorem qi_range1 {a : Expr} {ta : TA} {p pos : Pos} (hg : Gl X "range") (hm : X.mg "range" = none) (ha : QA X [a] ta) (hs : starEach [a] X.env = [(false, eval a X.env)] := by rfl) : QI X tg (.Call (.Name "range" p) [a] [] pos) (iRng1 ta) :=
  ⟨pi_range1 hg hm ha.up hs⟩
theorem qi_enum {a : Expr} {ta : TA} {p pos : Pos} (hg : Gl X "enumerate") (hm : X.mg "enumerate" = none) (ha : QA X [a] ta) (hs : starEach [a] X.env = [(false, eval a X.env)] := by rfl) : QI X (.Tuple elts k tpos) (.Call (.Name "enumerate" p) [a] [] pos) (iEnum X.K ta) :=
  ⟨pi_enum hg hm ha.up hs⟩
theorem qi_zip {a b : Expr} {ta : TA} {p pos : Pos} (hg : Gl X "zip") (hm : X.mg "zip" = none) (ha : QA X [a, b] ta) (hs : starEach [a, b] X.env = [(false, eval a X.env), (false, eval b X.env)] := by rfl) (hs2 : starEach [b] X.env = [(false, eval b X.env)] := by rfl) : QI X (.Tuple elts k tpos) (.Call (.Name "zip" p) [a, b] [] pos) (iZip X.K ta) :=
  ⟨pi_zip hg hm ha.up hs hs2⟩
theorem qi_seq {tg l : Expr} {tl : TE} (hl : QE X l tl) : QI X tg l (iSeq X.K tl) :=
  ⟨pi_seq hl.up⟩
theorem qg_name {i : Nat} {x : Str} (hN : X.N.Nodup) (hi : X.N[i]? = some x) (hx : Loc X.env.scope x) (hf : X.fn x = true ∨ X.env.scope.names.lookup x = some .local := by first | exact .inl rfl | exact .inr rfl | assumption) : QG X (.Name x pos) (gName i) :=
  ⟨pg_name hN hi hx hf⟩
theorem qg_tup {es : List Expr} {k : Nat} {t : TGs} {n : Nat} (hc : X.calm = true) (h : QGs X es t) (hn : (assignEach es X.env).length = n := by rfl) (hst : (assignEach es X.env).findIdx? (·.1) = none := by rfl) : QG X (.Tuple es k pos) (gTup X.K n t) :=
  ⟨pg_tup hc h.up hn hst⟩
theorem qg_tupL {es : List Expr} {k : Nat} {t : TGs} {n : Nat} (hc : X.calm = true) (h : QGs X es t) (hn : (assignEach es X.env).length = n := by rfl) (hst : (assignEach es X.env).findIdx? (·.1) = none := by rfl) : QG X (.Tuple es k pos) (gTupL X.K n t) :=
  ⟨pg_tupL hc h.up hn hst⟩
theorem qgs_nil  : QGs X [] gNil :=
  ⟨pgs_nil ⟩
theorem qgs_cons {e : Expr} {es : List Expr} {t : TG} {u : TGs} (h1 : QG X e t) (h2 : QGs X es u) (hs : (assignEach (e :: es) X.env).map (·.2) = assign e X.env :: (assignEach es X.env).map (·.2) := by rfl) : QGs X (e :: es) (gCons t u) :=
  ⟨pgs_cons h1.up h2.up hs⟩
theorem qg_sub {o i : Expr} {to ti : TE} {t : TSet} (ho : QE X o to) (hi : QE X i ti) (hs : PSet X t) (ha : ∀ v, assign (.Subscript o i pos) X.env v = (do
      let ov ← holding [v] (eval o X.env)
      let iv ← holding [v, ov] (eval i X.env)
      standAt pos
      holding [v, ov, iv] (setItem ov iv v)
      release [v, ov, iv] []) := by intro _; rfl) : QG X (.Subscript o i pos) (gSub to ti t) :=
  ⟨pg_sub ho.up hi.up hs ha⟩
theorem qs_set {i : Nat} {x : Str} {e : Expr} {te : TE} {pos' : Pos} (hN : X.N.Nodup) (hi : X.N[i]? = some x) (hx : Loc X.env.scope x) (he : QE X e te) (hs : swapsWith e (some (.Name x pos')) pos.line X.env = pure false := by rfl) (hf : X.fn x = true ∨ X.env.scope.names.lookup x = some .local := by first | exact .inl rfl | exact .inr rfl | assumption) : QS X (.Assign [.Name x pos'] e pos) (tAsg te (gName i)) :=
  ⟨ps_set hN hi hx he.up hs hf⟩
theorem qs_asg {tg e : Expr} {te : TE} {g : TG} (he : QE X e te) (hg : QG X tg g) (hs : swapsWithSole [tg] e pos.line X.env = pure false := by rfl) (hw : swappedStores [tg] e X.env = pure none := by rfl) (h1 : (assignEach [tg] X.env).map (·.2) = [assign tg X.env] := by rfl) : QS X (.Assign [tg] e pos) (tAsg te g) :=
  ⟨ps_asg he.up hg.up hs hw h1⟩
theorem qs_expr (he : QE X e te) (hs : swapsWith e none pos.line X.env = pure false := by rfl) : QS X (.Expr e pos) (tDrop te) :=
  ⟨ps_expr he.up hs⟩
theorem qs_ret (he : QE X e te) : QS X (.Return (some e) pos) (tRet te) :=
  ⟨ps_ret he.up⟩
theorem qs_if {c : Expr} {a b : List Stmt} {tc : TT} (hc : QT X c tc) (ha : QSs X a t) (hb : QSs X b u) : QS X (.If c a b pos) (tIfS tc t u) :=
  ⟨ps_if hc.up ha.up hb.up⟩
theorem qs_while {c : Expr} {body : List Stmt} {tc : TT} {tb : TS} (hp : PassesOwn (model X.prog X.w) X.A X.env X.xe) (hc : QT X c tc) (hb : QSs X body tb) : QS X (.While c body [] pos) (tWhile tc tb) :=
  ⟨ps_while hp hc.up hb.up⟩
theorem qs_for {iter : Expr} {body : List Stmt} {wi : TI} {g : TG} {tb : TS} {pos : Pos} (hp : PassesOwn (model X.prog X.w) X.A X.env X.xe) (hc : X.calm = true) (hi : QI X tg iter wi) (hg : QG X tg g) (hb : QSs X body tb) (hs : ∀ x, foldedSetIterable iter X.env x = pure x := by intro _; rfl) : QS X (.For tg iter body [] pos) (tFor wi g tb) :=
  ⟨ps_for hp hc hi.up hg.up hb.up hs⟩
theorem qss_cons {st : Stmt} {rest : List Stmt} (h1 : QS X st t) (h2 : QSs X rest u) : QSs X (st :: rest) (tSeq t u) :=
  ⟨pss_cons h1.up h2.up⟩
theorem qss_one {st : Stmt} (h1 : QS X st t) : QSs X [st] t :=
  ⟨pss_one h1.up⟩
theorem qss_nil  : QSs X [] tNext :=
  ⟨pss_nil ⟩
theorem qe_bltn {x : Str} {v : V} {u : Value} {pos : Pos} (hg : Gl X x) (hm : X.mg x = none) (hv : bootBuiltins x = some u) (r : RelV v u) (hn : x ≠ "__name__" := by decide) (hd : (x == ("__debug__" : Str)) = false := by decide) : QE X (.Name x pos) (tC v) :=
  ⟨pe_bltn hg hm hv r hn hd⟩
theorem qif_nil {X : Cx} : QIfs X [] tYes :=
  ⟨pif_nil ⟩
theorem qif_one {X : Cx} {c : Expr} {t : TT} (h : QT X c t) : QIfs X [c] t :=
  ⟨pif_one h.up⟩
end L2
end
section
set_option Elab.async false
set_option linter.all false
set_option maxRecDepth 100000
set_option maxHeartbeats 4000000
namespace L2
open PySem PySem.Spec PyProof.Rows
structure QPs (X : Cx) (pos : Pos) (keys : List (Option Expr)) (values : List Expr) (trs : List (TE × TE)) : Prop where
  up : PPs X pos keys values trs
theorem qps_nil {X : Cx} {pos : Pos} : QPs X pos [] [] [] := ⟨pps_nil⟩
theorem qps_cons {X : Cx} {pos : Pos} {k v : Expr} {ks : List (Option Expr)} {vs : List Expr} {tk tv : TE} {trs : List (TE × TE)} (hk : QE X k tk) (hv : QE X v tv) (hr : QPs X pos ks vs trs) : QPs X pos (some k :: ks) (v :: vs) ((tk, tv) :: trs) := ⟨pps_cons hk.up hv.up hr.up⟩
theorem qe_disp {X : Cx} {pos : Pos} {keys : List (Option Expr)} {values : List Expr} {trs : List (TE × TE)} (h : QPs X pos keys values trs) (hall : keys.all (·.isSome) = true) (hl : keys.length = values.length) (h0 : keys ≠ []) (h15 : keys.length ≤ 15) : QE X (.Dict keys values pos) (tDisp trs) := ⟨pe_disp h.up hall hl h0 h15⟩
theorem qe_dnewK {X : Cx} {pos : Pos} : QE X (.Dict [] [] pos) tDNewK := ⟨pe_dnewK⟩
theorem qe_fnD {X : Cx} {x : Str} {ps : List Str} {k : Nat} {dvs : List V} {sp : Sp} {e : Expr} {es : List Expr} {t : TA} {p pos : Pos} (c : CalleeD X.prog X.w X.K X.mg X.base x ps k dvs sp) (hr : Room k X.A) (hg : Gl X x) (ha : QA X (e :: es) t)
    (hdb : (x == ("__debug__" : Str)) = false := by decide) (he : starEach (e :: es) X.env = (false, eval e X.env) :: starEach es X.env := by rfl) (hpl : (backTo pos (starEach es X.env)).any (·.1) = false := by rfl) :
    QE X (.Call (.Name x p) (e :: es) [] pos) (tCall sp dvs E0 t) := ⟨pe_fnD c hr hg ha.up hdb he hpl⟩
end L2
end
section
set_option Elab.async false
set_option linter.all false
set_option maxRecDepth 100000
set_option maxHeartbeats 4000000
namespace PySem.W
open PySem PySem.Calls PyProof.Rows PyProof.V PySem.Spec
section
variable {prog : Program} {w : World} {A : Around} {E : Value → Shared → Prop} {s : Shared} {r l : Addr}
end
end PySem.W
namespace L2
open PySem PySem.Spec PyProof.Rows
section
variable {X : Cx}
end
end L2
end
section
set_option Elab.async false
set_option linter.all false
set_option maxRecDepth 100000
set_option maxHeartbeats 4000000
namespace HT
open PySem PyProof.Rows
section
variable {prog : Program} {w : World} {A : Around} {E : Value → Shared → Prop} {s : Shared}
end
end HT
namespace L2
open PySem PySem.Spec PyProof.Rows
section
variable {X : Cx}
end
end L2
end
section
set_option Elab.async false
set_option linter.all false
set_option maxRecDepth 100000
set_option maxHeartbeats 4000000
namespace PySem
open Sem (wp)
theorem lk_list_keys : typeLookup (.type "list") "keys" = pure none := by rw [typeLookup_type, builtinLookup_eq_fast]; kernel_rfl
theorem keys_list {prog : Program} {w : World} {A : Around} {E : Value → Shared → Prop} {s : Shared} {a : Addr} {xs : Array Value} {k : Nat} {Q : Option Value → Shared → Prop} {sl : Array (Option Value)}
    (hx : s.heap.get? a = some { cls := .type "list", dict := none, data := .seq xs k, slots := sl }) (hA : A.handled = none)
    (h : ∀ h' tk, (∀ b u, s.heap.get? b = some u → h'.get? b = some u) → Q none { s with heap := h', toks := tk }) : wpAny (model prog w) A (getAttr? (.ref a) "keys") Q E s := by
  obtain ⟨hp, g, d, tk, os⟩ := s
  have hT : ∀ tk', (⟨hp, g, d, tk', os⟩ : Shared).TypeIs (.ref a) "list" := fun _ => ⟨_, hx, rfl⟩
  have f1 := sub_AttributeError
  have f3 := F.slot_list_getattribute.lookup
  have f4 := F.slot_list_getattribute.bind (.ref a)
  have f5 := am_list_getattr_none
  unfold getAttr? getAttrBy? getAttrBy
  repeat (any_goals (first | assumption | exact hT _ | ((with_reducible show wpAny _ _ (call (Value.builtin "list.__getattribute__") _ _) _ _ _); refine call_meets F.slot_list_getattribute (hT _) am_entry_list_getattribute (F.args_list_getattribute_2 _ _) (meets_getattribute_miss_list a xs k sl "keys" _ lk_list_keys (by decide +kernel) (by decide +kernel)) ⟨hx, hA, fun h' tk' e hx' => ?_⟩) | wp_step))
  obtain ⟨t', u', he⟩ := hx'.there
  show wpAny _ _ (getattributeRaised _ _ _ _ _ _ _) _ _ _
  unfold getattributeRaised
  repeat (any_goals (first | assumption | wp_step))
  exact h _ _ hx'.keeps
namespace F
theorem entry_dict_update_loop : entryFor table "dict.update.loop" = some Builtin.«dict.update.loop» := entryFor_of_tree (by kernel_rfl)
theorem plain_dict_update_loop : plainId "dict.update.loop" = true := by decide +kernel
end F
def ItAt (tp : Bool) (h : Heap) (i l : Addr) (k : Nat) : Prop := match tp with
  | true => h.IsTupleIter i l k
  | false => h.IsListIter i l k
def SqAtH (tp : Bool) (h : Heap) (l : Addr) (xs : Array Value) : Prop := match tp with
  | true => h.IsTuple l xs
  | false => h.IsList l xs
def itObj (tp : Bool) (l : Addr) : Obj := { cls := .type (if tp then "tuple_iterator" else "list_iterator"), data := .fields #[.ref l, .int 0 0] }
section
variable {prog : Program} {w : World} {A : Around} {E : Value → Shared → Prop} {s : Shared}
end
section
variable {prog : Program} {w : World} {A : Around} {E : Value → Shared → Prop} {s : Shared} {t1 t2 : Bool}
end
section
variable {prog : Program} {w : World} {A : Around} {E : Value → Shared → Prop} {s : Shared} {t1 t2 : Bool}
end
end PySem
namespace PySem
open Sem (wp)
section
variable {prog : Program} {w : World} {A : Around} {R : Result → Shared → Prop} {t1 t2 : Bool} {K : Type} [DecidableEq K] {knd : KeyKind prog w K}
end
section
variable {prog : Program} {w : World} {A : Around} {E : Value → Shared → Prop} {s : Shared} {t1 t2 : Bool} {K : Type} [DecidableEq K] {knd : KeyKind prog w K}
end
end PySem
namespace L2
open PySem PySem.Spec PyProof.Rows
section
variable {X : Cx}
end
end L2
end
section
set_option Elab.async false
set_option linter.all false
set_option maxRecDepth 100000
set_option maxHeartbeats 4000000
namespace L2
open PySem PySem.Spec PyProof.Rows
section
variable {X : Cx} {C : Addr} {m x : Str} {ps : List Str} {k : Nat} {sp : Sp} {e o : Expr} {es : List Expr} {ta : TE} {t : TA} {p pos apos : Pos}
end
section
variable {X : Cx}
theorem deep_all {es : List Bool} {us vs : List Value} (h1 : us.length = es.length) (h2 : vs.length = es.length) : ((List.range (min us.toArray.size vs.toArray.size)).all (fun j => (es[j]?).getD false) && us.toArray.size == vs.toArray.size) = es.all id := by
  rw [List.size_toArray, List.size_toArray, h1, h2, Nat.min_self, all_ix]
  simp
end
end L2
end
section
set_option Elab.async false
set_option linter.all false
set_option maxRecDepth 100000
set_option maxHeartbeats 4000000
namespace L2
open PySem PySem.Spec PyProof.Rows
inductive EqN (K : PySem.W.Frag) (H : Hp) : Nat → V → V → Bool → Prop where
  | flat {d : Nat} {x y : V} (hx : flatV x = true) (hy : flatV y = true) : EqN K H d x y (eqV x y)
  | same {d : Nat} {a : Addr} : EqN K H d (.ref a) (.ref a) true
  | lists {d : Nat} {a b : Addr} {us vs : List V} {es : List Bool} (n : a ≠ b) (ha : SqL K H a us) (hb : SqL K H b vs) (l1 : us.length = vs.length) (l2 : es.length = us.length) (h : ∀ (j : Nat) x y e, us[j]? = some x → vs[j]? = some y → es[j]? = some e → EqN K H d x y e) : EqN K H (d + 1) (.ref a) (.ref b) (es.all id)
  | listsL {d : Nat} {a b : Addr} {us vs : List V} (n : a ≠ b) (ha : SqL K H a us) (hb : SqL K H b vs) (l1 : us.length ≠ vs.length) : EqN K H (d + 1) (.ref a) (.ref b) false
  | tups {d : Nat} {a b : Addr} {us vs : List V} {es : List Bool} (n : a ≠ b) (ha : SqT K H a us) (hb : SqT K H b vs) (l1 : us.length = vs.length) (l2 : es.length = us.length) (h : ∀ (j : Nat) x y e, us[j]? = some x → vs[j]? = some y → es[j]? = some e → EqN K H d x y e) : EqN K H (d + 1) (.ref a) (.ref b) (es.all id)
section
variable {X : Cx}
theorem hits_of {A : Around} {s : Shared} {kb : List (Key × V)} {vb : List (Key × Value)} (rb : KV kb vb) {ka : List (Key × V)} {va : List (Key × Value)} (ra : KV ka va) : ∀ (f : Nat → V), (∀ (j : Nat) k v, ka[j]? = some (k, v) → valV kb k = some (f j)) → (∀ (j : Nat) k v u w, ka[j]? = some (k, v) → RelV v u → RelV (f j) w → SeqAt.EqAt A s u w true) → PySem.W.KeqHits A s vb va true := by
  induction ra with
  | nil => intro f _ _; exact .nil
  | @cons p q ps qs r _ ih =>
    intro f h1 h2
    obtain ⟨k, v⟩ := p
    obtain ⟨k', u⟩ := q
    obtain ⟨e, rv⟩ := r
    have e' : k = k' := e
    subst e'
    have hv := h1 0 k v rfl
    have rel := rb.val k
    rw [hv] at rel
    obtain ⟨w, hw, rw'⟩ := RelO.some_of rel
    have hh := ih (fun j => f (j + 1)) (fun j k v e => h1 (j + 1) k v e) fun j k v u w e => h2 (j + 1) k v u w e
    exact .hit hw (h2 0 k v u w rfl rv rw') hh
theorem each_at {A : Around} {s : Shared} {xs ys : List V} {us vs : List Value} {es : List Bool} (r1 : Vals xs us) (r2 : Vals ys vs) (hl : xs.length = ys.length) (he : es.length = xs.length)
    (h : ∀ (j : Nat) a b e u v, xs[j]? = some a → ys[j]? = some b → es[j]? = some e → RelV a u → RelV b v → SeqAt.EqAt A s u v e) :
    ∀ j (h1 : j < us.toArray.size) (h2 : j < vs.toArray.size), SeqAt.EqAt A s us.toArray[j] vs.toArray[j] ((es[j]?).getD false) := by
  intro j h1 h2
  have l1 := r1.length
  have l2 := r2.length
  rw [List.size_toArray] at h1 h2
  have j1 : j < xs.length := by lia
  have j2 : j < ys.length := by lia
  have j3 : j < es.length := by lia
  obtain ⟨u, hu', ru⟩ := r1.get (List.getElem?_eq_getElem j1)
  obtain ⟨v, hv, rv⟩ := r2.get (List.getElem?_eq_getElem j2)
  have eu : us.toArray[j] = u := by
    have := List.getElem?_eq_getElem h1
    rw [hu'] at this
    simpa using (Option.some.inj this).symm
  have ev : vs.toArray[j] = v := by
    have := List.getElem?_eq_getElem h2
    rw [hv] at this
    simpa using (Option.some.inj this).symm
  rw [eu, ev, List.getElem?_eq_getElem j3, Option.getD_some]
  exact h j _ _ _ _ _ (List.getElem?_eq_getElem j1) (List.getElem?_eq_getElem j2) (List.getElem?_eq_getElem j3) ru rv
theorem each_all {es : List Bool} {us : List Value} (h1 : us.length = es.length) : (List.range us.toArray.size).all (fun j => (es[j]?).getD false) = es.all id := by
  rw [List.size_toArray, h1, all_ix]
theorem eqN_at {pins : List (Addr × Obj)} {σ : St} {H : Hp} {s : Shared} (I : Inv X pins σ H s) {d : Nat} {x y : V} {b : Bool} (h : EqN X.K H d x y b) : ∀ {A : Around} {u v : Value}, A.units + d < cLine → RelV x u → RelV y v → SeqAt.EqAt A s u v b := by
  induction h with
  | flat hx hy => exact fun _ rx ry => eqAt_V rx ry hx hy
  | same =>
    intro A u v _ rx ry
    cases rx
    cases ry
    exact SeqAt.EqAt.same _
  | @lists d a b us vs es n ha hb hl he h ih =>
    intro A u v hu rx ry
    cases rx
    cases ry
    obtain ⟨us', r1, t1, _⟩ := I.list ha
    obtain ⟨vs', r2, t2, _⟩ := I.list hb
    have l1 := r1.length
    have l2 := r2.length
    have := SeqAt.EqAt.of_refs n (SeqAt.RcAt.lists (A := A) t1.isList t2.isList (by rw [List.size_toArray, List.size_toArray]; lia) (by lia) (each_at (A := A.in1) r1 r2 hl he fun j a b e u v e1 e2 e3 ru rv => ih j a b e e1 e2 e3 (by show A.units + 1 + d < cLine; lia) ru rv))
    rw [each_all (by lia)] at this
    exact this
  | @listsL d a b us vs n ha hb hl =>
    intro A u v hu rx ry
    cases rx
    cases ry
    obtain ⟨us', r1, t1, _⟩ := I.list ha
    obtain ⟨vs', r2, t2, _⟩ := I.list hb
    have l1 := r1.length
    have l2 := r2.length
    exact SeqAt.EqAt.of_refs n (SeqAt.RcAt.lists_lengths (A := A) t1.isList t2.isList (by rw [List.size_toArray, List.size_toArray]; simp; lia) (by lia))
  | @tups d a b us vs es n ha hb hl he h ih =>
    intro A u v hu rx ry
    cases rx
    cases ry
    obtain ⟨us', r1, t1, _⟩ := I.tuple ha
    obtain ⟨vs', r2, t2, _⟩ := I.tuple hb
    have l1 := r1.length
    have l2 := r2.length
    have := SeqAt.EqAt.of_refs n (SeqAt.RcAt.tuples (A := A) (show s.heap.IsTuple a us'.toArray from t1) (show s.heap.IsTuple b vs'.toArray from t2) (by lia) (each_at (A := A.in1) r1 r2 hl he fun j a b e u v e1 e2 e3 ru rv => ih j a b e e1 e2 e3 (by show A.units + 1 + d < cLine; lia) ru rv))
    rw [deep_all (by lia) (by lia)] at this
    exact this
def rEqN (K : PySem.W.Frag) (neg : Bool) : R2 := fun x y H Q => ∃ (p q : Addr) (xs ys : List V), x = .ref p ∧ y = .ref q ∧ ((SqL K H p xs ∧ SqL K H q ys) ∨ (SqT K H p xs ∧ SqT K H q ys ∧ xs.length = ys.length)) ∧
  ((xs.length ≠ ys.length ∧ Q (.bl neg) H) ∨ ∃ es : List Bool, xs.length = ys.length ∧ es.length = xs.length ∧ (∀ (j : Nat) a b e, xs[j]? = some a → ys[j]? = some b → es[j]? = some e → EqN K H 4 a b e) ∧ Q (.bl (if neg then !es.all id else es.all id)) H)
theorem op_eqN (hu : X.A.units + 5 < cLine) : OpR X (compareOp .Eq) (rEqN X.K false) := by
  intro pins s σ H x y v u Q I rx ry h
  obtain ⟨p, q, xs, ys, rfl, rfl, hk, hc⟩ := h
  cases rx
  cases ry
  have hu' : X.A.units < cLine := by lia
  rcases hk with ⟨h1, h2⟩ | ⟨h1, h2, hl0⟩
  · obtain ⟨us, r1, t1, _⟩ := I.list h1
    obtain ⟨vs, r2, t2, _⟩ := I.list h2
    have l1 := r1.length
    have l2 := r2.length
    rcases hc with ⟨hl, qq⟩ | ⟨es, hl, he, hE, qq⟩
    · exact SeqAt.eq_list_lengthsAt t1.isList t2.isList (by rw [List.size_toArray, List.size_toArray]; simp; lia) hu' ⟨.bl false, H, I, rfl, qq⟩
    · refine SeqAt.eq_listAt t1.isList t2.isList (by rw [List.size_toArray, List.size_toArray]; lia) hu' (each_at (A := X.A.in1) r1 r2 hl he fun j a b e u v e1 e2 e3 ru rv => eqN_at I (hE j a b e e1 e2 e3) (by show X.A.units + 1 + 4 < cLine; lia) ru rv) ⟨.bl (es.all id), H, I, ?_, qq⟩
      show Value.bool _ = Value.bool _
      rw [each_all (by lia)]
  · obtain ⟨us, r1, t1, _⟩ := I.tuple h1
    obtain ⟨vs, r2, t2, _⟩ := I.tuple h2
    have l1 := r1.length
    have l2 := r2.length
    rcases hc with ⟨hl, _⟩ | ⟨es, hl, he, hE, qq⟩
    · exact absurd hl0 hl
    · refine SeqAt.eq_tupleAt (show s.heap.IsTuple p us.toArray from t1) (show s.heap.IsTuple q vs.toArray from t2) hu' (each_at (A := X.A.in1) r1 r2 hl he fun j a b e u v e1 e2 e3 ru rv => eqN_at I (hE j a b e e1 e2 e3) (by show X.A.units + 1 + 4 < cLine; lia) ru rv) ⟨.bl (es.all id), H, I, ?_, qq⟩
      show Value.bool _ = Value.bool _
      rw [deep_all (by lia) (by lia)]
theorem op_neN (hu : X.A.units + 5 < cLine) : OpR X (compareOp .NotEq) (rEqN X.K true) := by
  intro pins s σ H x y v u Q I rx ry h
  obtain ⟨p, q, xs, ys, rfl, rfl, hk, hc⟩ := h
  cases rx
  cases ry
  have hu' : X.A.units < cLine := by lia
  rcases hk with ⟨h1, h2⟩ | ⟨h1, h2, hl0⟩
  · obtain ⟨us, r1, t1, _⟩ := I.list h1
    obtain ⟨vs, r2, t2, _⟩ := I.list h2
    have l1 := r1.length
    have l2 := r2.length
    rcases hc with ⟨hl, qq⟩ | ⟨es, hl, he, hE, qq⟩
    · exact SeqAt.RcNeAt.lists_lengths t1.isList t2.isList (by rw [List.size_toArray, List.size_toArray]; simp; lia) hu' X.prog X.w X.xe _ ⟨.bl true, H, I, rfl, qq⟩
    · refine SeqAt.RcNeAt.lists t1.isList t2.isList (by rw [List.size_toArray, List.size_toArray]; lia) hu' (each_at (A := X.A.in1) r1 r2 hl he fun j a b e u v e1 e2 e3 ru rv => eqN_at I (hE j a b e e1 e2 e3) (by show X.A.units + 1 + 4 < cLine; lia) ru rv) X.prog X.w X.xe _ ⟨.bl (!es.all id), H, I, ?_, qq⟩
      show Value.bool _ = Value.bool _
      rw [each_all (by lia)]
  · obtain ⟨us, r1, t1, _⟩ := I.tuple h1
    obtain ⟨vs, r2, t2, _⟩ := I.tuple h2
    have l1 := r1.length
    have l2 := r2.length
    rcases hc with ⟨hl, _⟩ | ⟨es, hl, he, hE, qq⟩
    · exact absurd hl0 hl
    · refine SeqAt.RcNeAt.tuples (show s.heap.IsTuple p us.toArray from t1) (show s.heap.IsTuple q vs.toArray from t2) hu' (each_at (A := X.A.in1) r1 r2 hl he fun j a b e u v e1 e2 e3 ru rv => eqN_at I (hE j a b e e1 e2 e3) (by show X.A.units + 1 + 4 < cLine; lia) ru rv) X.prog X.w X.xe _ ⟨.bl (!es.all id), H, I, ?_, qq⟩
      show Value.bool _ = Value.bool _
      rw [deep_all (by lia) (by lia)]
def rEqDk (K : PySem.W.Frag) (neg : Bool) : R2 := fun x y H Q => ∃ (a b : Addr) (ka kb : List (Key × V)) (f : Nat → V), x = .ref a ∧ y = .ref b ∧ H a = some (.dK ka) ∧ H b = some (.dK kb) ∧ ka.length = kb.length ∧ (∀ (j : Nat) k v, ka[j]? = some (k, v) → valV kb k = some (f j)) ∧ (∀ (j : Nat) k v, ka[j]? = some (k, v) → EqN K H 4 v (f j) true) ∧ Q (.bl (!neg)) H
theorem op_eqDk (hu : X.A.units + 5 < cLine) : OpR X (compareOp .Eq) (rEqDk X.K false) := by
  intro pins s σ H x y v u Q I rx ry h
  obtain ⟨a, b, ka, kb, f, rfl, rfl, ha, hb, hl, hf, hE, qq⟩ := h
  cases rx
  cases ry
  obtain ⟨_, la, va, ra, da⟩ := dk_of I.hok ha
  obtain ⟨_, lb, vb, rb, db⟩ := dk_of I.hok hb
  refine PySem.W.keq_eq (r := true) la lb da db (by lia) (fun _ => hits_of rb ra f hf fun j k v u w e ru rw' => eqN_at I (hE j k v e) (by show X.A.units + 1 + 4 < cLine; lia) ru rw') ⟨.bl true, H, I, ?_, qq⟩
  show Value.bool _ = Value.bool _
  rw [← ra.length, ← rb.length, hl]; simp
theorem op_neDk (hu : X.A.units + 5 < cLine) : OpR X (compareOp .NotEq) (rEqDk X.K true) := by
  intro pins s σ H x y v u Q I rx ry h
  obtain ⟨a, b, ka, kb, f, rfl, rfl, ha, hb, hl, hf, hE, qq⟩ := h
  cases rx
  cases ry
  obtain ⟨_, la, va, ra, da⟩ := dk_of I.hok ha
  obtain ⟨_, lb, vb, rb, db⟩ := dk_of I.hok hb
  refine PySem.W.keq_ne (r := true) la lb da db (by lia) (fun _ => hits_of rb ra f hf fun j k v u w e ru rw' => eqN_at I (hE j k v e) (by show X.A.units + 1 + 4 < cLine; lia) ru rw') ⟨.bl false, H, I, ?_, qq⟩
  show Value.bool _ = Value.bool _
  rw [← ra.length, ← rb.length, hl]; simp
def rEqU (K : PySem.W.Frag) : R2 := fun x y H Q => rEqN K false x y H Q ∨ (rEqDk K false x y H Q ∨ rEqG K x y H Q)
def rNeU (K : PySem.W.Frag) : R2 := fun x y H Q => rEqN K true x y H Q ∨ (rEqDk K true x y H Q ∨ rNeG K x y H Q)
theorem op_eqU (hu : X.A.units + 5 < cLine) : OpR X (compareOp .Eq) (rEqU X.K) := (op_eqN hu).or ((op_eqDk hu).or (op_eqG (by lia)))
theorem op_neU (hu : X.A.units + 5 < cLine) : OpR X (compareOp .NotEq) (rNeU X.K) := (op_neN hu).or ((op_neDk hu).or (op_neG (by lia)))
end
end L2
end
section
set_option Elab.async false
set_option linter.all false
set_option maxRecDepth 100000
set_option maxHeartbeats 4000000
namespace L2
open PySem PySem.Spec PyProof.Rows
section
variable {X : Cx} {pins : List (Addr × Obj)} {σ : St} {H : Hp} {s : Shared} {d : Addr} {kvs : List (Key × V)} {u u' : HO}
end
section
variable {X : Cx} {tg : Expr}
end
end L2
end
section
set_option Elab.async false
set_option linter.all false
set_option maxRecDepth 100000
set_option maxHeartbeats 4000000
namespace PySem
open Sem (wp)
section
variable {prog : Program} {w : World} {A : Around} {R : Result → Shared → Prop} {K : Type} [DecidableEq K] {knd : KeyKind prog w K}
def PairsIn (knd : KeyKind prog w K) (h : Heap) (xs : Array Value) (ks : List K) (vs : List Value) : Prop := ∀ (j : Nat) k v x, ks[j]? = some k → vs[j]? = some v → xs[j]? = some x → ∃ t a, x = .ref t ∧ h.IsTuple t #[a, v] ∧ knd.is k a = true
theorem PairsIn.keep {h h' : Heap} {xs : Array Value} {ks : List K} {vs : List Value} (p : PairsIn knd h xs ks vs) (k : ∀ c o, o.cls = .type "tuple" → h.get? c = some o → h'.get? c = some o) : PairsIn knd h' xs ks vs := fun j a b x e1 e2 e3 => by
  obtain ⟨t, y, e, ⟨o, ho, hc, r⟩, i⟩ := p j a b x e1 e2 e3
  exact ⟨t, y, e, ⟨o, k t o hc ho, hc, r⟩, i⟩
theorem upd_list {d it l : Addr} {xs : Array Value} {ks : List K} {vs : List Value} {res : Value} (hh : A.handled = none) (n1 : d ≠ it) (n2 : d ≠ l) (n3 : it ≠ l) (hk : ks.length = xs.size) (hv : vs.length = xs.size) (hz : xs.size ≤ 1000) :
    ∀ (m i : Nat) (s : Shared) (kvs : List (K × Value)), xs.size - i = m → i ≤ xs.size → s.heap.IsListIter it l i → s.heap.IsList l xs → PairsIn knd s.heap xs ks vs → s.heap.DictOf knd d kvs → kvs.length ≤ i →
      (∀ h' tk, h'.DictOf knd d (merged kvs ((ks.zip vs).drop i)) → (∀ c o, c ≠ d → c ≠ it → s.heap.get? c = some o → h'.get? c = some o) → R (.ok (.ret res)) { s with heap := h', toks := tk }) →
      codeAny (model prog w) A (.builtin "dict.update.loop" ⟨[.ref d, .ref it, rawInt i, res], []⟩) R s := by
  intro m
  induction m with
  | zero =>
    intro i s kvs hm hi hit hl P dd hlen hR
    have ei : i = xs.size := by lia
    refine codeAny_builtin F.entry_dict_update_loop ?_
    rw [Around.under_plainId F.plain_dict_update_loop _]
    show wpAny _ A.in1 (pyNext (.ref it) >>= _) _ _ s
    refine wpAny_bind (wpAny_pyNext_list_end (A := A.in1) hh hit hl (by rw [ei]; simp) fun h' eb => ?_)
    have e0 : (ks.zip vs).drop i = [] := List.drop_of_length_le (by rw [List.length_zip]; lia)
    rw [e0] at hR
    refine wpAny_bind (wpAny_pure (wpAny_pure (hR h' s.toks ?_ fun c o _ c2 e => eb c o c2 e)))
    obtain ⟨o, es, ep, ho, r⟩ := dd
    exact ⟨o, es, ep, eb d o n1 ho, r⟩
  | succ m ih =>
    intro i s kvs hm hi hit hl P dd hlen hR
    refine codeAny_builtin F.entry_dict_update_loop ?_
    rw [Around.under_plainId F.plain_dict_update_loop _]
    show wpAny _ A.in1 (pyNext (.ref it) >>= _) _ _ s
    have il : i < xs.size := by lia
    have hx : xs[i]? = some xs[i] := Array.getElem?_eq_getElem il
    have kl : i < ks.length := by lia
    have vl : i < vs.length := by lia
    obtain ⟨t, a, et, ⟨ot, hot, hct, nt, hdt⟩, his⟩ := P i ks[i] vs[i] _ (List.getElem?_eq_getElem kl) (List.getElem?_eq_getElem vl) hx
    refine wpAny_bind (wpAny_pyNext_list_item hit hl (x := .ref t) (by rw [hx, et]) fun h' hit' sb => ?_)
    have kp : ∀ c o, c ≠ it → s.heap.get? c = some o → h'.get? c = some o := fun c o n e => (sb.2 c n).trans e
    have tit : t ≠ it := fun z => by
      obtain ⟨o, ho, hc, _⟩ := hit
      rw [← z, hot] at ho; cases ho
      rw [hct] at hc
      injection hc with hc
      exact absurd hc (by decide)
    have hot' := kp t ot tit hot
    refine wpAny_bind (wpAny_holding (wpAny_bind (wpAny_tryCatch ?_)))
    unfold Builtin.Dict.pairItems
    refine wpAny_bind (wpAny_typeOf (T := "tuple") ⟨_, hot', hct⟩ ?_)
    rw [if_pos (by decide)]
    refine wpAny_bind (wpAny_seqItems hot' hdt (wpAny_pure ?_))
    obtain ⟨o, es, ep, ho, r⟩ := dd
    have dd' : h'.DictOf knd d kvs := ⟨o, es, ep, kp d o n1 ho, r⟩
    refine wpAny_holding (wpAny_dictSet_pairs (knd := knd) his dd' (fun h2 d2 s2 => ?_) (hsz := Nat.le_trans hlen (Nat.le_trans hi (Nat.le_trans hz (by decide)))))
    have e1 : (i : Int) + 1 = ((i + 1 : Nat) : Int) := by lia
    refine wpAny_pure ⟨plainId_quiet F.plain_dict_update_loop _, ?_⟩
    rw [e1]
    have el : (ks.zip vs).drop i = (ks[i], vs[i]) :: (ks.zip vs).drop (i + 1) := by
      have hz2 : i < (ks.zip vs).length := by rw [List.length_zip]; lia
      rw [List.drop_eq_getElem_cons hz2, List.getElem_zip]
    rw [el] at hR
    have nd : ∀ c o, o.cls = .type "tuple" → h'.get? c = some o → c ≠ d := fun c o hc e z => by
      obtain ⟨o', _, _, e', x, _⟩ := dd'
      rw [z, e'] at e; cases e
      rw [x.1] at hc
      injection hc with hc
      exact absurd hc (by decide)
    have nit : ∀ c o, o.cls = .type "tuple" → s.heap.get? c = some o → c ≠ it := fun c o hc e z => by
      obtain ⟨o', ho', hc', _⟩ := hit
      rw [z, ho'] at e; cases e
      rw [hc'] at hc
      injection hc with hc
      exact absurd hc (by decide)
    refine ih (i + 1) _ (stored kvs ks[i] vs[i]) (by lia) (by lia) (hit'.at fun o e => s2.extBut it o (Ne.symm n1) e) ((hl.at fun o e => kp l o (Ne.symm n3) e).at fun o e => s2.extBut l o (Ne.symm n2) e) (P.keep fun c o hc e => s2.extBut c o (nd c o hc (kp c o (nit c o hc e) e)) (kp c o (nit c o hc e) e)) d2 ?_ fun h3 tk3 d3 kp3 => ?_
    · have := merged_length_le kvs [(ks[i], vs[i])]
      exact Nat.le_trans this (Nat.add_le_add_right hlen 1)
    · exact hR h3 tk3 d3 fun c o c1 c2 e => kp3 c o c1 c2 (s2.extBut c o c1 (kp c o c2 e))
end
section
variable {prog : Program} {w : World} {A : Around} {E : Value → Shared → Prop} {s : Shared} {K : Type} [DecidableEq K] {knd : KeyKind prog w K}
theorem dict_list {l : Addr} {xs : Array Value} {n : Nat} {ks : List K} {vs : List Value} {Q : Value → Shared → Prop} (hh : A.handled = none) (hl : s.heap.get? l = some { cls := .type "list", dict := none, data := .seq xs n, slots := #[] }) (hk : ks.length = xs.size) (hv : vs.length = xs.size) (hz : xs.size ≤ 1000) (P : PairsIn knd s.heap xs ks vs)
    (hQ : ∀ h' tk, h'.DictOf knd s.heap.objs.size (merged [] (ks.zip vs)) → (∀ c o, s.heap.get? c = some o → h'.get? c = some o) → Q (.ref s.heap.objs.size) { s with heap := h', toks := tk }) :
    wpAny (model prog w) A (call (.type "dict") [.ref l]) Q E s := by
  refine callType_codes (Q₁ := fun obj s₁ => obj = .ref s.heap.objs.size ∧ s₁ = { s with heap := s.heap.push { cls := .type "dict", data := .dict #[] } }) F.kt_called_dict (F.kt_typeCall_dict_1 _) F.entry_dict_init (kt_code_dict_new _ ⟨rfl, rfl⟩) ?_
  rintro obj s₁ ⟨rfl, rfl⟩
  have dn : (s.heap.push { cls := .type "dict", data := .dict #[] }).DictOf knd s.heap.objs.size [] := Heap.DictOf.new s.heap
  have up : ∀ c o, s.heap.get? c = some o → (s.heap.push { cls := .type "dict", data := .dict #[] }).get? c = some o := fun c o e => Heap.get?_push_of_some _ e
  refine ⟨dn.typeIs, F.args_dict_init_2 _ _, ?_⟩
  refine wpAny_bind (m := Builtin.Dict.selfAndRest _ _) (wpAny_bind (wpAny_notOrdered_dict dn.typeIs (wpAny_pure ?_)))
  show wpAny _ _ (Builtin.Dict.updateFrom "dict.__init__" s.heap.objs.size (.ref l) [] .none) _ _ _
  refine wpAny_bind (wpAny_typeOf (T := "list") ⟨_, up _ _ hl, rfl⟩ ?_)
  rw [if_pos (by decide)]
  refine wpAny_bind (keys_list (up _ _ hl) hh fun h1 tk1 k1 => ?_)
  have k2 : ∀ c o, s.heap.get? c = some o → h1.get? c = some o := fun c o e => k1 c o (up c o e)
  rw [if_pos (show (none : Option Value).isNone = true from rfl)]
  have hl1 : h1.IsList l xs := ⟨_, k2 _ _ hl, rfl, n, rfl⟩
  refine wpAny_bind (wpAny_rule (wpAny_bind (wpAny_pyIter_list (s := { s with heap := h1, toks := tk1 }) hl1 (wpAny_pure ⟨plainId_quiet F.plain_dict_update_loop _, ?_⟩))))
  have dn1 : h1.DictOf knd s.heap.objs.size [] := by
    obtain ⟨o, es, ep, ho, r⟩ := dn
    exact ⟨o, es, ep, k1 _ _ ho, r⟩
  have up2 : ∀ c o, h1.get? c = some o → (h1.push (itObj false l)).get? c = some o := fun c o e => Heap.get?_push_of_some _ e
  have llt : l < s.heap.objs.size := Heap.lt_size hl
  have dlt : s.heap.objs.size < h1.objs.size := let ⟨_, _, _, e, _⟩ := dn1; Heap.lt_size e
  refine upd_list (A := A.in1) (knd := knd) hh (it := h1.objs.size) (Nat.ne_of_lt dlt) (Nat.ne_of_gt llt) (Nat.ne_of_gt (Nat.lt_trans llt dlt)) hk hv hz xs.size 0 _ [] rfl (Nat.zero_le _) ⟨_, Heap.get?_push_size _ rfl, rfl, rfl⟩ (hl1.at fun o e => up2 _ o e) (P.keep fun c o _ e => up2 c o (k2 c o e)) ?_ (Nat.zero_le _) fun h' tk d' kp => ⟨rfl, ?_⟩
  · obtain ⟨o, es, ep, ho, r⟩ := dn1
    exact ⟨o, es, ep, up2 _ _ ho, r⟩
  · exact hQ h' tk d' fun c o e => by
      have lt := Heap.lt_size e
      exact kp c o (Nat.ne_of_lt lt) (Nat.ne_of_lt (Nat.lt_trans lt dlt)) (up2 c o (k2 c o e))
end
end PySem
end
section
set_option Elab.async false
set_option linter.all false
set_option maxRecDepth 100000
set_option maxHeartbeats 4000000
namespace L2
open PySem PySem.Spec PyProof.Rows
section
variable {X : Cx}
def rDictPs (K : PySem.W.Frag) : List V → Hp → VK → Prop := fun xs H Q => ∃ (l : Addr) (ps : List V) (kvs : List (Key × V)), xs = [.ref l] ∧ H l = some (.lst ps) ∧ ps.length = kvs.length ∧ kvs.length ≤ 1000 ∧ (∀ (j : Nat) x k v, ps[j]? = some x → kvs[j]? = some (k, v) → ∃ t, x = .ref t ∧ H t = some (.tup [kV k, v])) ∧ ∀ d, H d = none → Q (.ref d) (upd H d (.dK (mergeK [] kvs)))
theorem kv_of {kvs : List (Key × V)} : ∀ {vs : List Value}, vs.length = kvs.length → (∀ (j : Nat) k v u, kvs[j]? = some (k, v) → vs[j]? = some u → RelV v u) → KV kvs ((kvs.map (·.1)).zip vs) := by
  induction kvs with
  | nil => intro vs _ _; exact .nil
  | cons p r ih =>
    intro vs hl h
    cases vs with
    | nil => cases hl
    | cons u us => exact .cons ⟨rfl, h 0 p.1 p.2 u rfl rfl⟩ (ih (Nat.succ.inj hl) fun j k v u e1 e2 => h (j + 1) k v u e1 e2)
theorem call_dictPs (hc : X.calm = true) : CallR X (.type "dict") (rDictPs X.K) := by
  intro pins s σ H xs us Q I r h
  obtain ⟨l, ps, kvs, rfl, hl, hlen, hz, hp, q⟩ := h
  obtain ⟨u, rfl, rx⟩ := vals1 r
  cases rx
  obtain ⟨z, its, n, rv, el, e⟩ := I.lstM hl
  have l1 := rv.length
  have pr : ∀ (j : Nat) k v x, kvs[j]? = some (k, v) → its[j]? = some x → ∃ t a w', x = .ref t ∧ s.heap.IsTuple t #[a, w'] ∧ RelV (kV k) a ∧ RelV v w' := by
    intro j k v x e1 e2
    have jl : j < ps.length := by have := (List.getElem?_eq_some_iff.mp e1).1; lia
    obtain ⟨t, et, ht⟩ := hp j _ k v (List.getElem?_eq_getElem jl) e1
    obtain ⟨u, hu, ru⟩ := rv.get (i := j) (x := ps[j]) (List.getElem?_eq_getElem jl)
    rw [e2] at hu; cases hu
    rw [et] at ru
    cases ru
    obtain ⟨its2, r2, t2, _⟩ := I.tuple (SqT.of (K := X.K) ht)
    obtain ⟨a, w', rfl, ra, rw'⟩ := vals2 r2
    exact ⟨t, a, w', rfl, t2, ra, rw'⟩
  obtain ⟨vs, hvl, hvs⟩ : ∃ vs : List Value, vs.length = kvs.length ∧ ∀ (j : Nat) k v x w', kvs[j]? = some (k, v) → its[j]? = some x → vs[j]? = some w' → RelV v w' ∧ ∃ t a, x = .ref t ∧ s.heap.IsTuple t #[a, w'] ∧ RelV (kV k) a := by
    have key : ∀ m, m ≤ kvs.length → ∃ vs : List Value, vs.length = m ∧ ∀ (j : Nat) k v x w', kvs[j]? = some (k, v) → its[j]? = some x → vs[j]? = some w' → RelV v w' ∧ ∃ t a, x = .ref t ∧ s.heap.IsTuple t #[a, w'] ∧ RelV (kV k) a := by
      intro m
      induction m with
      | zero => intro _; exact ⟨[], rfl, fun j k v x w' _ _ e => by simp at e⟩
      | succ m ih =>
        intro hm
        obtain ⟨vs, h1, h2⟩ := ih (by lia)
        have ml : m < kvs.length := by lia
        have il : m < its.length := by lia
        obtain ⟨t, a, w', et, ht, ra, rw'⟩ := pr m kvs[m].1 kvs[m].2 its[m] (List.getElem?_eq_getElem ml) (List.getElem?_eq_getElem il)
        refine ⟨vs ++ [w'], by rw [List.length_append, h1]; rfl, fun j k v x w2 e1 e2 e3 => ?_⟩
        by_cases c : j < vs.length
        · rw [List.getElem?_append_left c] at e3
          exact h2 j k v x w2 e1 e2 e3
        · have ej : j = m := by
            have := (List.getElem?_eq_some_iff.mp e3).1
            rw [List.length_append, List.length_singleton] at this
            lia
          subst ej
          rw [List.getElem?_append_right (by lia)] at e3
          have : w2 = w' := by
            rw [h1, Nat.sub_self] at e3
            exact (Option.some.inj e3).symm
          subst this
          rw [List.getElem?_eq_getElem ml] at e1
          have e1' := Option.some.inj e1
          rw [List.getElem?_eq_getElem il] at e2
          have e2' := Option.some.inj e2
          rw [← e2']
          have k1 : kvs[j].1 = k := by rw [e1']
          have v1 : kvs[j].2 = v := by rw [e1']
          rw [← k1, ← v1]
          exact ⟨rw', t, a, et, ht, ra⟩
    exact key kvs.length (Nat.le_refl _)
  refine dict_list (knd := mixKind X.prog X.w) (ks := kvs.map (·.1)) (vs := vs) (I.ok.hd hc) e (by rw [List.length_map, List.size_toArray]; lia) (by rw [List.size_toArray]; lia) (by rw [List.size_toArray]; lia) (fun j k v x e1 e2 e3 => ?_) fun h' tk d' kp => ?_
  · rw [List.getElem?_map] at e1
    cases ek : kvs[j]? with
    | none => rw [ek] at e1; cases e1
    | some p =>
      rw [ek] at e1
      have e1' : p.1 = k := Option.some.inj e1
      obtain ⟨_, t, a, et, ht, ra⟩ := hvs j p.1 p.2 x v ek (by rw [List.getElem?_toArray] at e3; exact e3) e2
      exact ⟨t, a, et, ht, by rw [← e1']; exact kV_is ra⟩
  · have rel : KV (mergeK [] kvs) (merged [] ((kvs.map (·.1)).zip vs)) := KV.merge (kv_of hvl fun j k v u e1 e2 => by
      have jl : j < its.length := by have := (List.getElem?_eq_some_iff.mp e1).1; lia
      exact (hvs j k v _ u e1 (List.getElem?_eq_getElem jl) e2).1) .nil
    have hlen2 : (mergeK [] kvs).length ≤ sizeLine := Nat.le_trans (length_mergeK _ _) (Nat.le_trans (show [].length + kvs.length ≤ 1000 by rw [List.length_nil]; lia) (show 1000 ≤ sizeLine by decide))
    have hn : H s.heap.objs.size = none := I.hok.fresh (Nat.le_refl _)
    exact ⟨.ref s.heap.objs.size, _, I.laid (t' := tk) (o := .dK (mergeK [] kvs)) kp (Nat.le_refl _) (dk_new hlen2 (beq_eq_false_iff_ne.mpr (Nat.ne_of_gt I.big)) rel d'), rfl, q _ hn⟩
end
end L2
end
section
set_option Elab.async false
set_option linter.all false
set_option maxRecDepth 100000
set_option maxHeartbeats 4000000
namespace L2
open PySem PySem.Spec PyProof.Rows
section
variable {X : Cx}
end
end L2
end
section
set_option Elab.async false
set_option linter.all false
set_option maxRecDepth 100000
set_option maxHeartbeats 4000000
namespace L2
open PySem PySem.Spec PyProof.Rows
section
variable {X : Cx} {tg : Expr}
end
end L2
end
section
set_option Elab.async false
set_option linter.all false
set_option maxRecDepth 100000
set_option maxHeartbeats 4000000
namespace L2
open PySem PySem.Spec PyProof.Rows
section
variable {X : Cx} {tg l o e f : Expr} {tl td ty tx : TE} {apos cpos : Pos}
theorem hu5_of {A : Around} {k : Nat} (hr : Room k A) : A.units + 5 < cLine := Nat.lt_of_le_of_lt (Nat.add_le_add_left (by decide : 5 ≤ 64) _) hr.units
end
end L2
end
section
set_option Elab.async false
set_option linter.all false
set_option maxRecDepth 100000
set_option maxHeartbeats 4000000
namespace Bg
open PySem L2
end Bg
end
section
set_option Elab.async false
set_option linter.all false
set_option maxRecDepth 100000
set_option maxHeartbeats 4000000
namespace Bg
open PySem L2
def Sd (rs : List BRow) (m : Nat) : Nat := runJ rs rs.length m
def Edge (rs : List BRow) (n t : Nat) : Prop := ∃ r m, rs[n]? = some r ∧ m ∈ leadsL n r ∧ Sd rs m = t
def nk (n : Nat) : Key := Sum.inl (n : Int)
theorem stood_lt {rs : List BRow} (g : RowsGood rs) {n : Nat} (h : Stood rs n) : n < rs.length := h.1.lt g
theorem way_runJ {rs : List BRow} (g : RowsGood rs) : ∀ (k : Nat) {m : Nat}, Way rs none m → Way rs none (runJ rs k m)
  | 0, _, h => h
  | k + 1, m, h => by
    show Way rs none (runJ rs k (stp rs m))
    refine way_runJ g k ?_
    unfold stp
    cases e : rs[m]? with
    | none => exact h
    | some r =>
      cases r with
      | jump to => exact .step h e (fun y z => by cases z) (by unfold leadsL; exact List.mem_cons_self)
      | _ => exact h
theorem stood_edge {rs : List BRow} (g : RowsGood rs) {n t : Nat} (h : Stood rs n) (e : Edge rs n t) : Stood rs t := by
  obtain ⟨r, m, hr, hm, rfl⟩ := e
  have wm : Way rs none m := .step h.1 hr (fun y z => by cases z) hm
  exact ⟨way_runJ g _ wm, fun r' hr' => g.ring m (g.inr _ _ _ hr hm) r' hr'⟩
def sp_stand (_ : PySem.W.Frag) : Sp := fun vs H Q _ => ∃ (rt : Addr) (n : Nat) (rvs : List V) (rs : List BRow), vs = [.ref rt, .int (n : Nat)] ∧ H rt = some (.tup rvs) ∧ AllAt (RowAt H) rvs rs ∧ RowsGood rs ∧ n < rs.length ∧ Q (.int (Sd rs n : Nat)) H
end Bg
end
section
set_option Elab.async false
set_option linter.all false
set_option maxRecDepth 100000
set_option maxHeartbeats 4000000
namespace Bg
open PySem PySem.Spec PyProof.Rows L2
abbrev N_stand : List Str := ["_law_rows", "_law_n"]
def t_stand_1 (K : PySem.W.Frag) : TS := (tRet (tVar 1))
def t_stand_2 (K : PySem.W.Frag) : TS := (tAsg (tOp (rIx K) (tOp (rIx K) (tVar 0) (tVar 1)) (tC (.int 1))) (gName 1))
def t_stand (K : PySem.W.Frag) : TS := (tSeq (tWhile (tTest (tOp (rEqG K) (tOp (rIx K) (tOp (rIx K) (tVar 0) (tVar 1)) (tC (.int 0))) (tC (.str "jump")))) (t_stand_2 K)) (t_stand_1 K))
end Bg
end
section
set_option Elab.async false
set_option linter.all false
set_option maxRecDepth 100000
set_option maxHeartbeats 4000000
namespace Bg
open PySem L2
end Bg
end
section
set_option Elab.async false
set_option linter.all false
set_option maxRecDepth 100000
set_option maxHeartbeats 4000000
namespace Bg
open PySem L2
end Bg
end
section
set_option Elab.async false
set_option linter.all false
set_option maxRecDepth 100000
set_option maxHeartbeats 4000000
namespace Bg
open PySem L2
end Bg
end
section
set_option Elab.async false
set_option linter.all false
set_option maxRecDepth 100000
set_option maxHeartbeats 4000000
namespace Bg
open PySem L2
theorem ints_at {ns : List Nat} {i : Nat} {x : V} (hx : (intsV ns)[i]? = some x) : ∃ n : Nat, ns[i]? = some n ∧ x = .int (n : Nat) := by
  unfold intsV at hx
  rw [List.getElem?_map] at hx
  cases e : ns[i]? with
  | none => rw [e] at hx; cases hx
  | some n => rw [e] at hx; exact ⟨n, rfl, (Option.some.inj hx).symm⟩
end Bg
end
section
set_option Elab.async false
set_option linter.all false
set_option maxRecDepth 100000
set_option maxHeartbeats 4000000
namespace Bg
open PySem L2
end Bg
end
section
set_option Elab.async false
set_option linter.all false
set_option maxRecDepth 100000
set_option maxHeartbeats 4000000
namespace Bg
open PySem L2
end Bg
end
section
set_option Elab.async false
set_option linter.all false
set_option maxRecDepth 100000
set_option maxHeartbeats 4000000
namespace Bg
open PySem L2
end Bg
end
section
set_option Elab.async false
set_option linter.all false
set_option maxRecDepth 100000
set_option maxHeartbeats 4000000
namespace Bg
open PySem L2
theorem r_stand {K : PySem.W.Frag} {vs : List V} {H : Hp} {Q : VK} {E : XK} (h : sp_stand K vs H Q E) : t_stand K { nx := fun _ H' => Q .non H', rt := Q } (start N_stand vs) H := by
  obtain ⟨rt, n, rvs, rs, rfl, hrt, hA, g, hn, q⟩ := h
  refine ⟨fun m σ' H' => ∃ k, k ≤ rs.length ∧ m = rs.length - k ∧ σ' = [some (.ref rt), some (.int (runJ rs k n : Nat))] ∧ H' = H, ⟨_, 0, Nat.zero_le _, rfl, rfl, rfl⟩, ?_⟩
  rintro m σ' H' ⟨k, hk, rfl, rfl, rfl⟩
  have lt := runJ_lt g k hn
  obtain ⟨v, r, e1, e2, hra⟩ := hA.get lt
  obtain ⟨p, xs, rfl, hp⟩ := hra.ref
  have e1' : rvs[((runJ rs k n : Nat) : Int).toNat]? = some (.ref p) := by simpa using e1
  refine ⟨_, rfl, _, rfl, ixT hrt (by lia) e1' (ixT hp (by decide) rfl (.inl ⟨rfl, _, rfl, if_dec (fun hw => ?_) (fun hw => ?_)⟩))⟩
  · obtain ⟨t', rfl⟩ := word_jump (str_inj hw)
    have kl : k < rs.length := by
      by_cases c : k < rs.length
      · exact c
      · have : k = rs.length := by lia
        subst this
        have := g.ring n hn _ e2
        cases this
    refine ⟨fun σ' H'' => σ' = [some (.ref rt), some (.int (runJ rs (k + 1) n : Nat))] ∧ H'' = H', ?_, ?_⟩
    · rintro σ4 H4 ⟨rfl, rfl⟩
      exact ⟨rs.length - (k + 1), by lia, k + 1, kl, rfl, rfl, rfl⟩
    · obtain ⟨p', ep, hp'⟩ := hra
      cases ep
      refine ⟨_, rfl, _, rfl, ixT hrt (by lia) e1' (ixT hp' (by decide) rfl ?_)⟩
      have e : runJ rs (k + 1) n = t' := by rw [runJ_succ]; unfold stp; rw [e2]
      rw [e]
      exact ⟨rfl, rfl⟩
  · have e := runJ_end (rs := rs) (k := k) (n := n) hk fun r' hr' => by
      rw [e2] at hr'; cases hr'
      exact not_jump fun z => hw (by rw [z])
    unfold Sd at q
    rw [e] at q
    exact ⟨_, rfl, q⟩
end Bg
end
section
set_option Elab.async false
set_option linter.all false
set_option maxRecDepth 100000
set_option maxHeartbeats 4000000
namespace Bg
open PySem L2
theorem sd_self {rs : List BRow} {n : Nat} (h : ∀ r, rs[n]? = some r → isJump r = false) : Sd rs n = n := runJ_end (k := 0) (Nat.zero_le _) h
theorem sd_jump {rs : List BRow} (g : RowsGood rs) {n to : Nat} (hn : n < rs.length) (h : rs[n]? = some (.jump to)) : Sd rs n = Sd rs to := by
  have e1 : stp rs n = to := by unfold stp; rw [h]
  obtain ⟨k, hk⟩ : ∃ k, rs.length = k + 1 := ⟨rs.length - 1, by lia⟩
  have e2 : Sd rs n = runJ rs k to := by unfold Sd; rw [hk]; show runJ rs k (stp rs n) = _; rw [e1]
  have e3 : runJ rs rs.length to = runJ rs k to := runJ_end (by lia) fun r hr => g.ring n hn r (by rw [← e2] at hr; exact hr)
  rw [e2]; exact e3.symm
def Fall (r : BRow) : Bool := !isEnd r
theorem fall_leads {n : Nat} {r : BRow} (h : Fall r = true) : n + 1 ∈ leadsL n r := by cases r <;> simp_all [Fall, isEnd, leadsL]
def LdT (rs : List BRow) (n t : Nat) : Prop := ∃ a to, rs[n]? = some (.test a to) ∧ t = Sd rs to
def LdF (rs : List BRow) (n t : Nat) : Prop := ∃ r, rs[n]? = some r ∧ Fall r = true ∧ ((∃ to, rs[n + 1]? = some (.jump to)) ∨ n + 1 = Sd rs 0) ∧ t = Sd rs (n + 1)
def Ld (rs : List BRow) (t : Nat) : Prop := ∃ n, Stood rs n ∧ (LdT rs n t ∨ LdF rs n t)
def Top (rs : List BRow) (t : Nat) : Prop := t = Sd rs 0 ∨ Ld rs t
theorem sd_stood {rs : List BRow} (g : RowsGood rs) {m : Nat} (h : Way rs none m) : Stood rs (Sd rs m) := ⟨way_runJ g _ h, fun r hr => g.ring m (h.lt g) r hr⟩
theorem ld_stood {rs : List BRow} (g : RowsGood rs) {t : Nat} (h : Ld rs t) : Stood rs t := by
  obtain ⟨n, hn, ⟨a, to, hr, rfl⟩ | ⟨r, hr, hf, _, rfl⟩⟩ := h
  · exact sd_stood g (.step hn.1 hr (fun y z => by cases z) (by simp [leadsL]))
  · exact sd_stood g (.step hn.1 hr (fun y z => by cases z) (fall_leads hf))
theorem top_stood {rs : List BRow} (g : RowsGood rs) {t : Nat} (h : Top rs t) : Stood rs t := by
  rcases h with rfl | h
  · exact sd_stood g .zero
  · exact ld_stood g h
theorem next_one {rs : List BRow} {n : Nat} {r : BRow} (hn : Stood rs n) (hr : rs[n]? = some r) (hf : Fall r = true) (h : ¬ Top rs (Sd rs (n + 1))) : Sd rs (n + 1) = n + 1 :=
  sd_self fun r' hr' => by
    cases hj : isJump r' with
    | false => rfl
    | true =>
      cases r' with
      | jump to => exact absurd (.inr ⟨n, hn, .inr ⟨r, hr, hf, .inl ⟨to, hr'⟩, rfl⟩⟩) h
      | _ => cases hj
structure Piece (rs : List BRow) (h m : Nat) (e : Option Nat) : Prop where
  st : ∀ i, i ≤ m → Stood rs (h + i)
  no : ∀ i, 1 ≤ i → i ≤ m → ¬ Top rs (h + i)
  go : ∀ i, i < m → ∃ r, rs[h + i]? = some r ∧ Fall r = true ∧ Sd rs (h + i + 1) = h + i + 1
  fin0 : e = none → ∃ r, rs[h + m]? = some r ∧ isEnd r = true
  fin1 : ∀ t, e = some t → ∃ r, rs[h + m]? = some r ∧ Fall r = true ∧ t = Sd rs (h + m + 1) ∧ Top rs t
theorem Piece.le {rs : List BRow} {h m m' : Nat} {e e' : Option Nat} (p : Piece rs h m e) (p' : Piece rs h m' e') : m' ≤ m := by
  rcases Nat.lt_or_ge m m' with lt | ge
  · obtain ⟨r, hr, hf, hs⟩ := p'.go m lt
    exfalso
    cases e with
    | none =>
      obtain ⟨r', hr', he⟩ := p.fin0 rfl
      rw [hr] at hr'; cases hr'
      simp [Fall, he] at hf
    | some t =>
      obtain ⟨r', hr', hf', ht, htop⟩ := p.fin1 t rfl
      rw [ht, hs] at htop
      exact p'.no (m + 1) (by lia) lt htop
  · exact ge
theorem Piece.one {rs : List BRow} {h m m' : Nat} {e e' : Option Nat} (p : Piece rs h m e) (p' : Piece rs h m' e') : m = m' ∧ e = e' := by
  have em : m = m' := Nat.le_antisymm (p'.le p) (p.le p')
  subst em
  refine ⟨rfl, ?_⟩
  cases e with
  | none =>
    cases e' with
    | none => rfl
    | some t =>
      obtain ⟨r, hr, he⟩ := p.fin0 rfl
      obtain ⟨r', hr', hf, _⟩ := p'.fin1 t rfl
      rw [hr] at hr'; cases hr'; simp [Fall, he] at hf
  | some t =>
    obtain ⟨r, hr, hf, ht, _⟩ := p.fin1 t rfl
    cases e' with
    | none => obtain ⟨r', hr', he⟩ := p'.fin0 rfl; rw [hr] at hr'; cases hr'; simp [Fall, he] at hf
    | some t' => obtain ⟨r', hr', hf', ht', _⟩ := p'.fin1 t' rfl; rw [ht, ht']
def pc (h m : Nat) : List Nat := (List.range (m + 1)).map fun i => h + i
theorem pc_mem {h m x : Nat} : x ∈ pc h m ↔ h ≤ x ∧ x ≤ h + m := by
  unfold pc
  rw [List.mem_map]
  constructor
  · rintro ⟨i, hi, rfl⟩
    rw [List.mem_range] at hi
    lia
  · rintro ⟨a, b⟩
    exact ⟨x - h, List.mem_range.mpr (by lia), by lia⟩
theorem pc_pw (h m : Nat) : (pc h m).Pairwise (· < ·) := by
  unfold pc
  rw [List.pairwise_map]
  exact List.pairwise_lt_range.imp fun z => by lia
theorem pc_succ (h m : Nat) : pc h (m + 1) = pc h m ++ [h + m + 1] := by
  unfold pc
  rw [List.range_succ, List.map_append]; rfl
theorem pc_len (h m : Nat) : (pc h m).length = m + 1 := by unfold pc; rw [List.length_map, List.length_range]
theorem pc_at {h m i : Nat} (hi : i ≤ m) : (pc h m)[i]? = some (h + i) := by
  unfold pc
  rw [List.getElem?_map, List.getElem?_range (by lia)]; rfl
inductive Evr (rs : List BRow) : List Nat → List Nat → Prop where
  | nil : Evr rs [] []
  | snoc {hs ev : List Nat} {h m : Nat} {e : Option Nat} : Evr rs hs ev → Piece rs h m e → Evr rs (hs ++ [h]) (ev ++ pc h m)
theorem Evr.mem {rs : List BRow} {hs ev : List Nat} (v : Evr rs hs ev) : ∀ x, x ∈ ev ↔ ∃ h ∈ hs, ∃ m e, Piece rs h m e ∧ h ≤ x ∧ x ≤ h + m := by
  induction v with
  | nil => intro x; simp
  | @snoc hs ev h m e v p ih =>
    intro x
    rw [List.mem_append, ih, pc_mem]
    constructor
    · rintro (⟨h', m', r⟩ | r)
      · exact ⟨h', List.mem_append_left _ m', r⟩
      · exact ⟨h, List.mem_append_right _ List.mem_cons_self, m, e, p, r⟩
    · rintro ⟨h', mm, m', e', p', r⟩
      rcases List.mem_append.mp mm with z | z
      · exact .inl ⟨h', z, m', e', p', r⟩
      · have z := List.mem_singleton.mp z
        subst z
        cases (p.one p').1
        exact .inr r
theorem Evr.pw {rs : List BRow} {hs ev : List Nat} (v : Evr rs hs ev) : hs.Pairwise (· < ·) → (∀ h ∈ hs, Top rs h) → ev.Pairwise (· < ·) := by
  induction v with
  | nil => intro _ _; exact List.Pairwise.nil
  | @snoc hs ev h m e v p ih =>
    intro hp ht
    obtain ⟨p1, _, p3⟩ := List.pairwise_append.mp hp
    refine List.pairwise_append.mpr ⟨ih p1 fun h m => ht h (List.mem_append_left _ m), pc_pw h m, fun x hx y hy => ?_⟩
    obtain ⟨h', mh', m', e', p', a, b⟩ := (v.mem x).mp hx
    have lt := p3 h' mh' h List.mem_cons_self
    obtain ⟨c, _⟩ := pc_mem.mp hy
    rcases Nat.lt_or_ge x h with z | z
    · lia
    · have := p'.no (h - h') (by lia) (by lia)
      rw [show h' + (h - h') = h by lia] at this
      exact absurd (ht h (List.mem_append_right _ List.mem_cons_self)) this
theorem cover {rs : List BRow} (g : RowsGood rs) (hp : ∀ h, Top rs h → ∃ m e, Piece rs h m e) {m : Nat} (w : Way rs none m) : ∃ h k e, Top rs h ∧ Piece rs h k e ∧ h ≤ Sd rs m ∧ Sd rs m ≤ h + k := by
  have top : ∀ t, Top rs t → ∃ h k e, Top rs h ∧ Piece rs h k e ∧ h ≤ t ∧ t ≤ h + k := fun t ht => by
    obtain ⟨k, e, p⟩ := hp t ht
    exact ⟨t, k, e, ht, p, Nat.le_refl _, Nat.le_add_right _ _⟩
  induction w with
  | zero => exact top _ (.inl rfl)
  | @step n m r hn hr _ hm ih =>
    cases hj : isJump r with
    | true =>
      cases r with
      | jump to =>
        have : m = to := by simpa [leadsL] using hm
        subst this
        rw [← sd_jump g (hn.lt g) hr]; exact ih
      | _ => cases hj
    | false =>
      have st : Stood rs n := ⟨hn, fun r' hr' => by rw [hr] at hr'; cases hr'; exact hj⟩
      rw [sd_self st.2] at ih
      have fallc : Fall r = true → ∃ h k e, Top rs h ∧ Piece rs h k e ∧ h ≤ Sd rs (n + 1) ∧ Sd rs (n + 1) ≤ h + k := fun hf => by
        by_cases c : Top rs (Sd rs (n + 1))
        · exact top _ c
        · have e1 := next_one st hr hf c
          obtain ⟨h, k, e, ht, p, a, b⟩ := ih
          refine ⟨h, k, e, ht, p, by lia, ?_⟩
          rcases Nat.lt_or_ge n (h + k) with z | z
          · lia
          · exfalso
            have en : n = h + k := by lia
            cases e with
            | none =>
              obtain ⟨r', hr', he⟩ := p.fin0 rfl
              rw [← en, hr] at hr'; cases hr'; simp [Fall, he] at hf
            | some t =>
              obtain ⟨r', hr', hf', htt, htop⟩ := p.fin1 t rfl
              rw [htt, ← en] at htop
              exact c htop
      cases r with
      | jump to => cases hj
      | give a => simp [leadsL] at hm
      | test a to =>
        have hm' : m = n + 1 ∨ m = to := by simpa [leadsL] using hm
        rcases hm' with rfl | rfl
        · exact fallc rfl
        · exact top _ (.inr ⟨n, st, .inl ⟨a, _, hr, rfl⟩⟩)
      | num x z => have : m = n + 1 := by simpa [leadsL] using hm
                   subst this; exact fallc rfl
      | op x s a b => have : m = n + 1 := by simpa [leadsL] using hm
                      subst this; exact fallc rfl
      | call x k as => have : m = n + 1 := by simpa [leadsL] using hm
                       subst this; exact fallc rfl
      | say a => have : m = n + 1 := by simpa [leadsL] using hm
                 subst this; exact fallc rfl
theorem nats_one : ∀ {l m : List Nat}, l.Pairwise (· < ·) → m.Pairwise (· < ·) → (∀ x, x ∈ l ↔ x ∈ m) → l = m
  | [], [], _, _, _ => rfl
  | [], y :: m, _, _, h => absurd ((h y).mpr List.mem_cons_self) (by simp)
  | x :: l, [], _, _, h => absurd ((h x).mp List.mem_cons_self) (by simp)
  | x :: l, y :: m, hl, hm, h => by
    have hl' := List.pairwise_cons.mp hl
    have hm' := List.pairwise_cons.mp hm
    have e : x = y := by
      rcases List.mem_cons.mp ((h x).mp List.mem_cons_self) with e | hx
      · exact e
      · rcases List.mem_cons.mp ((h y).mpr List.mem_cons_self) with e | hy
        · exact e.symm
        · have := hl'.1 y hy; have := hm'.1 x hx; lia
    subst e
    have : l = m := nats_one hl'.2 hm'.2 fun z => by
      constructor
      · intro hz
        rcases List.mem_cons.mp ((h z).mp (List.mem_cons_of_mem _ hz)) with e | q
        · have := hl'.1 z hz; lia
        · exact q
      · intro hz
        rcases List.mem_cons.mp ((h z).mpr (List.mem_cons_of_mem _ hz)) with e | q
        · have := hm'.1 z hz; lia
        · exact q
    rw [this]
end Bg
end
section
namespace BgSet
open PySem
set_option maxRecDepth 100000
def Ris (ps : Array Nat) : Prop := ps.toList.Pairwise (· < ·)
theorem Ris.at {ps : Array Nat} (hr : Ris ps) {i j a b : Nat} (hij : i < j) (ha : ps[i]? = some a) (hb : ps[j]? = some b) : a < b := by
  rw [← Array.getElem?_toList] at ha hb
  obtain ⟨hi, rfl⟩ := List.getElem?_eq_some_iff.mp ha
  obtain ⟨hj, rfl⟩ := List.getElem?_eq_some_iff.mp hb
  exact List.pairwise_iff_getElem.mp hr i j hi hj hij
theorem below_go {ps : Array Nat} {j : Nat} (hr : Ris ps) : ∀ fl lo hi, hi - lo ≤ fl → hi ≤ ps.size → lo ≤ hi →
    (∀ i a, i < lo → ps[i]? = some a → a < j) → (∀ i a, hi ≤ i → ps[i]? = some a → j ≤ a) →
    SetTable.below.go ps j fl lo hi ≤ ps.size ∧ (∀ i a, i < SetTable.below.go ps j fl lo hi → ps[i]? = some a → a < j)
      ∧ (∀ i a, SetTable.below.go ps j fl lo hi ≤ i → ps[i]? = some a → j ≤ a) := by
  intro fl
  induction fl with
  | zero =>
    intro lo hi hf hs hl h1 h2
    have : lo = hi := by lia
    subst this
    exact ⟨hs, h1, h2⟩
  | succ fl ih =>
    intro lo hi hf hs hl h1 h2
    unfold SetTable.below.go
    by_cases hlt : lo < hi
    · rw [if_pos hlt]
      have hm : (lo + hi) / 2 < ps.size := by lia
      have hg : ps[(lo + hi) / 2]? = some (ps.getD ((lo + hi) / 2) j) := by
        simp [Array.getD, hm]
      dsimp only
      by_cases hc : ps.getD ((lo + hi) / 2) j < j
      · rw [if_pos hc]
        refine ih _ _ (by lia) hs (by lia) (fun i a hi' ha => ?_) h2
        rcases Nat.lt_or_ge i ((lo + hi) / 2) with hq | hq
        · exact Nat.lt_trans (hr.at hq ha hg) hc
        · have : i = (lo + hi) / 2 := by lia
          subst this; rw [hg] at ha; cases ha; exact hc
      · rw [if_neg hc]
        refine ih _ _ (by lia) (by lia) (by lia) h1 (fun i a hi' ha => ?_)
        rcases Nat.lt_or_ge ((lo + hi) / 2) i with hq | hq
        · exact Nat.le_of_lt (Nat.lt_of_le_of_lt (Nat.not_lt.mp hc) (hr.at hq hg ha))
        · have : i = (lo + hi) / 2 := by lia
          subst this; rw [hg] at ha; cases ha; exact Nat.not_lt.mp hc
    · rw [if_neg hlt]
      have : lo = hi := by lia
      subst this
      exact ⟨hs, h1, h2⟩
theorem below_ok {ps : Array Nat} (hr : Ris ps) (j : Nat) : SetTable.below ps j ≤ ps.size ∧ (∀ i a, i < SetTable.below ps j → ps[i]? = some a → a < j)
    ∧ (∀ i a, SetTable.below ps j ≤ i → ps[i]? = some a → j ≤ a) := by
  refine below_go hr ps.size 0 ps.size (Nat.le_refl _) (Nat.le_refl _) (Nat.zero_le _) (fun i a h => absurd h (Nat.not_lt_zero _)) (fun i a h ha => ?_)
  rw [Array.getElem?_eq_none h] at ha; cases ha
theorem below_zero {ps : Array Nat} (hr : Ris ps) : SetTable.below ps 0 = 0 := by
  obtain ⟨h1, h2, -⟩ := below_ok hr 0
  rcases Nat.eq_zero_or_pos (SetTable.below ps 0) with h | h
  · exact h
  · have hlt : 0 < ps.size := by lia
    exact absurd (h2 0 ps[0] h (Array.getElem?_eq_getElem hlt)) (Nat.not_lt_zero _)
theorem below_next {ps : Array Nat} (hr : Ris ps) {i p : Nat} (hp : ps[i]? = some p) : SetTable.below ps (p + 1) = i + 1 := by
  obtain ⟨h1, h2, h3⟩ := below_ok hr (p + 1)
  have hlo : i < SetTable.below ps (p + 1) := by
    rcases Nat.lt_or_ge i (SetTable.below ps (p + 1)) with h | h
    · exact h
    · exact absurd (h3 i p h hp) (by lia)
  rcases Nat.lt_or_ge (i + 1) (SetTable.below ps (p + 1)) with h | h
  · have hlt : i + 1 < ps.size := by lia
    have hq := Array.getElem?_eq_getElem hlt
    have a1 := h2 _ _ h hq
    have a2 := hr.at (Nat.lt_succ_self i) hp hq
    lia
  · lia
theorem ris_insert {ps : Array Nat} (hr : Ris ps) {j : Nat} (hn : ∀ i : Nat, ps[i]? ≠ some j) : Ris (SetTable.insertAt ps (SetTable.below ps j) j) := by
  obtain ⟨h1, h2, h3⟩ := below_ok hr j
  unfold Ris
  rw [SetTable.toList_insertAt]
  have hlow : ∀ a ∈ ps.toList.take (SetTable.below ps j), a < j := fun a ha => by
    obtain ⟨i, hi⟩ := List.getElem?_of_mem ha
    rw [List.getElem?_take] at hi
    split at hi
    · rename_i hlt; exact h2 i a hlt (by rw [← Array.getElem?_toList]; exact hi)
    · cases hi
  have hhigh : ∀ a ∈ ps.toList.drop (SetTable.below ps j), j < a := fun a ha => by
    obtain ⟨i, hi⟩ := List.getElem?_of_mem ha
    rw [List.getElem?_drop, Array.getElem?_toList] at hi
    have := h3 _ a (Nat.le_add_right _ _) hi
    rcases Nat.lt_or_eq_of_le this with h | h
    · exact h
    · subst h; exact absurd hi (hn _)
  refine List.pairwise_append.mpr ⟨hr.sublist (List.take_sublist _ _), List.pairwise_cons.mpr ⟨hhigh, hr.sublist (List.drop_sublist _ _)⟩, fun a ha b hb => ?_⟩
  rcases List.mem_cons.mp hb with rfl | hb
  · exact hlow a ha
  · exact Nat.lt_trans (hlow a ha) (hhigh b hb)
structure Tab (led : Bool) (t : SetTable) : Prop where
  led : t.led = led
  dum : t.dummies = #[]
  ris : t.plain = true → Ris t.place
theorem Tab.fresh (a b : Nat) (led : Bool) : Tab led (SetTable.fresh a b led) := ⟨rfl, rfl, fun _ => List.Pairwise.nil⟩
theorem Tab.standIn {led : Bool} {t : SetTable} (h : Tab led t) (n : Nat) : Tab led (t.standIn n) :=
  ⟨h.led, rfl, fun hp => by simp [SetTable.standIn] at hp⟩
theorem Tab.orStandIn {led : Bool} {t : SetTable} (h : Tab led t) (n : Nat) : Tab led (t.orStandIn n) := by
  unfold SetTable.orStandIn
  split
  · exact h
  · exact h.standIn n
theorem has_none (j : Nat) : SetTable.has #[] j = false := by
  unfold SetTable.has; simp
theorem slot_empty {t : SetTable} (hd : t.dummies = #[]) {j : Nat} : t.slot j ≠ .dummy := by
  unfold SetTable.slot
  rw [hd, has_none]
  dsimp only
  split <;> simp
theorem probe_free {t : SetTable} (hd : t.dummies = #[]) {f : Nat → Int} {h : Int} : ∀ fl (p : SetTable.Probe) (j : Nat) (d : Option Nat), p.dummy = none →
    SetTable.probe.go t f h fl p = some (.empty j d) → d = none ∧ t.slot j = .empty := by
  intro fl
  induction fl with
  | zero => intro p j d hp hq; unfold SetTable.probe.go at hq; cases hq
  | succ fl ih =>
    intro p j d hp hq
    unfold SetTable.probe.go at hq
    have hadv : (t.advance p).dummy = none := by
      unfold SetTable.advance; split <;> exact hp
    cases hs : t.slot p.j with
    | empty => rw [hs] at hq; simp only [Option.some.injEq, SetTable.Met.empty.injEq] at hq; obtain ⟨rfl, rfl⟩ := hq; exact ⟨hp, hs⟩
    | dummy => exact absurd hs (slot_empty hd)
    | live i =>
      rw [hs] at hq
      simp only at hq
      split at hq
      · cases hq
      · exact ih _ j d hadv hq
theorem free_slot {t : SetTable} (hd : t.dummies = #[]) {h : Int} {sl : Nat} {wd : Bool} (hq : t.freeSlot h = some (sl, wd)) : t.slot sl = .empty := by
  unfold SetTable.freeSlot SetTable.probe at hq
  split at hq
  · rename_i j d he
    obtain ⟨rfl, hs⟩ := probe_free hd _ _ j d rfl he
    simp only [Option.getD_none, Option.some.injEq, Prod.mk.injEq] at hq
    rw [← hq.1]; exact hs
  · cases hq
theorem slot_not {t : SetTable} (hr : Ris t.place) {j : Nat} (hs : t.slot j = .empty) : ∀ i : Nat, t.place[i]? ≠ some j := by
  intro i hi
  obtain ⟨h1, h2, h3⟩ := below_ok hr j
  have hb : SetTable.below t.place j = i := by
    rcases Nat.lt_trichotomy (SetTable.below t.place j) i with h | h | h
    · have hlt : SetTable.below t.place j < t.place.size := by
        have := (Array.getElem?_eq_some_iff.mp hi).1; lia
      have hq := Array.getElem?_eq_getElem hlt
      have a1 := h3 _ _ (Nat.le_refl _) hq
      have a2 := hr.at h hq hi
      lia
    · exact h
    · exact absurd (h2 i j h hi) (Nat.lt_irrefl _)
  unfold SetTable.slot at hs
  rw [hb] at hs
  dsimp only at hs
  rw [hi] at hs
  simp at hs
theorem Tab.put {led : Bool} {t : SetTable} (h : Tab led t) {sl : Nat} (hs : t.slot sl = .empty) : Tab led (t.put sl).1 := by
  refine ⟨h.led, ?_, fun hp => ?_⟩
  · show (if SetTable.has t.dummies sl = true then _ else t.dummies) = #[]
    rw [h.dum, has_none]; rfl
  · exact ris_insert (h.ris hp) (slot_not (h.ris hp) hs)
theorem Tab.layNew {led : Bool} {t : SetTable} (h : Tab led t) (es : Array (Int × Value)) (hs : Int) (x : Value) : Tab led (layNew t es hs x).2.1 := by
  unfold PySem.layNew
  split
  · rename_i sl wd hq
    exact (h.put (free_slot h.dum hq)).orStandIn _
  · exact h.standIn _
theorem Tab.off {led : Bool} {t : SetTable} (h : Tab led t) : Tab led { t with plain := false } := ⟨h.led, h.dum, fun hp => by simp at hp⟩
theorem live_sub (g : Nat → Option Nat) : ∀ l : List Nat, ((l.filterMap fun j => (g j).map (j, ·)).map (·.1)).Sublist l
  | [] => List.Sublist.refl _
  | j :: l => by
    rw [List.filterMap_cons]
    cases hg : g j with
    | none => simpa using (live_sub g l).cons j
    | some b => simpa using (live_sub g l).cons_cons j
theorem Tab.relaid {led : Bool} {t t' : SetTable} {hs : Array Int} {n : Nat} {o : Array Nat} (h : Tab led t) (hq : t.relaid hs n = some (t', o)) : Tab led t' := by
  unfold SetTable.relaid SetTable.laid at hq
  cases ho : SetTable.layClean (SetTable.sizeAbove n - 1) hs with
  | none => rw [ho] at hq; simp at hq
  | some ow =>
    rw [ho] at hq
    simp only [Option.bind_eq_bind, Option.bind_some, Option.pure_def, Option.some.injEq, Prod.mk.injEq] at hq
    rw [← hq.1]
    refine ⟨h.led, rfl, fun _ => ?_⟩
    unfold Ris
    rw [List.toList_toArray]
    exact (List.pairwise_lt_range).sublist (live_sub (fun j => ow.getD j none) _)
theorem Tab.relay {led : Bool} {t : SetTable} (h : Tab led t) (es : Array (Int × Value)) (n : Nat) : Tab led (relayAll t es n).2.1 := by
  unfold relayAll
  split
  · rename_i t' o hq
    dsimp only
    split
    · exact h.relaid hq
    · exact h.standIn _
  · exact h.standIn _
theorem plain_relay {t : SetTable} (h : t.plain = false) (es : Array (Int × Value)) (n : Nat) : (relayAll t es n).2.1.plain = false := by
  unfold relayAll
  split
  · rename_i t' o hq
    dsimp only
    split
    · unfold SetTable.relaid SetTable.laid at hq
      cases ho : SetTable.layClean (SetTable.sizeAbove n - 1) (es.map (·.1)) with
      | none => rw [ho] at hq; simp at hq
      | some ow =>
        rw [ho] at hq
        simp only [Option.bind_eq_bind, Option.bind_some, Option.pure_def, Option.some.injEq, Prod.mk.injEq] at hq
        rw [← hq.1]; exact h
    · rfl
  · rfl
end BgSet
end
section
namespace BgSet
open PySem
set_option maxRecDepth 100000
section
variable {prog : Program} {w : World} {K : Type} [DecidableEq K]
def Apart (kd : KeyKind prog w K) (l : List (Int × Value)) : Prop :=
  l.Pairwise fun e e' => ∀ k, kd.is k e.2 = true → kd.is k e'.2 = false
theorem Apart.perm {kd : KeyKind prog w K} {l l' : List (Int × Value)} (h : Apart kd l) (p : l'.Perm l) : Apart kd l' := by
  refine (p.pairwise_iff (fun {x y} hxy k hk => ?_)).mpr h
  cases hx : kd.is k x.2 with
  | false => rfl
  | true => have := hxy k hx; rw [hk] at this; cases this
def SetTb (kd : KeyKind prog w K) (h : Heap) (a : Addr) (S : K → Bool) (n : Nat) (led np : Bool) : Prop :=
  ∃ o es ep t, h.get? a = some o ∧ o.ExactSet ∧ o.data = .set es ep t ∧ ElemsOf kd es.toList ∧ (∀ k, S k = true ↔ ∃ e ∈ es.toList, kd.is k e.2 = true)
    ∧ es.size < scanBound ∧ t.fits es.size = true ∧ es.size = n ∧ Tab led t ∧ (np = true → n ≠ 0 → t.plain = false) ∧ Apart kd es.toList
variable {kd : KeyKind prog w K} {A : Around} {E : Value → Shared → Prop} {s : Shared}
theorem SetTb.congr {h : Heap} {a : Addr} {S S' : K → Bool} {n n' : Nat} {led np : Bool} (hS : SetTb kd h a S n led np) (e : ∀ k, S k = S' k) (en : n = n') : SetTb kd h a S' n' led np := by
  cases (funext e : S = S'); cases en; exact hS
theorem SetTb.keep {h h' : Heap} {a : Addr} {S : K → Bool} {n : Nat} {led np : Bool} (hS : SetTb kd h a S n led np) (e : ∀ o, h.get? a = some o → h'.get? a = some o) : SetTb kd h' a S n led np := by
  obtain ⟨o, es, ep, t, ho, r⟩ := hS
  exact ⟨o, es, ep, t, e o ho, r⟩
theorem SetTb.fresh {h : Heap} {a : Addr} {led np : Bool} {x y : Nat} (hg : h.get? a = some { cls := .type "set", dict := none, data := .set #[] 0 (.fresh x y led) }) :
    SetTb kd h a (fun _ => false) 0 led np :=
  ⟨_, #[], 0, _, hg, ⟨rfl, rfl, rfl⟩, rfl, fun e he => by simp at he, fun k => by simp, by decide, rfl, rfl, Tab.fresh x y led, fun _ hn => absurd rfl hn, List.Pairwise.nil⟩
structure Laid (kd : KeyKind prog w K) (S : K → Bool) (n : Nat) (led np : Bool) (es : Array (Int × Value)) (t : SetTable) : Prop where
  el : ElemsOf kd es.toList
  mem : ∀ k, S k = true ↔ ∃ e ∈ es.toList, kd.is k e.2 = true
  few : es.size < scanBound
  fit : t.fits es.size = true
  many : es.size = n
  tab : Tab led t
  off : np = true → t.plain = false
  apart : Apart kd es.toList
theorem Laid.relay {S : K → Bool} {n : Nat} {led np : Bool} {es : Array (Int × Value)} {t : SetTable} (h : Laid kd S n led np es t) (wn : Nat) :
    Laid kd S n led np (relayAll t es wn).1 (relayAll t es wn).2.1 := by
  have hp := relayAll_perm t es wn
  have hz : (relayAll t es wn).1.size = es.size := by rw [← Array.length_toList, hp.length_eq, Array.length_toList]
  exact ⟨h.el.perm hp, fun k => (h.mem k).trans ⟨fun ⟨e, he, q⟩ => ⟨e, hp.mem_iff.mpr he, q⟩, fun ⟨e, he, q⟩ => ⟨e, hp.mem_iff.mp he, q⟩⟩,
    by rw [hz]; exact h.few, relayAll_fits t es wn, by rw [hz]; exact h.many, h.tab.relay es wn, fun e => plain_relay (h.off e) es wn, h.apart.perm hp⟩
theorem Laid.stored {S : K → Bool} {n : Nat} {led np : Bool} {es' : Array (Int × Value)} {t' : SetTable} (L : Laid kd S n led np es' t')
    {h : Heap} {a : Addr} {o : Obj} {es : Array (Int × Value)} {ep : Nat} {t : SetTable} (ho : h.get? a = some o) (hex : o.ExactSet) (hd : o.data = .set es ep t) :
    (h.update a (Obj.putSet es' t')).get? a = some { o with data := .set es' (ep + 1) t' } ∧ SetTb kd (h.update a (Obj.putSet es' t')) a S n led np := by
  have hg := (SetOf_store (knd := kd) ho hex hd L.el L.mem L.few L.fit).1
  exact ⟨hg, _, es', ep + 1, t', hg, hex, rfl, L.el, L.mem, L.few, L.fit, L.many, L.tab, fun e _ => L.off e, L.apart⟩
theorem addTailT {g : Bool → Sem Unit} (hg : ∀ (b : Bool) (s₁ : Shared) (Q' : Unit → Shared → Prop), Q' () s₁ → wpAny (model prog w) A (g b) Q' E s₁)
    {a : Addr} {o : Obj} {es : Array (Int × Value)} {ep : Nat} {t : SetTable} (ho : s.heap.get? a = some o) (hex : o.ExactSet) (hd : o.data = .set es ep t)
    {es1 : Array (Int × Value)} {t2 : SetTable} {S : K → Bool} {n : Nat} {led np : Bool} (L : Laid kd S n led np es1 t2) {wd : Bool} {R : Option Bool → Shared → Prop}
    (hR : ∀ h', Heap.SameBut a s.heap h' → SetTb kd h' a S n led np → R (some true) { s with heap := h' }) :
    wpAny (model prog w) A (do
        storeSet a es1 t2
        if (!wd && t2.tooFull) = true then do
            g (relayAll t2 es1 (SetTable.grown es1.size)).2.2
            storeSet a (relayAll t2 es1 (SetTable.grown es1.size)).1 (relayAll t2 es1 (SetTable.grown es1.size)).2.1
            pure (some true)
          else pure (some true)) R E s := by
  refine wpAny_bind (wpAny_storeSet_of ho hd ?_ (fits_of_scanBound L.few))
  obtain ⟨g1, T1⟩ := L.stored ho hex hd
  have sb := Heap.SameBut.update s.heap a (Obj.putSet es1 t2)
  split
  · have L2 := L.relay (SetTable.grown es1.size)
    refine wpAny_bind (hg _ _ _ ?_)
    refine wpAny_bind (wpAny_storeSet_of g1 rfl ?_ (fits_of_scanBound L2.few))
    obtain ⟨-, T2⟩ := L2.stored g1 hex rfl
    exact wpAny_pure (hR _ (sb.trans (Heap.SameBut.update _ a _)) T2)
  · exact wpAny_pure (hR _ sb T1)
theorem setAddT {a : Addr} {S : K → Bool} {n : Nat} {led np : Bool} {k : K} {x : Value} {Q : Bool → Shared → Prop} (hkey : kd.is k x = true) (hsc : x.scannable = true)
    (hnp : np = true → plainKind x = false) (hS : SetTb kd s.heap a S n led np) (hroom : n + 1 < scanBound)
    (hQ : ∀ h', Heap.SameBut a s.heap h' → SetTb kd h' a (fun k' => S k' || decide (k' = k)) (if S k then n else n + 1) led np → Q (!S k) { s with heap := h' }) :
    wpAny (model prog w) A (setAddHashed a x (kd.hash k)) Q E s := by
  obtain ⟨o, es, ep, t, ho, hex, hd, hel, hmem, hb, hf, hn, htab, hoff, hap⟩ := hS
  have hb1 : es.size + 1 < scanBound := by rw [hn]; exact hroom
  unfold setAddHashed setAddHashedIn
  refine wpAny_holding (wpAny_bind (wpAny_setState_of ho hd hf ?_))
  dsimp only
  rw [byScan_of hsc hb hel]
  simp only [↓reduceIte]
  unfold setAddByScan
  refine wpAny_bind ?_
  refine wpAny_bind (wpAny_rule ?_)
  refine wpAny_bind (wpAny_setScan_of hkey ho hd hf hel ?_)
  cases hr : List.findIdx? (fun e => kd.is k e.2) es.toList with
  | some j =>
    dsimp only
    obtain ⟨hj, hpj, -⟩ := List.findIdx?_eq_some_iff_getElem.mp hr
    have hk : S k = true := (hmem k).mpr ⟨_, List.getElem_mem hj, hpj⟩
    refine wpAny_pure (wpAny_pure ?_)
    have es0 : s = { s with heap := s.heap } := by cases s; rfl
    have done := hQ s.heap (Heap.SameBut.refl a s.heap) (SetTb.congr (S := S) (n := n) ⟨o, es, ep, t, ho, hex, hd, hel, hmem, hb, hf, hn, htab, hoff, hap⟩
      (fun k' => by by_cases e : k' = k <;> simp [e, hk]) (by rw [hk]; rfl))
    rw [hk] at done; rw [es0]; exact done
  | none =>
    dsimp only
    have hall := List.findIdx?_eq_none_iff.mp hr
    have hk : S k = false := by
      cases hk : S k with
      | false => rfl
      | true => obtain ⟨e, he, hp⟩ := (hmem k).mp hk; rw [hall e he] at hp; cases hp
    have hper := layNew_perm t es (kd.hash k) x
    have hfit := layNew_fits t es (kd.hash k) x
    have htb := htab.layNew es (kd.hash k) x
    generalize layNew t es (kd.hash k) x = L at hper hfit htb ⊢
    obtain ⟨es1, t1, wd, gv⟩ := L
    dsimp only at hper hfit htb ⊢
    rw [Array.toList_push] at hper
    have hz : es1.size = n + 1 := by rw [← Array.length_toList, hper.length_eq, List.length_append, Array.length_toList, hn]; rfl
    have hap1 : Apart kd es1.toList := by
      refine Apart.perm (List.pairwise_append.mpr ⟨hap, List.pairwise_singleton _ _, fun e he e' he' k' hk' => ?_⟩) hper
      rw [List.mem_singleton] at he'; subst he'
      cases hq : kd.is k' x with
      | false => rfl
      | true => cases kd.inj x k' k hq hkey; rw [hall e he] at hk'; cases hk'
    have hL : ∀ t2 : SetTable, t2.fits es1.size = true → Tab led t2 → (np = true → t2.plain = false) → Laid kd (fun k' => S k' || decide (k' = k)) (n + 1) led np es1 t2 :=
      fun t2 f2 tb2 o2 => ⟨(hel.push hkey hsc).perm hper, mem_push_iff hkey hmem hper, by rw [hz]; exact hroom, f2, hz, tb2, o2, hap1⟩
    have hend : ∀ h', Heap.SameBut a s.heap h' → SetTb kd h' a (fun k' => S k' || decide (k' = k)) (n + 1) led np → Q true { s with heap := h' } := by
      intro h' sb T; have q := hQ h' sb; rw [hk] at q; exact q T
    have gw : ∀ (c : Bool) {s₁ : Shared} {Q₁ : Unit → Shared → Prop}, Q₁ () s₁ →
        wpAny (model prog w) A (match c with | true => rule "set.scan.the-table-gave-way" | false => pure ()) Q₁ E s₁ := fun c s₁ Q₁ hq => by
      cases c <;> first | exact wpAny_pure hq | exact wpAny_rule hq
    refine wpAny_bind (gw _ ?_)
    split
    · refine wpAny_bind ?_
      rw [hashByValue_scannable 8 hsc]
      refine wpAny_pure ?_
      refine addTailT (n := n + 1) (led := led) (np := np) ?_ ho hex hd (hL _ ?_ ?_ ?_) ?_
      · exact fun b s₁ Q' hq => gw b hq
      · split
        · exact hfit
        · exact SetTable.fits_plain_off hfit
      · split
        · exact htb
        · exact htb.off
      · intro e; rw [hnp e]; rfl
      · intro h' sb T; dsimp only; exact wpAny_pure (hend h' sb T)
    · rename_i hpl
      refine wpAny_bind (wpAny_pure ?_)
      simp only [↓reduceIte]
      refine addTailT (n := n + 1) (led := led) (np := np) ?_ ho hex hd (hL _ hfit htb (fun _ => by simpa using hpl)) ?_
      · exact fun b s₁ Q' hq => gw b hq
      · intro h' sb T; dsimp only; exact wpAny_pure (hend h' sb T)
end
end BgSet
end
section
namespace BgSet
open PySem
set_option maxRecDepth 100000
set_option maxHeartbeats 1000000
theorem it_owner : Manifest.owners.lookup (String.ofList ['r', 'o', 't', 'a', 'r', 'e', 't', 'i', '_', 't', 'e', 's'].reverse) = some Manifest.sig_set_iterator := by kernel_rfl
theorem it_next : Slot "set_iterator" "__next__" "set_iterator.__next__" :=
  .of (owner := "set_iterator") (n := "__next__") (by rw [typeLookup_type, builtinLookup_eq_fast]; kernel_rfl) (by decide +kernel) (by decide +kernel)
    (by decide +kernel) (by first | exact .inl (by decide +kernel) | exact .inr (by decide +kernel))
    (by rw [isSubtype_type]; kernel_rfl)
theorem it_next_entry : entryFor table "set_iterator.__next__" = some Builtin.«set_iterator.__next__» := entryFor_of_tree (by kernel_rfl)
theorem it_next_args (v : Value) : argsOk "set_iterator.__next__" ⟨[v], []⟩ := by
  unfold argsOk
  rw [signature?_of (id := "set_iterator.__next__") (n := ['_', '_', 't', 'x', 'e', 'n', '_', '_']) (o := ['r', 'o', 't', 'a', 'r', 'e', 't', 'i', '_', 't', 'e', 's']) (by kernel_rfl) it_owner]
  kernel_rfl
theorem it_iter : Slot "set_iterator" "__iter__" "set_iterator.__iter__" :=
  .of (owner := "set_iterator") (n := "__iter__") (by rw [typeLookup_type, builtinLookup_eq_fast]; kernel_rfl) (by decide +kernel) (by decide +kernel)
    (by decide +kernel) (by first | exact .inl (by decide +kernel) | exact .inr (by decide +kernel))
    (by rw [isSubtype_type]; kernel_rfl)
theorem it_iter_entry : entryFor table "set_iterator.__iter__" = some Builtin.«dict_keyiterator.__iter__» :=
  entryFor_alias (id' := "dict_keyiterator.__iter__") (by kernel_rfl) rfl (by decide +kernel) (by kernel_rfl)
theorem it_iter_args (v : Value) : argsOk "set_iterator.__iter__" ⟨[v], []⟩ := by
  unfold argsOk
  rw [signature?_of (id := "set_iterator.__iter__") (n := ['_', '_', 'r', 'e', 't', 'i', '_', '_']) (o := ['r', 'o', 't', 'a', 'r', 'e', 't', 'i', '_', 't', 'e', 's']) (by kernel_rfl) it_owner]
  kernel_rfl
theorem set_iter_entry : entryFor table "set.__iter__" = some Builtin.«frozenset.__iter__» :=
  entryFor_alias (id' := "frozenset.__iter__") (by kernel_rfl) rfl (by decide +kernel) (by kernel_rfl)
def byText (w : World) : Bool := w.params.followText "set-order"
theorem erase_perm {α : Type} : ∀ {l : List α} {i : Nat} (hi : i < l.length), (l[i] :: l.eraseIdx i).Perm l
  | x :: l, 0, _ => List.Perm.refl _
  | x :: l, i + 1, hi => by
    have hi' : i < l.length := by simpa using hi
    have h := erase_perm hi'
    simp only [List.getElem_cons_succ, List.eraseIdx_cons_succ]
    exact (List.Perm.swap _ _ _).trans (h.cons x)
theorem pick_go {α : Type} (nx : Nat → Nat) : ∀ (fl k : Nat) (left : List α) (out : Array α), left.length ≤ fl → (pickOrder.go nx fl k left out).toList.Perm (out.toList ++ left) := by
  intro fl
  induction fl with
  | zero => intro k left out h; cases left with
    | nil => simp [pickOrder.go]
    | cons x l => simp at h
  | succ fl ih =>
    intro k left out h
    unfold pickOrder.go
    cases hl : left[nx k % left.length]? with
    | none =>
      have : left = [] := by
        cases left with
        | nil => rfl
        | cons x l => rw [List.getElem?_eq_getElem (Nat.mod_lt _ (by simp))] at hl; cases hl
      subst this; simp
    | some x =>
      obtain ⟨hi, hx⟩ := List.getElem?_eq_some_iff.mp hl
      have hp := erase_perm hi
      rw [hx] at hp
      refine (ih (k + 1) _ _ (by rw [List.length_eraseIdx]; split <;> lia)).trans ?_
      rw [Array.toList_push, List.append_assoc]
      exact hp.append_left out.toList
theorem pick_perm {α : Type} (nx : Nat → Nat) (xs : Array α) : (pickOrder nx xs).toList.Perm xs.toList := by
  have := pick_go nx xs.size 0 xs.toList #[] (by simp)
  simpa [pickOrder] using this
section
variable {prog : Program} {w : World} {A : Around} {E : Value → Shared → Prop} {s : Shared}
theorem wp_draw {src : Source} {n : Nat} {Q : Nat → Shared → Prop} (hn : n ≠ 0) (h : ∀ i d, i < n → Q i { s with drawn := d }) : wpAny (model prog w) A (choose src n) Q E s := fun Γ p hΓ => by
  show Sem.wp _ _ (Sem.choose src n Sem.pure) _ _ _ _
  rw [Sem.wp_choose]
  refine ⟨hn, ?_⟩
  rw [Sem.wp_pure]
  exact h _ _ (Nat.mod_lt _ (Nat.pos_of_ne_zero hn))
theorem wp_order {α : Type} : ∀ (n : Nat) (xs : List α) {s : Shared} {Q : List α → Shared → Prop}, xs.length = n → (∀ ys d, ys.Perm xs → Q ys { s with drawn := d }) → wpAny (model prog w) A (drawOrder n xs) Q E s := by
  intro n
  induction n with
  | zero =>
    intro xs s Q hl h
    have : xs = [] := by simpa using hl
    subst this
    unfold drawOrder
    exact wpAny_pure (h [] s.drawn (List.Perm.refl _))
  | succ n ih =>
    intro xs s Q hl h
    cases xs with
    | nil => simp at hl
    | cons x l =>
      unfold drawOrder
      refine wpAny_bind (wp_draw (by simp) fun i d hi => ?_)
      rw [List.getElem?_eq_getElem hi]
      dsimp only
      refine wpAny_bind (ih _ (by rw [List.length_eraseIdx, if_pos hi]; lia) fun ys d' hp => ?_)
      exact wpAny_pure (h _ d' ((hp.cons _).trans (erase_perm hi)))
end
end BgSet
end
section
namespace BgSet
open PySem
set_option maxRecDepth 100000
set_option maxHeartbeats 1000000
def ItAt (h : Heap) (I : Addr) (f : Value) (i : Nat) (a : Addr) (n ep : Nat) : Prop :=
  h.get? I = some { cls := .type "set_iterator", dict := none, data := .fields #[f, .int (i : Int) 0, .ref a, .int (n : Int) 0, .int (ep : Int) 0], slots := #[] }
theorem ItAt.type {s : Shared} {I a : Addr} {f : Value} {i n ep : Nat} (h : ItAt s.heap I f i a n ep) : s.TypeIs (.ref I) "set_iterator" := ⟨_, h, rfl⟩
structure SetAt (h : Heap) (a : Addr) (es : Array (Int × Value)) (ep : Nat) (t : SetTable) : Prop where
  at_ : ∃ o, h.get? a = some o ∧ o.cls = .type "set" ∧ o.data = .set es ep t
  fit : t.fits es.size = true
theorem SetAt.keep {h h' : Heap} {a : Addr} {es : Array (Int × Value)} {ep : Nat} {t : SetTable} (x : SetAt h a es ep t) (k : ∀ o, h.get? a = some o → h'.get? a = some o) : SetAt h' a es ep t := by
  obtain ⟨⟨o, ho, r⟩, f⟩ := x
  exact ⟨⟨o, k o ho, r⟩, f⟩
section
variable {prog : Program} {w : World} {A : Around} {E : Value → Shared → Prop} {s : Shared} {I a : Addr} {i n ep : Nat} {es : Array (Int × Value)} {t : SetTable}
theorem SetAt.state {Q : (Array (Int × Value) × Nat × SetTable) → Shared → Prop} (x : SetAt s.heap a es ep t) (h : Q (es, ep, t) s) : wpAny (model prog w) A (setState a) Q E s := by
  obtain ⟨⟨o, ho, -, hd⟩, f⟩ := x
  exact wpAny_setState_of ho hd f h
theorem SetAt.entries {Q : Array (Int × Value) → Shared → Prop} (x : SetAt s.heap a es ep t) (h : Q es s) : wpAny (model prog w) A (setEntries a) Q E s := by
  unfold setEntries
  exact wpAny_bind (x.state (wpAny_pure h))
theorem SetAt.epoch {Q : Nat → Shared → Prop} (x : SetAt s.heap a es ep t) (h : Q ep s) : wpAny (model prog w) A (setEpoch a) Q E s := by
  unfold setEpoch
  exact wpAny_bind (x.state (wpAny_pure h))
theorem by_text {Q : Bool → Shared → Prop} (h : Q (byText w) s) : wpAny (model prog w) A setsByText Q E s := by
  unfold setsByText
  exact wpAny_bind (wpAny_askSetting (wpAny_pure h))
theorem next_text {sl : Nat} {Q : Option (Value × Nat) → Shared → Prop} (hb : byText w = true) (x : SetAt s.heap a es ep t)
    (h : Q (((pickOrder (w.params.setOrder a ep) es)[i]?).map fun e => (e.2, sl)) s) : wpAny (model prog w) A (setNext a sl i ep) Q E s := by
  unfold setNext
  refine wpAny_bind (x.state ?_)
  dsimp only
  refine wpAny_bind (by_text ?_)
  rw [hb]
  simp only [bne_self_eq_false, Bool.false_eq_true, ↓reduceIte]
  refine wpAny_bind ?_
  unfold setWalk
  refine wpAny_bind (x.state ?_)
  dsimp only
  refine wpAny_bind (by_text ?_)
  rw [hb]
  simp only [↓reduceIte]
  exact wpAny_bind (wpAny_askSetting (wpAny_pure (wpAny_pure h)))
theorem next_place {sl : Nat} {Q : Option (Value × Nat) → Shared → Prop} (hb : byText w = false) (x : SetAt s.heap a es ep t) (hl : t.led = true) (hp : t.plain = true ∨ es.size ≤ 1)
    (h : Q (match es[SetTable.below t.place sl]?, t.place[SetTable.below t.place sl]? with | some (_, x), some j => some (x, j + 1) | _, _ => none) s) :
    wpAny (model prog w) A (setNext a sl i ep) Q E s := by
  unfold setNext
  refine wpAny_bind (x.state ?_)
  dsimp only
  refine wpAny_bind (by_text ?_)
  rw [hb]
  simp only [Bool.false_eq_true, ↓reduceIte]
  refine wpAny_ite_split (fun hd => ?_) (fun _ => ?_)
  · change (!t.plain && decide (es.size > 1)) = true at hd
    rcases hp with hp | hp
    · rw [hp] at hd; cases hd
    · rw [Bool.and_eq_true, decide_eq_true_eq] at hd; omega
  · refine wpAny_bind ?_
    show wpAny _ _ (if (!t.led && !es.isEmpty) = true then _ else _) _ _ _
    rw [hl]
    simp only [Bool.not_true, Bool.false_and, Bool.false_eq_true, ↓reduceIte]
    exact wpAny_pure (wpAny_pure h)
theorem itF_item {sl nx : Nat} {x : Value} {Q : Option Value → Shared → Prop} (hI : ItAt s.heap I (.int (sl : Int) 0) i a n ep) (S : SetAt s.heap a es ep t) (hn : es.size = n)
    (hx : ∀ {E' : Value → Shared → Prop} {Q' : Option (Value × Nat) → Shared → Prop}, Q' (some (x, nx)) s → wpAny (model prog w) A.in1 (setNext a sl i ep) Q' E' s)
    (hQ : ∀ h', ItAt h' I (.int (nx : Int) 0) (i + 1) a n ep → Heap.SameBut I s.heap h' → Q (some x) { s with heap := h' }) :
    wpAny (model prog w) A (pyNext (.ref I)) Q E s := by
  unfold pyNext
  refine wpAny_bind (wpAny_attempt (wpAny_callSpecial?_slot (name := Str.ofString "__next__") hI.type it_next (wpAny_call_entry it_next hI.type it_next_entry ?_ (it_next_args _))))
  unfold Builtin.«set_iterator.__next__»
  refine wpAny_bind (m := slotArgs _ _ _) (wpAny_pure ?_)
  refine wpAny_bind (wpAny_fieldsOf hI rfl ?_)
  dsimp only
  refine wpAny_bind (S.entries ?_)
  rw [hn]
  simp only [bne_self_eq_false, Bool.false_eq_true, ↓reduceIte, Int.toNat_natCast]
  refine wpAny_bind (hx ?_)
  dsimp only
  refine wpAny_bind (PySem.wpAny_setField_rec hI (by simp) fun h1 g1 sb1 => ?_)
  refine wpAny_bind (PySem.wpAny_setField_rec g1 (by simp) fun h2 g2 sb2 => ?_)
  refine wpAny_pure ⟨_, rfl, wpAny_pure (hQ h2 ?_ (sb1.trans sb2))⟩
  unfold ItAt
  rw [g2]
  simp [rawInt]
theorem it_stop {Q : Option Value → Shared → Prop} {h1 : Heap} (hh : A.handled = none) (sb : Heap.SameBut I s.heap h1)
    (hQ : ∀ h', Heap.ExtBut I s.heap h' → Q none { s with heap := h' }) :
    wpAny (model prog w) A.in1 (newExc (.type "StopIteration") [] >>= fun e => (raiseNew e : Sem Fin)) (fun fin s' => ∃ v, fin = .done (.ret v) ∧ wpAny (model prog w) A (pure (some v)) Q E s')
      (fun e s' => wpAny (model prog w) A (do if ← isInstance e (.type "StopIteration") then pure none else throw e) Q E s') { s with heap := h1 } := by
  refine wpAny_bind ?_
  simp only [newExc, newTuple]
  refine wpAny_bind (wpAny_newObj_type ?_ (by size_fits))
  refine wpAny_bind (m := firstArgMember _ _) (wpAny_of_eq (a := Value.none) (by first | rfl | (simp only [firstArgMember]; rfl)) ?_)
  refine wpAny_newObj_type ?_ (by size_fits)
  simp only [raiseNew]
  refine wpAny_bind (wpAny_handled ?_)
  rw [show A.in1.handled = none from hh]
  refine wpAny_bind (wpAny_pure (wpAny_throw ?_))
  refine wpAny_bind (wpAny_isInstance (T := "StopIteration") (b := true) ⟨_, Heap.get?_push_size _ rfl, rfl⟩ isSubtype_stop ?_)
  exact wpAny_pure (hQ _ ((sb.extBut.push _).push _))
theorem itF_done {sl : Nat} {Q : Option Value → Shared → Prop} (hh : A.handled = none) (hI : ItAt s.heap I (.int (sl : Int) 0) i a n ep) (S : SetAt s.heap a es ep t) (hn : es.size = n)
    (hx : ∀ {E' : Value → Shared → Prop} {Q' : Option (Value × Nat) → Shared → Prop}, Q' none s → wpAny (model prog w) A.in1 (setNext a sl i ep) Q' E' s)
    (hQ : ∀ h', Heap.ExtBut I s.heap h' → Q none { s with heap := h' }) :
    wpAny (model prog w) A (pyNext (.ref I)) Q E s := by
  unfold pyNext
  refine wpAny_bind (wpAny_attempt (wpAny_callSpecial?_slot (name := Str.ofString "__next__") hI.type it_next (wpAny_call_entry it_next hI.type it_next_entry ?_ (it_next_args _))))
  unfold Builtin.«set_iterator.__next__»
  refine wpAny_bind (m := slotArgs _ _ _) (wpAny_pure ?_)
  refine wpAny_bind (wpAny_fieldsOf hI rfl ?_)
  dsimp only
  refine wpAny_bind (S.entries ?_)
  rw [hn]
  simp only [bne_self_eq_false, Bool.false_eq_true, ↓reduceIte, Int.toNat_natCast]
  refine wpAny_bind (hx ?_)
  dsimp only
  refine wpAny_bind (PySem.wpAny_setField_rec hI (by simp) fun h1 g1 sb1 => ?_)
  exact it_stop hh sb1 hQ
theorem itD_item {T : Addr} {ord : List Nat} {q : Nat} {e : Int × Value} {Q : Option Value → Shared → Prop} (hI : ItAt s.heap I (.ref T) i a n ep) (S : SetAt s.heap a es ep t) (hn : es.size = n)
    (hT : ∃ o c, s.heap.get? T = some o ∧ o.data = .seq (ord.map fun (i : Nat) => rawInt i).toArray c) (hq : ord[i]? = some q) (he : es[q]? = some e)
    (hQ : ∀ h', ItAt h' I (.ref T) (i + 1) a n ep → Heap.SameBut I s.heap h' → Q (some e.2) { s with heap := h' }) :
    wpAny (model prog w) A (pyNext (.ref I)) Q E s := by
  obtain ⟨oT, c, hoT, hdT⟩ := hT
  unfold pyNext
  refine wpAny_bind (wpAny_attempt (wpAny_callSpecial?_slot (name := Str.ofString "__next__") hI.type it_next (wpAny_call_entry it_next hI.type it_next_entry ?_ (it_next_args _))))
  unfold Builtin.«set_iterator.__next__»
  refine wpAny_bind (m := slotArgs _ _ _) (wpAny_pure ?_)
  refine wpAny_bind (wpAny_fieldsOf hI rfl ?_)
  dsimp only
  refine wpAny_bind (S.entries ?_)
  rw [hn]
  simp only [bne_self_eq_false, Bool.false_eq_true, ↓reduceIte, Int.toNat_natCast]
  refine wpAny_bind (wpAny_seqItems hoT hdT ?_)
  have hg : (ord.map fun (i : Nat) => rawInt i).toArray[i]? = some (.int (q : Int) 0) := by
    rw [List.getElem?_toArray, List.getElem?_map, hq]; rfl
  dsimp only
  rw [hg]
  dsimp only
  simp only [Int.toNat_natCast]
  refine wpAny_bind ?_
  unfold setNextDrawn
  refine wpAny_bind (S.state ?_)
  dsimp only
  simp only [bne_self_eq_false, Bool.false_eq_true, ↓reduceIte]
  rw [he]
  dsimp only
  refine wpAny_pure ?_
  refine wpAny_bind (PySem.wpAny_setField_rec hI (by simp) fun h1 g1 sb1 => ?_)
  refine wpAny_pure ⟨_, rfl, wpAny_pure (hQ h1 ?_ sb1)⟩
  unfold ItAt
  rw [g1]
  simp [rawInt]
theorem itD_done {T : Addr} {ord : List Nat} {Q : Option Value → Shared → Prop} (hh : A.handled = none) (hI : ItAt s.heap I (.ref T) i a n ep) (S : SetAt s.heap a es ep t) (hn : es.size = n)
    (hT : ∃ o c, s.heap.get? T = some o ∧ o.data = .seq (ord.map fun (i : Nat) => rawInt i).toArray c) (hq : ord[i]? = none)
    (hQ : ∀ h', Heap.ExtBut I s.heap h' → Q none { s with heap := h' }) :
    wpAny (model prog w) A (pyNext (.ref I)) Q E s := by
  obtain ⟨oT, c, hoT, hdT⟩ := hT
  unfold pyNext
  refine wpAny_bind (wpAny_attempt (wpAny_callSpecial?_slot (name := Str.ofString "__next__") hI.type it_next (wpAny_call_entry it_next hI.type it_next_entry ?_ (it_next_args _))))
  unfold Builtin.«set_iterator.__next__»
  refine wpAny_bind (m := slotArgs _ _ _) (wpAny_pure ?_)
  refine wpAny_bind (wpAny_fieldsOf hI rfl ?_)
  dsimp only
  refine wpAny_bind (S.entries ?_)
  rw [hn]
  simp only [bne_self_eq_false, Bool.false_eq_true, ↓reduceIte, Int.toNat_natCast]
  refine wpAny_bind (wpAny_seqItems hoT hdT ?_)
  have hg : (ord.map fun (i : Nat) => rawInt i).toArray[i]? = none := by
    rw [List.getElem?_toArray, List.getElem?_map, hq]; rfl
  dsimp only
  rw [hg]
  dsimp only
  refine wpAny_bind (PySem.wpAny_setField_rec hI (by simp) fun h1 g1 sb1 => ?_)
  refine wpAny_bind (PySem.wpAny_setField_rec g1 (by simp) fun h2 g2 sb2 => ?_)
  exact it_stop (s := s) hh (sb1.trans sb2) hQ
theorem it_self {f : Value} {Q : Value → Shared → Prop} (hI : ItAt s.heap I f i a n ep) (h : Q (.ref I) s) : wpAny (model prog w) A (pyIter (.ref I)) Q E s := by
  refine wpAny_pyIter_slot hI.type it_iter (wpAny_call_entry it_iter hI.type it_iter_entry ?_ (it_iter_args _))
  show wpAny _ _ (ret (.ref I)) _ _ s
  exact wpAny_pure ⟨_, rfl, "set_iterator", _, hI.type, it_next.lookup, h⟩
theorem walk_text (hh : A.handled = none) (hb : byText w = true) (hne : a ≠ I) :
    Walks prog w A I [I, a] [I] es.size (fun i v => ∃ e, (pickOrder (w.params.setOrder a ep) es).toList[i]? = some e ∧ v = e.2) (fun i h => ItAt h I (.int ((0 : Nat) : Int) 0) i a es.size ep ∧ SetAt h a es ep t) where
  sub := fun b hb => by simp at hb; simp [hb]
  frame := fun i h h' st hk => ⟨hk I (by simp) _ st.1, st.2.keep fun o e => hk a (by simp) o e⟩
  item := fun i s Q E hi st hQ => by
    have hz := (pick_perm (w.params.setOrder a ep) es).length_eq
    have hg : (pickOrder (w.params.setOrder a ep) es).toList[i]? = some ((pickOrder (w.params.setOrder a ep) es).toList[i]'(by rw [hz, Array.length_toList]; exact hi)) := List.getElem?_eq_getElem _
    refine itF_item (x := ((pickOrder (w.params.setOrder a ep) es).toList[i]'(by rw [hz, Array.length_toList]; exact hi)).2) (nx := 0) st.1 st.2 rfl (fun hq => next_text hb st.2 ?_) fun h' hI' sb => ?_
    · rw [← Array.getElem?_toList, hg]; exact hq
    · exact hQ _ h' s.toks ⟨_, hg, rfl⟩ ⟨hI', st.2.keep fun o e => by rw [sb.2 a hne]; exact e⟩ fun b o hb e => by rw [sb.2 b (by simpa using hb)]; exact e
  done := fun s Q E st hQ => by
    have hz := (pick_perm (w.params.setOrder a ep) es).length_eq
    refine itF_done hh st.1 st.2 rfl (fun hq => next_text hb st.2 ?_) fun h' hx => ?_
    · rw [← Array.getElem?_toList, List.getElem?_eq_none (by rw [hz, Array.length_toList]; exact Nat.le_refl _)]; exact hq
    · exact hQ h' s.toks fun b o hb e => hx b o (by simpa using hb) e
  self := fun i s Q E st hQ => it_self st.1 hQ
theorem walk_place (hh : A.handled = none) (hb : byText w = false) (hne : a ≠ I) (hl : t.led = true) (hp : t.plain = true ∨ es.size ≤ 1) (hr : Ris t.place) (hz : t.place.size = es.size) :
    Walks prog w A I [I, a] [I] es.size (fun i v => ∃ e, es.toList[i]? = some e ∧ v = e.2) (fun i h => ∃ sl : Nat, ItAt h I (.int (sl : Int) 0) i a es.size ep ∧ SetAt h a es ep t ∧ SetTable.below t.place sl = i) where
  sub := fun b hb => by simp at hb; simp [hb]
  frame := fun i h h' ⟨sl, x1, x2, x3⟩ hk => ⟨sl, hk I (by simp) _ x1, x2.keep fun o e => hk a (by simp) o e, x3⟩
  item := fun i s Q E hi ⟨sl, x1, x2, x3⟩ hQ => by
    have g1 : es[i]? = some es[i] := Array.getElem?_eq_getElem hi
    have hi' : i < t.place.size := by rw [hz]; exact hi
    have g2 : t.place[i]? = some t.place[i] := Array.getElem?_eq_getElem hi'
    refine itF_item (x := es[i].2) (nx := t.place[i] + 1) x1 x2 rfl (fun hq => next_place hb x2 hl hp ?_) fun h' hI' sb => ?_
    · rw [x3, g1, g2]; exact hq
    · exact hQ _ h' s.toks ⟨_, by rw [Array.getElem?_toList]; exact g1, rfl⟩ ⟨_, hI', x2.keep fun o e => by rw [sb.2 a hne]; exact e, below_next hr g2⟩ fun b o hb e => by rw [sb.2 b (by simpa using hb)]; exact e
  done := fun s Q E ⟨sl, x1, x2, x3⟩ hQ => by
    refine itF_done hh x1 x2 rfl (fun hq => next_place hb x2 hl hp ?_) fun h' hx => ?_
    · rw [x3, Array.getElem?_eq_none (Nat.le_refl _)]; exact hq
    · exact hQ h' s.toks fun b o hb e => hx b o (by simpa using hb) e
  self := fun i s Q E ⟨sl, x1, x2, x3⟩ hQ => it_self x1 hQ
def along (es : Array (Int × Value)) (ord : List Nat) : List (Int × Value) := ord.map fun q => (es[q]?).getD (0, .none)
theorem along_perm {ord : List Nat} (hp : ord.Perm (List.range es.size)) : (along es ord).Perm es.toList := by
  refine (hp.map _).trans (List.Perm.of_eq ?_)
  refine List.ext_getElem? fun i => ?_
  rw [List.getElem?_map]
  rcases Nat.lt_or_ge i es.size with h | h
  · rw [List.getElem?_range h, Array.getElem?_toList, Array.getElem?_eq_getElem h]
    simp [h]
  · rw [List.getElem?_eq_none (by simpa using h), List.getElem?_eq_none (by simpa using h)]; rfl
theorem walk_drawn {T : Addr} {ord : List Nat} (hh : A.handled = none) (hne : a ≠ I) (hTI : T ≠ I) (hp : ord.Perm (List.range es.size)) :
    Walks prog w A I [I, a, T] [I] es.size (fun i v => ∃ e, (along es ord)[i]? = some e ∧ v = e.2)
      (fun i h => ItAt h I (.ref T) i a es.size ep ∧ SetAt h a es ep t ∧ ∃ o c, h.get? T = some o ∧ o.data = .seq (ord.map fun (i : Nat) => rawInt i).toArray c) where
  sub := fun b hb => by simp at hb; simp [hb]
  frame := fun i h h' ⟨x1, x2, o, c, x3, x4⟩ hk => ⟨hk I (by simp) _ x1, x2.keep fun o e => hk a (by simp) o e, o, c, hk T (by simp) _ x3, x4⟩
  item := fun i s Q E hi ⟨x1, x2, x3⟩ hQ => by
    have hlen : ord.length = es.size := by rw [hp.length_eq, List.length_range]
    have hi' : i < ord.length := by rw [hlen]; exact hi
    have hq : ord[i]? = some ord[i] := List.getElem?_eq_getElem hi'
    have hlt : ord[i] < es.size := by simpa using hp.mem_iff.mp (List.getElem_mem hi')
    have he : es[ord[i]]? = some es[ord[i]] := Array.getElem?_eq_getElem hlt
    have hg : (along es ord)[i]? = some es[ord[i]] := by unfold along; rw [List.getElem?_map, hq]; simp [he]
    refine itD_item x1 x2 rfl x3 hq he fun h' hI' sb => ?_
    obtain ⟨o, c, y1, y2⟩ := x3
    exact hQ _ h' s.toks ⟨_, hg, rfl⟩ ⟨hI', x2.keep fun o e => by rw [sb.2 a hne]; exact e, o, c, by rw [sb.2 T hTI]; exact y1, y2⟩ fun b o hb e => by rw [sb.2 b (by simpa using hb)]; exact e
  done := fun s Q E ⟨x1, x2, x3⟩ hQ => by
    have hlen : ord.length = es.size := by rw [hp.length_eq, List.length_range]
    refine itD_done hh x1 x2 rfl x3 (List.getElem?_eq_none (by omega)) fun h' hx => ?_
    exact hQ h' s.toks fun b o hb e => hx b o (by simpa using hb) e
  self := fun i s Q E ⟨x1, x2, x3⟩ hQ => it_self x1 hQ
theorem ris_few {ps : Array Nat} (h : ps.size ≤ 1) : Ris ps := by
  unfold Ris
  obtain ⟨l⟩ := ps
  match l, h with
  | [], _ => exact List.Pairwise.nil
  | [x], _ => exact List.pairwise_singleton _ _
theorem set_iter {Q : Value → Shared → Prop} (hh : A.handled = none) (S : SetAt s.heap a es ep t) (hT : Tab (!byText w) t) (hz : es.size ≤ sizeLine)
    (hQ : ∀ (I : Addr) (h' : Heap) d (fp : List Addr) (L : List (Int × Value)) (St : Nat → Heap → Prop), L.Perm es.toList → (∀ b o, s.heap.get? b = some o → h'.get? b = some o) →
      (∀ b ∈ fp, b = a ∨ s.heap.objs.size ≤ b) → s.heap.objs.size ≤ I → Walks prog w A I fp [I] es.size (fun i v => ∃ e, L[i]? = some e ∧ v = e.2) St → St 0 h' → Q (.ref I) { s with heap := h', drawn := d }) :
    wpAny (model prog w) A (pyIter (.ref a)) Q E s := by
  obtain ⟨⟨o, ho, hc, hd⟩, hf⟩ := id S
  have lt := Heap.lt_size ho
  have hps : t.place.size = es.size := by
    simp only [SetTable.fits, Bool.and_eq_true, beq_iff_eq] at hf; exact hf.1
  have hty : s.TypeIs (.ref a) "set" := ⟨o, ho, hc⟩
  refine wpAny_pyIter_slot hty F.slot_set_iter (wpAny_call_entry F.slot_set_iter hty set_iter_entry ?_ (F.args_set_iter_1 _))
  unfold Builtin.«frozenset.__iter__»
  refine wpAny_bind (m := Builtin.Frozenset.slot0 _ _) (wpAny_pure ?_)
  refine wpAny_bind ?_
  unfold Builtin.Frozenset.sizeOf
  refine wpAny_bind (S.entries (wpAny_pure ?_))
  refine wpAny_bind ?_
  unfold setDrawn
  refine wpAny_bind (S.state ?_)
  dsimp only
  refine wpAny_bind (by_text (wpAny_pure ?_))
  refine wpAny_ite_split (fun hdr => ?_) (fun hdr => ?_)
  · change (!byText w && (!t.plain && decide (es.size > 1))) = true at hdr
    refine wpAny_bind (wp_order _ _ (List.length_range) fun ys d hp => ?_)
    have hyl : ys.length = es.size := by rw [hp.length_eq, List.length_range]
    refine wpAny_bind (wpAny_newTuple ?_ (by rw [List.length_map, hyl]; exact hz))
    refine wpAny_bind (SetAt.epoch (es := es) (t := t) (ep := ep) (S.keep fun o e => Heap.get?_push_of_some _ e) ?_)
    refine wpAny_bind (wpAny_newObj_type (wpAny_pure ⟨_, rfl, "set_iterator", _, ⟨_, Heap.get?_push_size _ rfl, rfl⟩, it_next.lookup, ?_⟩))
    refine hQ _ _ d [_, a, s.heap.objs.size] (along es ys) _ (along_perm hp) (fun b o e => Heap.get?_push_of_some _ (Heap.get?_push_of_some _ e)) (fun b hb => ?_) ?_
      (walk_drawn (T := s.heap.objs.size) (ep := ep) (t := t) (by exact hh) ?_ ?_ hp) ⟨Heap.get?_push_size _ rfl, S.keep fun o e => Heap.get?_push_of_some _ (Heap.get?_push_of_some _ e), _, _, Heap.get?_push_of_some _ (Heap.get?_push_size _ rfl), rfl⟩
    · rw [Heap.size_push] at hb
      simp only [List.mem_cons, List.not_mem_nil, or_false] at hb
      rcases hb with rfl | rfl | rfl
      · exact .inr (by omega)
      · exact .inl rfl
      · exact .inr (Nat.le_refl _)
    · rw [Heap.size_push]; exact Nat.le_succ _
    · rw [Heap.size_push]; exact Nat.ne_of_lt (Nat.lt_succ_of_lt lt)
    · rw [Heap.size_push]; exact Nat.ne_of_lt (Nat.lt_succ_self _)
  · change ¬ ((!byText w && (!t.plain && decide (es.size > 1))) = true) at hdr
    refine wpAny_bind (wpAny_pure ?_)
    refine wpAny_bind (S.epoch ?_)
    refine wpAny_bind (wpAny_newObj_type (wpAny_pure ⟨_, rfl, "set_iterator", _, ⟨_, Heap.get?_push_size _ rfl, rfl⟩, it_next.lookup, ?_⟩))
    have hfp : ∀ b ∈ [s.heap.objs.size, a], b = a ∨ s.heap.objs.size ≤ b := fun b hb => by
      simp only [List.mem_cons, List.not_mem_nil, or_false] at hb
      rcases hb with rfl | rfl
      · exact .inr (Nat.le_refl _)
      · exact .inl rfl
    cases hbt : byText w with
    | true =>
      refine hQ _ _ s.drawn [_, a] _ _ (pick_perm (w.params.setOrder a ep) es) (fun b o e => Heap.get?_push_of_some _ e) hfp (Nat.le_refl _)
        (walk_text (t := t) hh hbt (Nat.ne_of_lt lt)) ⟨Heap.get?_push_size _ rfl, S.keep fun o e => Heap.get?_push_of_some _ e⟩
    | false =>
      rw [hbt] at hdr
      have hl : t.led = true := by rw [hT.led, hbt]; rfl
      have hpl : t.plain = true ∨ es.size ≤ 1 := by
        cases hq : t.plain with
        | true => exact .inl rfl
        | false => rw [hq] at hdr; simp at hdr; exact .inr (by omega)
      have hr : Ris t.place := by
        rcases hpl with h | h
        · exact hT.ris h
        · exact ris_few (by rw [hps]; exact h)
      refine hQ _ _ s.drawn [_, a] _ _ (List.Perm.refl _) (fun b o e => Heap.get?_push_of_some _ e) hfp (Nat.le_refl _)
        (walk_place (t := t) (ep := ep) hh hbt (Nat.ne_of_lt lt) hl hpl hr hps) ⟨0, Heap.get?_push_size _ rfl, S.keep fun o e => Heap.get?_push_of_some _ e, below_zero hr⟩
end
end BgSet
end
section
namespace BgSet
open PySem PyProof.Rows
set_option maxRecDepth 100000
set_option maxHeartbeats 3200000
section
variable {prog : Program} {w : World} {A : Around} {R : Result → Shared → Prop} {I : Addr} {fp wr : List Addr} {G : Array GenState → Array GenState → Prop} {n : Nat} {P : Nat → Value → Prop} {St : Nat → Shared → Prop}
variable {K : Type} [DecidableEq K] {kd : KeyKind prog w K}
def met (val : Nat → K) (i : Nat) (k : K) : Bool := decide (k ∈ (List.range i).map val)
theorem met_succ (val : Nat → K) (i : Nat) (k : K) : (met val i k || decide (k = val i)) = met val (i + 1) k := by
  unfold met
  rw [Bool.eq_iff_iff, Bool.or_eq_true, decide_eq_true_eq, decide_eq_true_eq, decide_eq_true_eq, List.range_succ, List.map_append, List.mem_append]
  simp
theorem set_loop (W : WalksS prog w A.in1 I fp wr G n P St) (S : Addr) (hSf : S ∉ fp) (val : Nat → K) (led np : Bool)
    (hval : ∀ i v, P i v → kd.is (val i) v = true ∧ v.scannable = true ∧ (np = true → plainKind v = false)) (hb : n + 1 < scanBound) :
    ∀ (k i m : Nat) (s : Shared), n - i = k → i ≤ n → m ≤ i → St i s → SetTb kd s.heap S (met val i) m led np →
      (∀ s' m', Moved (S :: wr) G s s' → m' ≤ n → SetTb kd s'.heap S (met val n) m' led np → R (.ok (.ret .none)) s') →
      codeAny (model prog w) A (.builtin "set.update.loop" ⟨[.ref S, .ref I], []⟩) R s := by
  have hSw : S ∉ wr := fun h => hSf (W.sub _ h)
  have more : ∀ b ∈ wr, b ∈ S :: wr := fun b hb => List.mem_cons_of_mem _ hb
  intro k
  induction k with
  | zero =>
    intro i m s hk hi hm st T hR
    cases (by lia : i = n)
    refine codeAny_builtin PyProof.Rows.F.entry_set_update_loop ?_
    rw [Around.under_plainId PyProof.Rows.F.plain_set_update_loop _]
    show wpAny _ A.in1 (pyNext (.ref I) >>= _) _ _ s
    refine wpAny_bind (W.done s _ _ st fun s' mv => ?_)
    show wpAny _ A.in1 (ret Value.none) _ _ s'
    exact wpAny_pure (hR s' m (mv.mono more) hm (T.keep fun o e => mv.heap S _ hSw e))
  | succ k ih =>
    intro i m s hk hi hm st T hR
    have lt : i < n := by lia
    refine codeAny_builtin PyProof.Rows.F.entry_set_update_loop ?_
    rw [Around.under_plainId PyProof.Rows.F.plain_set_update_loop _]
    show wpAny _ A.in1 (pyNext (.ref I) >>= _) _ _ s
    refine wpAny_bind (W.item i s _ _ lt st fun v s' hP st' mv => ?_)
    obtain ⟨h1, h2, h3⟩ := hval i v hP
    have T' := T.keep (h' := s'.heap) fun o e => mv.heap S _ hSw e
    show wpAny _ A.in1 (holding [v] (setAdd S v) >>= _) _ _ s'
    refine wpAny_bind (wpAny_holding ?_)
    unfold setAdd
    refine wpAny_holding ?_
    refine wpAny_bind (kd.pyHash (k := val i) h1 ?_)
    refine setAddT (s := { s' with toks := s'.toks + 1 }) h1 h2 h3 T' (by lia) fun h' sb T2 => ?_
    have hm2 : (if met val i (val i) = true then m else m + 1) ≤ i + 1 := by split <;> lia
    refine wpAny_pure ⟨plainId_quiet PyProof.Rows.F.plain_set_update_loop _, ih (i + 1) _ _ (by lia) lt hm2 (W.frame _ s' _ _ st' (Nat.le_succ _) fun b hb o e => ?_)
      (T2.congr (fun k' => met_succ val i k') rfl) fun s'' m' mv2 hm' T3 => ?_⟩
    · rw [sb.2 b (fun h : b = S => hSf (by rw [← h]; exact hb))]; exact e
    · refine hR s'' m' (Moved.trans W.gtrans ((mv.mono more).then_heap (Nat.le_succ _) fun b o hb e => ?_) mv2) hm' T3
      rw [sb.2 b (fun h : b = S => hb (by rw [h]; exact List.mem_cons_self))]; exact e
end
section
variable {prog : Program} {w : World} {A : Around} {E : Value → Shared → Prop} {s : Shared} {K : Type} [DecidableEq K] {kd : KeyKind prog w K}
def freshSet (w : World) : Obj := { cls := .type "set", dict := none, data := .set #[] 0 (.fresh 0 0 (!byText w)) }
theorem set_new (v : Value) {Q : Value → Shared → Prop} (h : Q (.ref s.heap.objs.size) { s with heap := s.heap.push (freshSet w) }) :
    codeAny (model prog w) A (.call (.builtin "set.__new__") ⟨[.type "set", v], []⟩) (wants Q E) s := by
  refine codeAny_of_tree ?_
  show wpAny _ A.in1 (checkBuiltinCall "set.__new__" ⟨[.type "set", v], []⟩ >>= fun _ => again (.builtin "set.__new__" ⟨[.type "set", v], []⟩)) _ _ s
  refine wpAny_bind (wpAny_of_eq (PySem.F.newCall_set_1 v) (wpAny_pure ⟨plainId_quiet PySem.F.plain_set_new _, codeAny_builtin PySem.F.entry_set_new ?_⟩))
  rw [Around.under_plainId PySem.F.plain_set_new _]
  unfold Builtin.«set.__new__» Builtin.Frozenset.newClass
  have hsub := sub_set_self
  obtain ⟨hp, g, d, tk, os⟩ := s
  dsimp only
  wp_walk
  refine wpAny_askSetting (wpAny_pure ?_)
  dsimp only
  simp only [newObj]
  refine wpAny_bind (wpAny_alloc (wpAny_pure ?_))
  exact wpAny_pure h
end
end BgSet
end
section
namespace BgSet
open PySem PyProof.Rows
set_option maxRecDepth 100000
set_option maxHeartbeats 3200000
section
variable {prog : Program} {w : World} {A : Around} {E : Value → Shared → Prop} {s : Shared} {K : Type} [DecidableEq K] [Inhabited K] {kd : KeyKind prog w K}
theorem set_of_list {l : Addr} {its : Array Value} (ks : List K) (np : Bool) {Q : Value → Shared → Prop} (hh : A.handled = none) (hl : s.heap.IsList l its) (hk : ks.length = its.size)
    (hv : ∀ (i : Nat) k v, ks[i]? = some k → its[i]? = some v → kd.is k v = true ∧ v.scannable = true ∧ (np = true → plainKind v = false)) (hb : its.size + 1 < scanBound)
    (hQ : ∀ (h' : Heap) (tk m : Nat), m ≤ its.size → SetTb kd h' s.heap.objs.size (fun k => decide (k ∈ ks)) m (!byText w) np →
      (∀ b o, b < s.heap.objs.size → s.heap.get? b = some o → h'.get? b = some o) → Q (.ref s.heap.objs.size) { s with heap := h', toks := tk }) :
    wpAny (model prog w) A (call (.type "set") [.ref l]) Q E s := by
  obtain ⟨c, tl, mro⟩ := PySem.F.called_set.mro
  have made := PySem.F.called_set.made
  have sub0 := PySem.F.called_set.sub
  refine wpAny_call (codeAny_of_tree ?_)
  show wpAny _ _ (callAny (.type "set") _) _ _ _
  refine wpAny_pure ⟨Code.quiet_builtin _ (by decide +kernel), codeAny_builtin PySem.F.entry_type_call ?_⟩
  rw [Around.under_plain (weight_type_call_type "set" [.ref l] []) rfl]
  have f1 := PySem.F.called_set.notType
  have f2 := PySem.F.called_set.canCreate
  have f3 := PySem.F.typeCall_set_1 (.ref l)
  repeat (any_goals (first | assumption | wp_step))
  refine codeAny_mono (set_new (.ref l) (E := E) (Q := fun v s1 => v = .ref s.heap.objs.size ∧ s1 = { s with heap := s.heap.push (freshSet w) }) ⟨rfl, rfl⟩) fun r s1 hr => ?_
  cases r with
  | error e => exact hr
  | ok fl =>
    cases fl with
    | ret v =>
      obtain ⟨rfl, rfl⟩ := hr
      have gS : (s.heap.push (freshSet w)).get? s.heap.objs.size = some (freshSet w) := Heap.get?_push_size _ rfl
      have tS : Shared.TypeIs { s with heap := s.heap.push (freshSet w) } (.ref s.heap.objs.size) "set" := ⟨_, gS, rfl⟩
      have li := PySem.F.called_set.init.lookup
      have bi := PySem.F.called_set.init.bind (.ref s.heap.objs.size)
      repeat (any_goals (first | assumption | wp_step))
      refine codeAny_mono (codeAny_call_builtin (R := wants (fun r s2 => r = .none ∧ ∃ h' tk m, s2 = { s with heap := h', toks := tk } ∧ m ≤ its.size ∧
          SetTb kd h' s.heap.objs.size (fun k => decide (k ∈ ks)) m (!byText w) np ∧ (∀ b o, b < s.heap.objs.size → s.heap.get? b = some o → h'.get? b = some o)) E)
          PySem.F.called_set.init.plain PySem.F.entry_set_init (check_set_init_1 tS ?_)) fun r2 s2 hr2 => ?_
      · obtain ⟨ol, gl, hcl, nl, hdl⟩ := hl
        obtain ⟨ocls, odict, odata, oslots⟩ := ol
        simp only at hcl hdl
        subst hcl; subst hdl
        have gl2 : (s.heap.push (freshSet w)).get? l = some { cls := .type "list", dict := odict, data := .seq its nl, slots := oslots } := Heap.get?_push_of_some _ gl
        have u1 := PySem.F.sub_list_set
        have u2 := PySem.F.sub_list_frozenset
        have u3 : (Value.type "list" == Value.type "dict") = false := by decide
        have hl1 : (s.heap.push (freshSet w)).IsList l its := ⟨_, gl2, rfl, nl, rfl⟩
        unfold Builtin.«set.__init__» noKeywords Builtin.Frozenset.updateFrom
        generalize hPI : pyIter = PI
        wp_walk
        subst hPI
        refine wpAny_pyIter_list hl1 ?_
        refine wpAny_bind (wpAny_runValue ?_)
        have lt : l < s.heap.objs.size := Heap.lt_size gl
        have hh3 : A.in1.in1.in1.handled = none := by simp [hh]
        have ne : l ≠ (s.heap.push (freshSet w)).objs.size := by
          rw [Heap.size_push]; exact Nat.ne_of_lt (Nat.lt_succ_of_lt lt)
        have nf : s.heap.objs.size ∉ [(s.heap.push (freshSet w)).objs.size, l] := by
          rw [Heap.size_push]
          simp only [List.mem_cons, List.not_mem_nil, or_false, not_or]
          exact ⟨Nat.ne_of_lt (Nat.lt_succ_self _), Nat.ne_of_gt lt⟩
        have hval : ∀ (i : Nat) (v : Value), its[i]? = some v → kd.is (ks.getD i default) v = true ∧ v.scannable = true ∧ (np = true → plainKind v = false) := fun i v hi => by
          have hlt : i < ks.length := by rw [hk]; exact (Array.getElem?_eq_some_iff.mp hi).1
          refine hv i _ v ?_ hi
          rw [List.getD_eq_getElem?_getD, List.getElem?_eq_getElem hlt]; rfl
        refine set_loop ((Walks.list hh3 _ l ne its).toS) s.heap.objs.size nf (fun i => ks.getD i default) (!byText w) np hval hb (its.size - 0) 0 0 _ (by lia) (Nat.zero_le _) (Nat.le_refl _)
          ⟨⟨_, Heap.get?_push_size _ rfl, rfl, rfl⟩, (hl1.push _)⟩ (SetTb.congr (SetTb.fresh (x := 0) (y := 0) (Heap.get?_push_of_some _ gS)) (fun k => rfl) rfl) fun s' m mv hm T => ?_
        obtain ⟨h', g', d', tk', os'⟩ := s'
        have eg : g' = s.gens := mv.gens
        have ed : d' = s.drawn := mv.drawn
        have eo : os' = s.os := mv.os
        subst eg; subst ed; subst eo
        show wpAny _ _ _ _ _ _
        refine wpAny_pure ?_
        show wpAny _ _ (ret Value.none) _ _ _
        refine wpAny_pure ⟨rfl, h', tk', m, rfl, hm, T.congr (fun k => ?_) rfl, fun b o hb e => ?_⟩
        · unfold met
          rw [Bool.eq_iff_iff, decide_eq_true_eq, decide_eq_true_eq]
          have : (List.range its.size).map (fun i => ks.getD i default) = ks := by
            refine List.ext_getElem? fun i => ?_
            rw [List.getElem?_map]
            rcases Nat.lt_or_ge i its.size with h | h
            · rw [List.getElem?_range h, List.getElem?_eq_getElem (by rw [hk]; exact h)]
              simp [List.getD_eq_getElem?_getD, hk, h]
            · rw [List.getElem?_eq_none (by simpa using h), List.getElem?_eq_none (by rw [hk]; exact h)]; rfl
          rw [this]
        · have n1 : b ≠ s.heap.objs.size := Nat.ne_of_lt hb
          have n2 : b ≠ (s.heap.push (freshSet w)).objs.size := by
            rw [Heap.size_push]; exact Nat.ne_of_lt (Nat.lt_succ_of_lt hb)
          refine mv.heap b o ?_ (Heap.get?_push_of_some _ (Heap.get?_push_of_some _ e))
          simp only [List.mem_cons, List.not_mem_nil, or_false, not_or]
          exact ⟨n1, n2⟩
      · cases r2 with
        | error e => exact hr2
        | ok fl2 =>
          cases fl2 with
          | ret r =>
            obtain ⟨rfl, h', tk, m, rfl, hm, T, kp⟩ := hr2
            repeat (any_goals (first | assumption | wp_step))
            exact hQ _ _ m hm T kp
          | _ => exact hr2.elim
    | _ => exact hr.elim
theorem set_of_tuple {l : Addr} {its : Array Value} (ks : List K) (np : Bool) {Q : Value → Shared → Prop} (hh : A.handled = none) (hl : s.heap.IsTuple l its) (hk : ks.length = its.size)
    (hv : ∀ (i : Nat) k v, ks[i]? = some k → its[i]? = some v → kd.is k v = true ∧ v.scannable = true ∧ (np = true → plainKind v = false)) (hb : its.size + 1 < scanBound)
    (hQ : ∀ (h' : Heap) (tk m : Nat), m ≤ its.size → SetTb kd h' s.heap.objs.size (fun k => decide (k ∈ ks)) m (!byText w) np →
      (∀ b o, b < s.heap.objs.size → s.heap.get? b = some o → h'.get? b = some o) → Q (.ref s.heap.objs.size) { s with heap := h', toks := tk }) :
    wpAny (model prog w) A (call (.type "set") [.ref l]) Q E s := by
  obtain ⟨c, tl, mro⟩ := PySem.F.called_set.mro
  have made := PySem.F.called_set.made
  have sub0 := PySem.F.called_set.sub
  refine wpAny_call (codeAny_of_tree ?_)
  show wpAny _ _ (callAny (.type "set") _) _ _ _
  refine wpAny_pure ⟨Code.quiet_builtin _ (by decide +kernel), codeAny_builtin PySem.F.entry_type_call ?_⟩
  rw [Around.under_plain (weight_type_call_type "set" [.ref l] []) rfl]
  have f1 := PySem.F.called_set.notType
  have f2 := PySem.F.called_set.canCreate
  have f3 := PySem.F.typeCall_set_1 (.ref l)
  repeat (any_goals (first | assumption | wp_step))
  refine codeAny_mono (set_new (.ref l) (E := E) (Q := fun v s1 => v = .ref s.heap.objs.size ∧ s1 = { s with heap := s.heap.push (freshSet w) }) ⟨rfl, rfl⟩) fun r s1 hr => ?_
  cases r with
  | error e => exact hr
  | ok fl =>
    cases fl with
    | ret v =>
      obtain ⟨rfl, rfl⟩ := hr
      have gS : (s.heap.push (freshSet w)).get? s.heap.objs.size = some (freshSet w) := Heap.get?_push_size _ rfl
      have tS : Shared.TypeIs { s with heap := s.heap.push (freshSet w) } (.ref s.heap.objs.size) "set" := ⟨_, gS, rfl⟩
      have li := PySem.F.called_set.init.lookup
      have bi := PySem.F.called_set.init.bind (.ref s.heap.objs.size)
      repeat (any_goals (first | assumption | wp_step))
      refine codeAny_mono (codeAny_call_builtin (R := wants (fun r s2 => r = .none ∧ ∃ h' tk m, s2 = { s with heap := h', toks := tk } ∧ m ≤ its.size ∧
          SetTb kd h' s.heap.objs.size (fun k => decide (k ∈ ks)) m (!byText w) np ∧ (∀ b o, b < s.heap.objs.size → s.heap.get? b = some o → h'.get? b = some o)) E)
          PySem.F.called_set.init.plain PySem.F.entry_set_init (check_set_init_1 tS ?_)) fun r2 s2 hr2 => ?_
      · obtain ⟨ol, gl, hcl, nl, hdl⟩ := hl
        obtain ⟨ocls, odict, odata, oslots⟩ := ol
        simp only at hcl hdl
        subst hcl; subst hdl
        have gl2 : (s.heap.push (freshSet w)).get? l = some { cls := .type "tuple", dict := odict, data := .seq its nl, slots := oslots } := Heap.get?_push_of_some _ gl
        have u1 := PySem.F.sub_tuple_set
        have u2 := PySem.F.sub_tuple_frozenset
        have u3 : (Value.type "tuple" == Value.type "dict") = false := by decide
        have hl1 : (s.heap.push (freshSet w)).IsTuple l its := ⟨_, gl2, rfl, nl, rfl⟩
        unfold Builtin.«set.__init__» noKeywords Builtin.Frozenset.updateFrom
        generalize hPI : pyIter = PI
        wp_walk
        subst hPI
        refine wpAny_pyIter_tuple hl1 ?_
        refine wpAny_bind (wpAny_runValue ?_)
        have lt : l < s.heap.objs.size := Heap.lt_size gl
        have hh3 : A.in1.in1.in1.handled = none := by simp [hh]
        have ne : l ≠ (s.heap.push (freshSet w)).objs.size := by
          rw [Heap.size_push]; exact Nat.ne_of_lt (Nat.lt_succ_of_lt lt)
        have nf : s.heap.objs.size ∉ [(s.heap.push (freshSet w)).objs.size, l] := by
          rw [Heap.size_push]
          simp only [List.mem_cons, List.not_mem_nil, or_false, not_or]
          exact ⟨Nat.ne_of_lt (Nat.lt_succ_self _), Nat.ne_of_gt lt⟩
        have hval : ∀ (i : Nat) (v : Value), its[i]? = some v → kd.is (ks.getD i default) v = true ∧ v.scannable = true ∧ (np = true → plainKind v = false) := fun i v hi => by
          have hlt : i < ks.length := by rw [hk]; exact (Array.getElem?_eq_some_iff.mp hi).1
          refine hv i _ v ?_ hi
          rw [List.getD_eq_getElem?_getD, List.getElem?_eq_getElem hlt]; rfl
        refine set_loop ((Walks.tuple hh3 _ l ne its).toS) s.heap.objs.size nf (fun i => ks.getD i default) (!byText w) np hval hb (its.size - 0) 0 0 _ (by lia) (Nat.zero_le _) (Nat.le_refl _)
          ⟨⟨_, Heap.get?_push_size _ rfl, rfl, rfl⟩, (hl1.push _)⟩ (SetTb.congr (SetTb.fresh (x := 0) (y := 0) (Heap.get?_push_of_some _ gS)) (fun k => rfl) rfl) fun s' m mv hm T => ?_
        obtain ⟨h', g', d', tk', os'⟩ := s'
        have eg : g' = s.gens := mv.gens
        have ed : d' = s.drawn := mv.drawn
        have eo : os' = s.os := mv.os
        subst eg; subst ed; subst eo
        show wpAny _ _ _ _ _ _
        refine wpAny_pure ?_
        show wpAny _ _ (ret Value.none) _ _ _
        refine wpAny_pure ⟨rfl, h', tk', m, rfl, hm, T.congr (fun k => ?_) rfl, fun b o hb e => ?_⟩
        · unfold met
          rw [Bool.eq_iff_iff, decide_eq_true_eq, decide_eq_true_eq]
          have : (List.range its.size).map (fun i => ks.getD i default) = ks := by
            refine List.ext_getElem? fun i => ?_
            rw [List.getElem?_map]
            rcases Nat.lt_or_ge i its.size with h | h
            · rw [List.getElem?_range h, List.getElem?_eq_getElem (by rw [hk]; exact h)]
              simp [List.getD_eq_getElem?_getD, hk, h]
            · rw [List.getElem?_eq_none (by simpa using h), List.getElem?_eq_none (by rw [hk]; exact h)]; rfl
          rw [this]
        · have n1 : b ≠ s.heap.objs.size := Nat.ne_of_lt hb
          have n2 : b ≠ (s.heap.push (freshSet w)).objs.size := by
            rw [Heap.size_push]; exact Nat.ne_of_lt (Nat.lt_succ_of_lt hb)
          refine mv.heap b o ?_ (Heap.get?_push_of_some _ (Heap.get?_push_of_some _ e))
          simp only [List.mem_cons, List.not_mem_nil, or_false, not_or]
          exact ⟨n1, n2⟩
      · cases r2 with
        | error e => exact hr2
        | ok fl2 =>
          cases fl2 with
          | ret r =>
            obtain ⟨rfl, h', tk, m, rfl, hm, T, kp⟩ := hr2
            repeat (any_goals (first | assumption | wp_step))
            exact hQ _ _ m hm T kp
          | _ => exact hr2.elim
    | _ => exact hr.elim
end
end BgSet
end
section
namespace BgSet
open PySem PyProof.Rows
set_option maxRecDepth 100000
set_option maxHeartbeats 3200000
section
variable {prog : Program} {w : World} {A : Around} {E : Value → Shared → Prop} {s : Shared} {a : Addr} {es : Array (Int × Value)} {ep : Nat} {t : SetTable}
theorem set_hint {Q : Bool → Shared → Prop} (ht : s.TypeIs (.ref a) "set") (h : Q false s) : wpAny (model prog w) A (Builtin.List.listLengthHint (.ref a)) Q E s := by
  unfold Builtin.List.listLengthHint
  refine wpAny_bind (wpAny_specialOf ht PySem.F.slot_set_len.lookup ?_)
  generalize hid : ("set.__len__" : String) = nm
  wp_delta
  rw [show splitId nm = some ("set", "__len__") from by subst hid; decide +kernel]
  subst hid
  refine wpAny_bind (wpAny_isInstance (T := "set") (b := true) ht (by rw [isSubtype_type]; kernel_rfl) ?_)
  refine wpAny_ite_split (fun c => absurd c (by decide)) (fun _ => ?_)
  refine wpAny_ite_split (fun _ => ?_) (fun c => absurd (by decide +kernel) c)
  exact wpAny_bind (wpAny_typeOf ht (wpAny_pure h))
def Came (s : Shared) (S : Addr) (es : Array (Int × Value)) (s' : Shared) : Prop :=
  ∃ (h' : Heap) (d : Drawn) (tk : Nat) (L : List (Int × Value)) (c : Nat), s' = { s with heap := h', drawn := d, toks := tk } ∧ L.Perm es.toList ∧ (∀ b o, b ≠ S → s.heap.get? b = some o → h'.get? b = some o) ∧
    h'.get? S = some { cls := .type "list", dict := none, data := .seq (L.map (·.2)).toArray c, slots := #[] }
theorem items_along {L : List (Int × Value)} {acc : Array Value} (h : ItemsOf (fun i v => ∃ e, L[i]? = some e ∧ v = e.2) acc L.length) : acc = (L.map (·.2)).toArray := by
  apply Array.toList_inj.mp
  rw [List.toList_toArray]
  refine List.ext_getElem? fun i => ?_
  rw [Array.getElem?_toList, List.getElem?_map]
  rcases Nat.lt_or_ge i acc.size with hi | hi
  · obtain ⟨e, he, hv⟩ := h.2 i _ (Array.getElem?_eq_getElem hi)
    rw [Array.getElem?_eq_getElem hi, he, hv]; rfl
  · rw [Array.getElem?_eq_none hi, List.getElem?_eq_none (by rw [← h.1]; exact hi)]; rfl
theorem set_extend (hh : A.handled = none) (X : SetAt s.heap a es ep t) (hT : Tab (!byText w) t) (hz : es.size ≤ sizeLine) (S : Addr) (hne : S ≠ a) (res : Value) (c0 : Nat)
    (gS : s.heap.get? S = some { cls := .type "list", data := .seq #[] c0 }) {R : Result → Shared → Prop} (hR : ∀ s', Came s S es s' → R (.ok (.ret res)) s') :
    wpAny (model prog w) A.in1 (Builtin.List.listExtendWith (.ref S) (.ref a) res)
      (fun fin s' => match fin with | .done f => R (.ok f) s' | .again c' => c'.quiet = true ∧ codeAny (model prog w) A c' R s') (fun e s' => R (.error e) s') s := by
  have ltS := Heap.lt_size gS
  obtain ⟨o, ho, hc, hd⟩ := X.at_
  have lta := Heap.lt_size ho
  unfold Builtin.List.listExtendWith
  refine wpAny_bind (wpAny_typeOf (T := "set") ⟨o, ho, hc⟩ ?_)
  have h1 : Builtin.List.listSameRef (.ref S) (.ref a) = false := by simp [Builtin.List.listSameRef, hne]
  have h2 : (Value.type "set" == Value.type "list") = false := by decide
  have h3 : (Value.type "set" == Value.type "tuple") = false := by decide
  simp only [h1, h2, h3, Bool.or_false, Bool.false_eq_true, if_false]
  refine wpAny_bind (set_iter (A := A.in1) hh X hT hz fun I h' d fp L St hp kp hfp hI W st => ?_)
  have hSf : S ∉ fp := fun hm => (hfp S hm).elim hne fun e => absurd ltS (Nat.not_lt.mpr e)
  have hlen : L.length = es.size := by rw [hp.length_eq, Array.length_toList]
  have key : ∀ (h : Heap) (c1 : Nat), St 0 h → (∀ b o, b ≠ S → s.heap.get? b = some o → h.get? b = some o) →
      h.get? S = some { cls := .type "list", data := .seq #[] c1 } → codeAny (model prog w) A (.builtin "list.extend.loop" ⟨[.ref S, .ref I, res], []⟩) R { s with heap := h, drawn := d } := by
    intro h c1 st1 k1 g1
    refine codeAny_extend_loopS W.toS hz S hSf res es.size 0 _ #[] c1 rfl (Nat.zero_le _) st1 g1 (ItemsOf.nil _) fun s' acc' c' mv g' hacc => ?_
    refine hR s' ⟨s'.heap, d, s'.toks, L, c', by rw [Moved.eq_with mv], hp, fun b o hb e => mv.heap b o (fun hm => ?_) (k1 b o hb e), ?_⟩
    · rcases List.mem_cons.mp hm with e' | hm
      · exact hb e'
      · have := Heap.lt_size e; rw [List.mem_singleton.mp hm] at this; exact absurd this (Nat.not_lt.mpr hI)
    · rw [← items_along (by rw [hlen]; exact hacc)]; exact g'
  have gS' := kp S _ gS
  refine wpAny_bind (wpAny_holding (set_hint ⟨o, kp a o ho, hc⟩ ?_))
  refine wpAny_ite_split (fun _ => ?_) (fun _ => wpAny_pure ⟨plainId_quiet PySem.F.plain_extend_loop _, key _ c0 st (fun b o _ e => kp b o e) gS'⟩)
  refine wpAny_bind (wpAny_rule ?_)
  refine wpAny_bind ?_
  show wpAny _ _ (updateSeq S (·.push .none) >>= fun _ => updateSeq S (·.pop)) _ _ _
  refine wpAny_bind (wpAny_updateSeq gS' rfl ?_)
  have g2 := Heap.get?_update_self (Obj.mapSeq (·.push Value.none)) gS' rfl
  refine wpAny_updateSeq (hz := by seq_fits) g2 rfl ?_
  have g3 := Heap.get?_update_self (Obj.mapSeq (·.pop)) g2 rfl
  refine wpAny_pure ⟨plainId_quiet PySem.F.plain_extend_loop _, key _ _ (W.frame 0 _ _ st fun b hb o e => ?_) (fun b o hb e => ?_) g3⟩
  · have n : b ≠ S := fun h => hSf (h ▸ hb)
    exact (Heap.get?_update_other _ _ (Ne.symm n)).trans ((Heap.get?_update_other _ _ (Ne.symm n)).trans e)
  · exact (Heap.get?_update_other _ _ (Ne.symm hb)).trans ((Heap.get?_update_other _ _ (Ne.symm hb)).trans (kp b o e))
theorem set_collect (hh : A.handled = none) (X : SetAt s.heap a es ep t) (hT : Tab (!byText w) t) (hz : es.size ≤ sizeLine) {R : List Value → Shared → Prop}
    (hR : ∀ (h' : Heap) (d : Drawn) (tk : Nat) (L : List (Int × Value)), L.Perm es.toList → (∀ b o, s.heap.get? b = some o → h'.get? b = some o) → R (L.map (·.2)) { s with heap := h', drawn := d, toks := tk }) :
    wpAny (model prog w) A (collect (.ref a)) R E s := by
  obtain ⟨o, ho, hc, hd⟩ := X.at_
  have lta := Heap.lt_size ho
  unfold collect
  refine wpAny_bind (wpAny_runValue (codeAny_builtin entry_proto_collect' ?_))
  rw [Around.under_plainId PySem.F.plain_proto_collect _]
  show wpAny _ A.in1 (newList [] >>= fun l => again (.builtin "list.__iadd__" ⟨[l, .ref a], []⟩)) _ _ s
  refine wpAny_bind (wpAny_newObj_type ?_)
  refine wpAny_pure ⟨plainId_quiet PySem.F.plain_list_iadd _, codeAny_builtin entry_list_iadd' ?_⟩
  rw [Around.under_plainId PySem.F.plain_list_iadd _]
  show wpAny _ A.in1 (Builtin.List.listExtendWith (.ref s.heap.objs.size) (.ref a) (.ref s.heap.objs.size)) _ _ _
  have g1 : (s.heap.push { cls := .type "list", data := .seq ([] : List Value).toArray }).get? s.heap.objs.size = some { cls := .type "list", data := .seq #[] } := Heap.get?_push_size _ rfl
  have go := set_extend (prog := prog) (w := w) (A := A) (s := { s with heap := s.heap.push { cls := .type "list", data := .seq ([] : List Value).toArray } }) hh (X.keep fun o e => Heap.get?_push_of_some _ e) hT hz s.heap.objs.size
    (Nat.ne_of_gt lta) (.ref s.heap.objs.size) 0 g1 (R := fun q s' => q = .ok (.ret (.ref s.heap.objs.size)) ∧ ∃ (h' : Heap) (d : Drawn) (tk : Nat) (L : List (Int × Value)) (c : Nat),
      s' = { s with heap := h', drawn := d, toks := tk } ∧ L.Perm es.toList ∧ (∀ b o, s.heap.get? b = some o → h'.get? b = some o) ∧
      h'.get? s.heap.objs.size = some { cls := .type "list", dict := none, data := .seq (L.map (·.2)).toArray c, slots := #[] }) (fun s' ⟨h', d, tk, L, c, e, hp, kp, g⟩ =>
        ⟨rfl, h', d, tk, L, c, e, hp, fun b o e => kp b o (Nat.ne_of_lt (Heap.lt_size e)) (Heap.get?_push_of_some _ e), g⟩)
  refine wpAny_mono go (fun fin s' x => ?_) fun e s' x => ?_
  · cases fin with
    | done f =>
      obtain ⟨e, h', d, tk, L, c, rfl, hp, kp, g⟩ := x
      cases e
      show wpAny _ A (load s.heap.objs.size >>= _) _ _ _
      refine wpAny_bind (wpAny_load g ?_)
      refine wpAny_pure ?_
      have := hR h' d tk L hp kp
      simpa using this
    | again c1 =>
      refine ⟨x.1, codeAny_mono x.2 fun q s2 y => ?_⟩
      obtain ⟨rfl, h', d, tk, L, c, rfl, hp, kp, g⟩ := y
      show wpAny _ A (load s.heap.objs.size >>= _) _ _ _
      refine wpAny_bind (wpAny_load g ?_)
      refine wpAny_pure ?_
      have := hR h' d tk L hp kp
      simpa using this
  · cases x.1
end
end BgSet
end
section
set_option Elab.async false
set_option linter.all false
set_option maxRecDepth 100000
set_option maxHeartbeats 4000000
namespace L2
open PySem PySem.Spec PyProof.Rows
def SqB (K : PySem.W.Frag) (tp : Bool) (H : Hp) (a : Addr) (xs : List V) : Prop := match tp with
  | true => SqT K H a xs
  | false => SqL K H a xs
theorem Inv.seqB {X : Cx} {pins : List (Addr × Obj)} {σ : St} {H : Hp} {s : Shared} {tp : Bool} {a : Addr} {xs : List V} (I : Inv X pins σ H s) (h : SqB X.K tp H a xs) : ∃ its : List Value, Vals xs its ∧ SqAtH tp s.heap a its.toArray := by
  cases tp with
  | true => obtain ⟨its, r, p, _⟩ := I.tuple h; exact ⟨its, r, p⟩
  | false => obtain ⟨its, r, p, _⟩ := I.list h; exact ⟨its, r, p.isList⟩
section
variable {X : Cx} {elts : List Expr} {k : Nat} {tpos : Pos}
end
end L2
end
section
set_option Elab.async false
set_option linter.all false
set_option maxRecDepth 100000
set_option maxHeartbeats 4000000
namespace PySem.SeqAt
open AutoSeq1 (wpAny_loadPart')
open MeetsSeq MeetsSeq2 MeetsSeq3 SeqRoads2
end PySem.SeqAt
namespace L2
open PySem PySem.Spec PyProof.Rows
section
variable {X : Cx} {o e : Expr} {es : List Expr} {to ta tb : TE} {t : TA} {apos cpos : Pos}
end
section
variable {X : Cx} {C : Addr} {m x : Str} {ps : List Str} {k : Nat} {sp : Sp} {e : Expr} {es : List Expr} {t : TA} {p pos apos : Pos}
end
end L2
end
section
set_option Elab.async false
set_option linter.all false
set_option maxRecDepth 100000
set_option maxHeartbeats 4000000
namespace L2
open PySem PySem.Spec PyProof.Rows
theorem len_in {α : Type} [DecidableEq α] {l : List α} : ∀ {zs : List α}, l.Nodup → (∀ y ∈ l, y ∈ zs) → l.length ≤ zs.length := by
  induction l with
  | nil => intro zs _ _; exact Nat.zero_le _
  | cons a r ih =>
    intro zs nd h
    obtain ⟨na, nr⟩ := List.nodup_cons.mp nd
    have ha : a ∈ zs := h a List.mem_cons_self
    have := ih (zs := zs.erase a) nr fun y hy => (List.mem_erase_of_ne (fun z => na (by rw [← z]; exact hy))).mpr (h y (List.mem_cons_of_mem _ hy))
    rw [List.length_erase_of_mem ha] at this
    have : 0 < zs.length := List.length_pos_of_mem ha
    simp only [List.length_cons]
    lia
section
variable {X : Cx}
theorem Inv.drawn {pins : List (Addr × Obj)} {σ : St} {H : Hp} {s : Shared} {d : Drawn} (I : Inv X pins σ H s) : Inv X pins σ H { s with drawn := d } :=
  ⟨I.ok, I.os, I.bare, I.base, I.loc, I.cell, I.free, I.freeC, I.pin, I.hok, I.len⟩
end
end L2
end
section
set_option Elab.async false
set_option linter.all false
set_option maxRecDepth 100000
set_option maxHeartbeats 4000000
namespace L2
open PySem PySem.Spec PyProof.Rows
def intOf : Value → Int
  | .int i _ => i
  | _ => 0
theorem ints_map : ∀ (vs : List Value), (∀ v ∈ vs, ∃ x t, v = .int x t) → IntsAre vs (vs.map intOf)
  | [], _ => .nil
  | v :: r, h => by
    obtain ⟨x, t, rfl⟩ := h v List.mem_cons_self
    exact .cons x t (ints_map r fun u m => h u (List.mem_cons_of_mem _ m))
section
variable {X : Cx}
theorem sorted_setI {pins : List (Addr × Obj)} {s : Shared} {σ : St} {H : Hp} {a : Addr} {ss dd : List Int} {m : Nat} {Q : VK} (hc : X.calm = true) (I : Inv X pins σ H s)
    (T : BgSet.SetTb (PySem.intKind X.prog X.w) s.heap a (fun k => decide (k ∈ ss)) m (!BgSet.byText X.w) false) (hd : ∀ x ∈ ss, x ∈ dd) (h64 : dd.length < 64)
    (q : ∀ (l : Addr) (ss' : List Int), H l = none → ss'.Nodup → (∀ x, x ∈ ss' ↔ x ∈ ss) → ss'.Pairwise (· ≤ ·) → Q (.ref l) (upd H l (.lst (ss'.map V.int)))) :
    wpAny (model X.prog X.w) X.A (call (.builtin "sorted") [.ref a]) (EP X pins σ Q) X.xe s := by
  obtain ⟨o, es, ep, t, ho, hex, hdt, hel, hmem, hb, hf, hn, htb, hoff, hap⟩ := T
  have hh : X.A.handled = none := I.ok.hd hc
  have hz : es.size ≤ sizeLine := fits_of_scanBound hb
  refine Calls.call_function_entry kind_sorted plain_sorted entry_sorted (args_sorted1 _) ?_
  unfold Builtin.«sorted»
  refine wpAny_bind (m := checkCount "sorted" 1 1 _) (wpAny_pure ?_)
  refine wpAny_bind (BgSet.set_collect (A := X.A.in1) hh ⟨⟨o, ho, hex.1, hdt⟩, hf⟩ htb hz fun h' d tk L hp hkp => ?_)
  have hall : ∀ e ∈ L, ∃ x t, e.2 = .int x t := fun e he => by
    obtain ⟨⟨k, hk, _⟩, _⟩ := hel e (hp.mem_iff.mp he)
    obtain ⟨t, ht⟩ := Value.isInt_shape hk
    exact ⟨k, t, ht⟩
  have hS : IntsAre (L.map (·.2)) ((L.map (·.2)).map intOf) := ints_map _ fun v hv => by
    obtain ⟨e, he, rfl⟩ := List.mem_map.mp hv
    exact hall e he
  generalize hss : (L.map (·.2)).map intOf = ss0 at hS
  have hmm : ∀ x, x ∈ ss0 ↔ x ∈ ss := fun x => by
    rw [← hss, List.map_map, List.mem_map]
    have := hmem x
    rw [decide_eq_true_eq] at this
    rw [this]
    constructor
    · rintro ⟨e, he, rfl⟩
      obtain ⟨y, t, hy⟩ := hall e he
      refine ⟨e, hp.mem_iff.mp he, ?_⟩
      show Value.isInt (intOf e.2) e.2 = true
      rw [hy]; simp [intOf, Value.isInt]
    · rintro ⟨e, he, hk⟩
      obtain ⟨t, ht⟩ := Value.isInt_shape hk
      exact ⟨e, hp.mem_iff.mpr he, by show intOf e.2 = x; rw [ht]; rfl⟩
  have hnd : ss0.Nodup := by
    rw [← hss, List.map_map]
    unfold List.Nodup
    rw [List.pairwise_map]
    refine List.Pairwise.imp_of_mem (fun {e e'} he he' r heq => ?_) (hap.perm hp)
    obtain ⟨y, t, hy⟩ := hall e he
    obtain ⟨y', t', hy'⟩ := hall e' he'
    have e1 : y = y' := by have : intOf e.2 = intOf e'.2 := heq; rw [hy, hy'] at this; exact this
    have h1 : Value.isInt y e.2 = true := by rw [hy]; simp [Value.isInt]
    have h2 : Value.isInt y e'.2 = false := r y h1
    rw [hy', e1] at h2; simp [Value.isInt] at h2
  have hlen0 : ss0.length < 64 := Nat.lt_of_le_of_lt (len_in hnd fun y hy => hd y ((hmm y).mp hy)) h64
  have hl : (L.map (·.2)).length = ss0.length := by rw [← hss, List.length_map, List.length_map, List.length_map]
  generalize L.map (·.2) = vs at hS hl ⊢
  have I0 : Inv X pins σ H { s with drawn := d } := I.drawn
  have I1 : Inv X pins σ H { s with heap := h', drawn := d, toks := tk } := I0.kept (s := { s with drawn := d }) hkp
  refine wpAny_bind (wpAny_newList ?_ (by rw [hl]; exact Nat.le_trans (Nat.le_of_lt hlen0) (by decide)))
  have hoL : (h'.push (seqObj "list" vs.toArray 0)).get? h'.objs.size = some (seqObj "list" vs.toArray 0) := Heap.get?_push_size _ rfl
  show wpAny _ _ _ _ _ { s with heap := h'.push (seqObj "list" vs.toArray 0), drawn := d, toks := tk }
  refine wpAny_bind (wpAny_holding (wpAny_call_entry slot_list_sort ⟨_, hoL, rfl⟩ entry_list_sort (list_sort_tree hoL hS (by rw [hl]; exact hlen0) fun out ns' a1 a2 a3 => ⟨_, rfl, ?_⟩) (args_list_sort _)))
  refine wpAny_pure ⟨_, rfl, ?_⟩
  obtain ⟨e, he⟩ := sortedHeap_at (n := 0) (out := out) hoL
  have hn := vals_of_ints a1
  have hlen : ns'.length = ss0.length := a2.length_eq
  refine ⟨.ref h'.objs.size, _, I1.laid (t' := tk) (fun b u q1 => ?_) (Nat.le_refl _) (show ObjOk X.prog X.w _ _ _ (.lst (ns'.map V.int)) from ⟨?_, out.toList, e, hn, ?_⟩), rfl,
    q _ _ (I1.hok.fresh (Nat.le_refl _)) (a2.nodup_iff.mpr hnd) (fun x => by rw [a2.mem_iff]; exact hmm x) a3⟩
  · have lt := Heap.lt_size q1
    rw [sortedHeap_old (Nat.ne_of_lt lt) (by rw [size_push']; exact Nat.lt_succ_of_lt lt)]
    exact Heap.get?_push_of_some _ q1
  · rw [List.length_map, hlen]; exact Nat.le_trans (Nat.le_of_lt hlen0) (by decide)
  · rw [Array.toArray_toList]; exact he
def tSortSetI (K : PySem.W.Frag) (t : TA) : TE := fun σ H Q => t σ H fun vs H1 => ∃ (p : Addr) (tp : Bool) (ss dd : List Int), vs = [.ref p] ∧ SqB K tp H1 p (ss.map V.int) ∧ ss.length ≤ 4000 ∧ (∀ x ∈ ss, x ∈ dd) ∧ dd.length < 64 ∧
  ∀ (l : Addr) (ss' : List Int), H1 l = none → ss'.Nodup → (∀ x, x ∈ ss' ↔ x ∈ ss) → ss'.Pairwise (· ≤ ·) → Q (.ref l) (upd H1 l (.lst (ss'.map V.int)))
theorem pe_sortSetI {a : Expr} {ta : TA} {p1 p2 pos pos2 : Pos} (hg : Gl X "sorted") (hg2 : Gl X "set") (hm : X.mg "sorted" = none) (hm2 : X.mg "set" = none) (hc : X.calm = true) (ha : PA X [a] ta)
    (hs2 : starEach [a] X.env = [(false, eval a X.env)] := by rfl) (hs : starEach [.Call (.Name "set" p2) [a] [] pos2] X.env = [(false, eval (.Call (.Name "set" p2) [a] [] pos2) X.env)] := by rfl) :
    PE X (.Call (.Name "sorted" p1) [.Call (.Name "set" p2) [a] [] pos2] [] pos) (tSortSetI X.K ta) := by
  intro pins s σ H Q I h
  refine wpAny_Call_Name_kw (ld_blt I hg hm boot_sorted ?_)
  refine PyProof.Rows.callWith_builtin1 ?_ hs rfl
  rw [hs]
  show wpAny _ _ (spliced ((false, eval (.Call (.Name "set" p2) [a] [] pos2) X.env) :: backTo pos [])) _ _ s
  refine Calls.spliced_cons ?_
  refine wpAny_Call_Name_kw (ld_blt I hg2 hm2 (show bootBuiltins "set" = some (.type "set") by kernel_rfl) ?_)
  refine PyProof.Rows.callWith_type1 (thn (ha pos2 pins s σ H _ I h) fun us s1 ⟨vs, H1, I1, r1, q1⟩ => ?_) hs2 rfl
  obtain ⟨l, tp, ss, dd, rfl, hq, hlen, hdd, h64, q⟩ := q1
  obtain ⟨u, rfl, rx⟩ := vals1 r1
  cases rx
  obtain ⟨its, rv, at_⟩ := I1.seqB hq
  have rl := rv.length
  rw [List.length_map] at rl
  have hS := intsAre_of rv
  have hv : ∀ (i : Nat) k v, ss[i]? = some k → its.toArray[i]? = some v → (PySem.intKind X.prog X.w).is k v = true ∧ v.scannable = true ∧ (false = true → plainKind v = false) := fun i k v h1 h2 => by
    rw [List.getElem?_toArray] at h2
    obtain ⟨t, ht⟩ := IntsAre.int_at hS i v h2
    have e : ss.getD i 0 = k := by rw [List.getD_eq_getElem?_getD, h1]; rfl
    rw [e] at ht
    subst ht
    exact ⟨by show Value.isInt k (.int k t) = true; simp [Value.isInt], rfl, fun z => by cases z⟩
  have hb : its.toArray.size + 1 < scanBound := by rw [List.size_toArray, ← rl]; unfold scanBound; lia
  have go : ∀ (h' : Heap) (tk m : Nat), m ≤ its.toArray.size → BgSet.SetTb (PySem.intKind X.prog X.w) h' s1.heap.objs.size (fun k => decide (k ∈ ss)) m (!BgSet.byText X.w) false →
      (∀ b o, b < s1.heap.objs.size → s1.heap.get? b = some o → h'.get? b = some o) →
      wpAny (model X.prog X.w) X.A (spliced (backTo pos [])) (fun vs s' => wpAny (model X.prog X.w) X.A (call (.builtin "sorted") (.ref s1.heap.objs.size :: vs)) (EP X pins σ Q) X.xe s') X.xe { s1 with heap := h', toks := tk } := fun h' tk m hm T kp => by
    have I2 : Inv X pins σ H1 { s1 with heap := h', toks := tk } := I1.kept fun b u e => kp b u (Heap.lt_size e) e
    exact Calls.spliced_nil (sorted_setI hc I2 T hdd h64 q)
  cases tp with
  | true => exact BgSet.set_of_tuple (kd := PySem.intKind X.prog X.w) ss false (I1.ok.hd hc) at_ (by rw [List.size_toArray]; exact rl) hv hb go
  | false => exact BgSet.set_of_list (kd := PySem.intKind X.prog X.w) ss false (I1.ok.hd hc) at_ (by rw [List.size_toArray]; exact rl) hv hb go
theorem qe_sortSetI {a : Expr} {ta : TA} {p1 p2 pos pos2 : Pos} (hg : Gl X "sorted") (hg2 : Gl X "set") (hm : X.mg "sorted" = none) (hm2 : X.mg "set" = none) (hc : X.calm = true) (ha : QA X [a] ta)
    (hs2 : starEach [a] X.env = [(false, eval a X.env)] := by rfl) (hs : starEach [.Call (.Name "set" p2) [a] [] pos2] X.env = [(false, eval (.Call (.Name "set" p2) [a] [] pos2) X.env)] := by rfl) :
    QE X (.Call (.Name "sorted" p1) [.Call (.Name "set" p2) [a] [] pos2] [] pos) (tSortSetI X.K ta) := ⟨pe_sortSetI hg hg2 hm hm2 hc ha.up hs2 hs⟩
end
theorem for_zipM {K : PySem.W.Frag} {a b : Addr} {xs ys : List V} {g : TG} {tb : TS} {D : Ends} {σ : St} {H : Hp} (el : ys.length ≤ xs.length) (Pv : Nat → St → Hp → Prop) (h0 : Pv 0 σ H) (hl : ∀ i σ H, i ≤ ys.length → Pv i σ H → SqL K H a xs ∧ SqL K H b ys)
    (hs : ∀ i x y σ H p, xs[i]? = some x → ys[i]? = some y → H p = none → Pv i σ H → g (.ref p) σ (upd H p (.tup [x, y])) fun σ2 H2 => tb { D with nx := Pv (i + 1), ct := Pv (i + 1), bk := D.nx } σ2 H2) (hd : ∀ σ H, Pv ys.length σ H → D.nx σ H) :
    ∃ W : Nat → Nat → St → Hp → Prop, (∃ m, W 0 m σ H) ∧ ∀ i m σ H, W i m σ H →
      ((Itz K a b).stop i H ∧ D.nx σ H) ∨ ((Itz K a b).go i H ∧ ∃ N : St → Hp → Prop, (∀ σ' H', N σ' H' → ∃ m', m' < m ∧ W (i + 1) m' σ' H') ∧ ∀ x H', (Itz K a b).yld i H x H' → g x σ H' fun σ2 H2 => tb { D with nx := N, ct := N, bk := D.nx } σ2 H2) := by
  refine ⟨fun i m σ H => m = ys.length - i ∧ i ≤ ys.length ∧ Pv i σ H, ⟨ys.length, by simp, Nat.zero_le _, h0⟩, ?_⟩
  rintro i m σ H ⟨rfl, hi, p⟩
  obtain ⟨q1, q2⟩ := hl i σ H hi p
  by_cases lt : i < ys.length
  · refine .inr ⟨⟨xs, _, ys, _, q1, List.getElem?_eq_getElem (by lia), q2, List.getElem?_eq_getElem lt⟩, Pv (i + 1), fun σ' H' p' => ⟨ys.length - (i + 1), by lia, rfl, lt, p'⟩, fun x H' y => ?_⟩
    obtain ⟨pp, v, u, np, rfl, rfl, hv, hu⟩ := y
    exact hs i v u σ H pp (hv xs q1) (hu ys q2) np p
  · have e : i = ys.length := by lia
    subst e
    exact .inl ⟨⟨xs, ys, q1, q2, .inr (Nat.le_refl _)⟩, hd σ H p⟩
end L2
end
section
set_option Elab.async false
set_option linter.all false
namespace Bg
open PySem L2
def RtA (H : Hp) (rt : Addr) (rs : List BRow) : Prop := ∃ rvs, H rt = some (.tup rvs) ∧ AllAt (RowAt H) rvs rs ∧ RowsGood rs
theorem RtA.same {H H' : Hp} {rt : Addr} {rs : List BRow} (h : RtA H rt rs) (s : Same H H') : RtA H' rt rs := by
  obtain ⟨rvs, a, b, c⟩ := h
  exact ⟨rvs, s _ _ a, b.imp fun _ _ z => RowAt.mono z (.of_same s), c⟩
def sp_p_as_keys (_ : PySem.W.Frag) : Sp := fun vs H Q _ => ∃ (l : Addr) (ns : List Nat), vs = [.ref l] ∧ H l = some (.lst (intsV ns)) ∧ ns.Nodup ∧ ns.length ≤ 100 ∧
  ∀ (d : Addr) (H' : Hp), H' d = some (.dK (keyF ns)) → H d = none → Same H H' → Q (.ref d) H'
def sp_p_led_to (_ : PySem.W.Frag) : Sp := fun vs H Q _ => ∃ (rt : Addr) (rs : List BRow), vs = [.ref rt] ∧ RtA H rt rs ∧
  ∀ (l : Addr) (ns : List Nat) (H' : Hp), (∀ t, t ∈ ns ↔ Ld rs t) → ns.Pairwise (· < ·) → H' l = some (.lst (intsV ns)) → H l = none → Same H H' → Q (.ref l) H'
def sp_p_heads (_ : PySem.W.Frag) : Sp := fun vs H Q _ => ∃ (rt : Addr) (rs : List BRow), vs = [.ref rt] ∧ RtA H rt rs ∧
  ∀ (l : Addr) (ns : List Nat) (H' : Hp), (∀ t, t ∈ ns ↔ Top rs t) → ns.Pairwise (· < ·) → H' l = some (.lst (intsV ns)) → H l = none → Same H H' → Q (.ref l) H'
def endV : Option Nat → V
  | none => .non
  | some t => .int (t : Nat)
def PcA (H : Hp) (v : V) (h m : Nat) (e : Option Nat) : Prop := ∃ p l, v = .ref p ∧ H p = some (.tup [.ref l, endV e]) ∧ H l = some (.lst (intsV (pc h m)))
def sp_p_piece_of (_ : PySem.W.Frag) : Sp := fun vs H Q _ => ∃ (rt d : Addr) (h : Nat) (hs : List Nat) (rs : List BRow), vs = [.ref rt, .ref d, .int (h : Nat)] ∧ RtA H rt rs ∧ H d = some (.dK (keyF hs)) ∧ (∀ t, t ∈ hs ↔ Top rs t) ∧ Top rs h ∧
  ∀ (v : V) (m : Nat) (e : Option Nat) (H' : Hp), PcA H' v h m e → Piece rs h m e → Same H H' → Q v H'
def sp_p_piece (_ : PySem.W.Frag) : Sp := fun vs H Q _ => ∃ (rt : Addr) (h : Nat) (rs : List BRow), vs = [.ref rt, .int (h : Nat)] ∧ RtA H rt rs ∧ Top rs h ∧
  ∀ (v : V) (m : Nat) (e : Option Nat) (H' : Hp), PcA H' v h m e → Piece rs h m e → Same H H' → Q v H'
def sp_goal (_ : PySem.W.Frag) : Sp := fun vs H Q _ => ∃ (rt : Addr) (n : Nat) (rvs : List V) (rs : List BRow), vs = [.ref rt, .int (n : Nat)] ∧ H rt = some (.tup rvs) ∧ AllAt (RowAt H) rvs rs ∧ RowsGood rs ∧ n < rs.length ∧ Q (.int (Sd rs n : Nat)) H
def sp_right (_ : PySem.W.Frag) : Sp := fun vs H Q _ => ∃ (rt tl : Addr) (h : Nat) (hs : List Nat) (rs : List BRow), vs = [.ref rt, .int (h : Nat), .ref tl] ∧ RtA H rt rs ∧ H tl = some (.lst (intsV hs)) ∧ (∀ t, t ∈ hs ↔ Top rs t) ∧ Top rs h ∧
  ∀ (H' : Hp), Same H H' → Q (.bl true) H'
abbrev k_p_as_keys : Nat := 0
abbrev K_p_as_keys : Nat := 1
abbrev k_p_led_to : Nat := 5
abbrev K_p_led_to : Nat := 6
abbrev k_p_heads : Nat := 6
abbrev K_p_heads : Nat := 7
abbrev k_p_piece_of : Nat := 2
abbrev K_p_piece_of : Nat := 3
abbrev k_p_piece : Nat := 7
abbrev K_p_piece : Nat := 8
abbrev k_goal : Nat := 0
abbrev K_goal : Nat := 1
abbrev k_right : Nat := 8
abbrev K_right : Nat := 9
abbrev k_law : Nat := 9
abbrev K_law : Nat := 10
end Bg
end
section
set_option Elab.async false
set_option linter.all false
namespace Bg
open PySem PySem.Spec PyProof.Rows L2
end Bg
end
section
set_option Elab.async false
set_option linter.all false
set_option maxRecDepth 100000
set_option maxHeartbeats 4000000
namespace Bg
open PySem PySem.Spec PyProof.Rows L2
def top (i : Nat) : Stmt := PySem.Challenge.pw_beltgarth_k73_pieces.main.body.getD i (.Pass ⟨0, 0, 0, 0⟩)
abbrev s_p_sets : Stmt := top 1
theorem sc_p_sets : FnScope N_p_sets PS_p_sets (defScope s_p_sets) := ⟨rfl, rfl, rfl, by decide +kernel, rfl, by decide +kernel, by decide +kernel⟩
abbrev s_p_goal : Stmt := top 2
theorem sc_p_goal : FnScope N_p_goal PS_p_goal (defScope s_p_goal) := ⟨rfl, rfl, rfl, by decide +kernel, rfl, by decide +kernel, by decide +kernel⟩
abbrev s_p_leads : Stmt := top 3
theorem sc_p_leads : FnScope N_p_leads PS_p_leads (defScope s_p_leads) := ⟨rfl, rfl, rfl, by decide +kernel, rfl, by decide +kernel, by decide +kernel⟩
abbrev s_p_stands : Stmt := top 4
theorem sc_p_stands : FnScope N_p_stands PS_p_stands (defScope s_p_stands) := ⟨rfl, rfl, rfl, by decide +kernel, rfl, by decide +kernel, by decide +kernel⟩
abbrev s_p_walked : Stmt := top 5
theorem sc_p_walked : FnScope N_p_walked PS_p_walked (defScope s_p_walked) := ⟨rfl, rfl, rfl, by decide +kernel, rfl, by decide +kernel, by decide +kernel⟩
abbrev s_p_come_to : Stmt := top 6
theorem sc_p_come_to : FnScope N_p_come_to PS_p_come_to (defScope s_p_come_to) := ⟨rfl, rfl, rfl, by decide +kernel, rfl, by decide +kernel, by decide +kernel⟩
abbrev s_p_as_keys : Stmt := top 8
abbrev PS_p_as_keys : List Str := ["numbers"]
abbrev N_p_as_keys : List Str := ["numbers"]
def t_p_as_keys (K : PySem.W.Frag) : TS := (tRet (tCB (rDictPs K) (tCons (tComp [] 1 (iSeq K (tVar 0)) (gName 1) tYes (tTup (tCons (tVar 1) (tCons (tC (.bl true)) tNil)))) tNil)))
theorem sc_p_as_keys : FnScope N_p_as_keys PS_p_as_keys (defScope s_p_as_keys) := ⟨rfl, rfl, rfl, by decide +kernel, rfl, by decide +kernel, by decide +kernel⟩
abbrev s_p_heads : Stmt := top 9
abbrev PS_p_heads : List Str := ["rows"]
abbrev N_p_heads : List Str := ["rows"]
def t_p_heads (K : PySem.W.Frag) : TS := (tRet (tSortSetI K (tCons (tOp (rPlus K) (tLst (tCons (tCall (sp_p_stands K) [] E0 (tCons (tVar 0) (tCons (tC (.int 0)) tNil))) tNil)) (tCall (sp_p_led_to K) [] E0 (tCons (tVar 0) tNil))) tNil)))
theorem sc_p_heads : FnScope N_p_heads PS_p_heads (defScope s_p_heads) := ⟨rfl, rfl, rfl, by decide +kernel, rfl, by decide +kernel, by decide +kernel⟩
abbrev s_p_led_to : Stmt := top 10
abbrev PS_p_led_to : List Str := ["rows"]
abbrev N_p_led_to : List Str := ["rows", "led", "n"]
def t_p_led_to_1 (K : PySem.W.Frag) : TS := (tRet (tCB rSortD (tCons (tVar 1) tNil)))
def t_p_led_to_2 (K : PySem.W.Frag) : TS := (tIfS (tAnd (tTest (tOp (rNeG K) (tOp (rIx K) (tOp (rIx K) (tVar 0) (tVar 2)) (tC (.int 0))) (tC (.str "give")))) (tOr (tTest (tOp (rEqG K) (tOp (rIx K) (tOp (rIx K) (tVar 0) (tOp (rPlus K) (tVar 2) (tC (.int 1)))) (tC (.int 0))) (tC (.str "jump")))) (tTest (tOp (rEqG K) (tOp (rPlus K) (tVar 2) (tC (.int 1))) (tCall (sp_p_stands K) [] E0 (tCons (tVar 0) (tCons (tC (.int 0)) tNil))))))) (tAsg (tC (.bl true)) (gSub (tVar 1) (tCall (sp_p_stands K) [] E0 (tCons (tVar 0) (tCons (tOp (rPlus K) (tVar 2) (tC (.int 1))) tNil))) rSetD)) tNext)
def t_p_led_to_3 (K : PySem.W.Frag) : TS := (tSeq (tIfS (tTest (tOp (rEqG K) (tOp (rIx K) (tOp (rIx K) (tVar 0) (tVar 2)) (tC (.int 0))) (tC (.str "test")))) (tAsg (tC (.bl true)) (gSub (tVar 1) (tCall (sp_p_stands K) [] E0 (tCons (tVar 0) (tCons (tCall (sp_p_goal K) [] E0 (tCons (tOp (rIx K) (tVar 0) (tVar 2)) tNil)) tNil))) rSetD)) tNext) (t_p_led_to_2 K))
def t_p_led_to_4 (K : PySem.W.Frag) : TS := (tSeq (tFor (iSeq K (tCall (sp_p_come_to K) [] E0 (tCons (tVar 0) tNil))) (gName 2) (t_p_led_to_3 K)) (t_p_led_to_1 K))
def t_p_led_to (K : PySem.W.Frag) : TS := (tSeq (tAsg tDNewK (gName 1)) (t_p_led_to_4 K))
theorem sc_p_led_to : FnScope N_p_led_to PS_p_led_to (defScope s_p_led_to) := ⟨rfl, rfl, rfl, by decide +kernel, rfl, by decide +kernel, by decide +kernel⟩
abbrev s_p_piece : Stmt := top 11
abbrev PS_p_piece : List Str := ["rows", "head"]
abbrev N_p_piece : List Str := ["rows", "head"]
def t_p_piece (K : PySem.W.Frag) : TS := (tRet (tCall (sp_p_piece_of K) [] E0 (tCons (tVar 0) (tCons (tCall (sp_p_as_keys K) [] E0 (tCons (tCall (sp_p_heads K) [] E0 (tCons (tVar 0) tNil)) tNil)) (tCons (tVar 1) tNil)))))
theorem sc_p_piece : FnScope N_p_piece PS_p_piece (defScope s_p_piece) := ⟨rfl, rfl, rfl, by decide +kernel, rfl, by decide +kernel, by decide +kernel⟩
abbrev s_p_piece_of : Stmt := top 12
abbrev PS_p_piece_of : List Str := ["rows", "tops", "head"]
abbrev N_p_piece_of : List Str := ["rows", "tops", "head", "told", "to"]
def t_p_piece_of_1 (K : PySem.W.Frag) : TS := (tRet (tTup (tCons (tVar 3) (tCons (tC .non) tNil))))
def t_p_piece_of_2 (K : PySem.W.Frag) : TS := (tDrop (tBM K "list" rAppend (tVar 3) (tCons (tVar 4) tNil)))
def t_p_piece_of_3 (K : PySem.W.Frag) : TS := (tSeq (tIfS (tTest (tOp ((rInD false)) (tVar 4) (tVar 1))) (tRet (tTup (tCons (tVar 3) (tCons (tVar 4) tNil)))) tNext) (t_p_piece_of_2 K))
def t_p_piece_of_4 (K : PySem.W.Frag) : TS := (tSeq (tAsg (tCall (sp_p_stands K) [] E0 (tCons (tVar 0) (tCons (tOp (rPlus K) (tOp (rIx K) (tVar 3) (tUn rNeg (tC (.int 1)))) (tC (.int 1))) tNil))) (gName 4)) (t_p_piece_of_3 K))
def t_p_piece_of_5 (K : PySem.W.Frag) : TS := (tSeq (tWhile (tTest (tOp (rNeG K) (tOp (rIx K) (tOp (rIx K) (tVar 0) (tOp (rIx K) (tVar 3) (tUn rNeg (tC (.int 1))))) (tC (.int 0))) (tC (.str "give")))) (t_p_piece_of_4 K)) (t_p_piece_of_1 K))
def t_p_piece_of (K : PySem.W.Frag) : TS := (tSeq (tAsg (tLst (tCons (tVar 2) tNil)) (gName 3)) (t_p_piece_of_5 K))
theorem sc_p_piece_of : FnScope N_p_piece_of PS_p_piece_of (defScope s_p_piece_of) := ⟨rfl, rfl, rfl, by decide +kernel, rfl, by decide +kernel, by decide +kernel⟩
abbrev s_draw : Stmt := top 14
theorem sc_draw : FnScope N_draw PS_draw (defScope s_draw) := ⟨rfl, rfl, rfl, by decide +kernel, rfl, by decide +kernel, by decide +kernel⟩
abbrev s_names : Stmt := top 15
theorem sc_names : FnScope N_names PS_names (defScope s_names) := ⟨rfl, rfl, rfl, by decide +kernel, rfl, by decide +kernel, by decide +kernel⟩
abbrev s_worth : Stmt := top 16
theorem sc_worth : FnScope N_worth PS_worth (defScope s_worth) := ⟨rfl, rfl, rfl, by decide +kernel, rfl, by decide +kernel, by decide +kernel⟩
abbrev s_rough_row : Stmt := top 17
theorem sc_rough_row : FnScope N_rough_row PS_rough_row (defScope s_rough_row) := ⟨rfl, rfl, rfl, by decide +kernel, rfl, by decide +kernel, by decide +kernel⟩
abbrev s_leads : Stmt := top 18
theorem sc_leads : FnScope N_leads PS_leads (defScope s_leads) := ⟨rfl, rfl, rfl, by decide +kernel, rfl, by decide +kernel, by decide +kernel⟩
abbrev s_mended : Stmt := top 19
theorem sc_mended : FnScope N_mended PS_mended (defScope s_mended) := ⟨rfl, rfl, rfl, by decide +kernel, rfl, by decide +kernel, by decide +kernel⟩
abbrev s_set_names : Stmt := top 20
theorem sc_set_names : FnScope N_set_names PS_set_names (defScope s_set_names) := ⟨rfl, rfl, rfl, by decide +kernel, rfl, by decide +kernel, by decide +kernel⟩
abbrev s_filled : Stmt := top 21
theorem sc_filled : FnScope N_filled PS_filled (defScope s_filled) := ⟨rfl, rfl, rfl, by decide +kernel, rfl, by decide +kernel, by decide +kernel⟩
abbrev s_part : Stmt := top 22
theorem sc_part : FnScope N_part PS_part (defScope s_part) := ⟨rfl, rfl, rfl, by decide +kernel, rfl, by decide +kernel, by decide +kernel⟩
abbrev s_program : Stmt := top 23
theorem sc_program : FnScope N_program PS_program (defScope s_program) := ⟨rfl, rfl, rfl, by decide +kernel, rfl, by decide +kernel, by decide +kernel⟩
abbrev s_goal : Stmt := top 24
abbrev PS_goal : List Str := ["_law_rows", "_law_n"]
abbrev N_goal : List Str := ["_law_rows", "_law_n"]
def t_goal_1 (K : PySem.W.Frag) : TS := (tRet (tVar 1))
def t_goal_2 (K : PySem.W.Frag) : TS := (tAsg (tOp (rIx K) (tOp (rIx K) (tVar 0) (tVar 1)) (tC (.int 1))) (gName 1))
def t_goal (K : PySem.W.Frag) : TS := (tSeq (tWhile (tTest (tOp (rEqG K) (tOp (rIx K) (tOp (rIx K) (tVar 0) (tVar 1)) (tC (.int 0))) (tC (.str "jump")))) (t_goal_2 K)) (t_goal_1 K))
theorem sc_goal : FnScope N_goal PS_goal (defScope s_goal) := ⟨rfl, rfl, rfl, by decide +kernel, rfl, by decide +kernel, by decide +kernel⟩
abbrev s_right : Stmt := top 25
abbrev PS_right : List Str := ["_law_rows", "_law_head", "_law_tops"]
abbrev N_right : List Str := ["_law_rows", "_law_head", "_law_tops", "_law_found", "_law_some", "_law_end", "_law_one", "_law_other"]
def t_right_1 (K : PySem.W.Frag) : TS := (tRet (tAndV (tOp (rNeU K) (tOp (rIx K) (tOp (rIx K) (tVar 0) (tOp (rIx K) (tVar 4) (tUn rNeg (tC (.int 1))))) (tC (.int 0))) (tC (.str "give"))) (tAndV (tOp ((rIn K false)) (tVar 5) (tVar 2)) (tOp (rEqU K) (tCall (sp_goal K) [] E0 (tCons (tVar 0) (tCons (tOp (rPlus K) (tOp (rIx K) (tVar 4) (tUn rNeg (tC (.int 1)))) (tC (.int 1))) tNil))) (tVar 5)))))
def t_right_2 (K : PySem.W.Frag) : TS := (tSeq (tIfS (tTest (tOp (rIsN) (tVar 5) (tC .non))) (tRet (tOp (rEqU K) (tOp (rIx K) (tOp (rIx K) (tVar 0) (tOp (rIx K) (tVar 4) (tUn rNeg (tC (.int 1))))) (tC (.int 0))) (tC (.str "give")))) tNext) (t_right_1 K))
def t_right_3 (K : PySem.W.Frag) : TS := (tIfS (tOr (tTest (tOp (rEqU K) (tOp (rIx K) (tOp (rIx K) (tVar 0) (tVar 6)) (tC (.int 0))) (tC (.str "give")))) (tTest (tOp (rNeU K) (tCall (sp_goal K) [] E0 (tCons (tVar 0) (tCons (tOp (rPlus K) (tVar 6) (tC (.int 1))) tNil))) (tVar 7)))) (tRet (tC (.bl false))) tNext)
def t_right_4 (K : PySem.W.Frag) : TS := (tSeq (tFor (iZip K (tCons (tVar 4) (tCons (tSl (rSl K) (tVar 4) (tPart (tC (.int 1))) tNoPart) tNil))) (gTup K 2 (gCons (gName 6) (gCons (gName 7) gNil))) (t_right_3 K)) (t_right_2 K))
def t_right_5 (K : PySem.W.Frag) : TS := (tSeq (tIfS (tOr (tTest (tOp (rNeU K) (tOp (rIx K) (tVar 4) (tC (.int 0))) (tVar 1))) (tTest (tOp (rNeU K) (tComp [] 1 (iSeq K (tSl (rSl K) (tVar 4) (tPart (tC (.int 1))) tNoPart)) (gName 8) (tTest (tOp ((rIn K false)) (tVar 8) (tVar 2))) (tVar 8)) (tLst tNil)))) (tRet (tC (.bl false))) tNext) (t_right_4 K))
def t_right_6 (K : PySem.W.Frag) : TS := (tSeq (tAsg (tVar 3) (gTup K 2 (gCons (gName 4) (gCons (gName 5) gNil)))) (t_right_5 K))
def t_right_7 (K : PySem.W.Frag) : TS := (tSeq (tIfS (tOr (tNot (tB (tCB (rIsi K) (tCons (tVar 3) (tCons (tC (.ty "tuple")) tNil))))) (tOr (tTest (tOp (rNeU K) (tCB (rLen K) (tCons (tVar 3) tNil)) (tC (.int 2)))) (tOr (tNot (tB (tCB (rIsi K) (tCons (tOp (rIx K) (tVar 3) (tC (.int 0))) (tCons (tC (.ty "list")) tNil))))) (tTest (tOp (rEqU K) (tOp (rIx K) (tVar 3) (tC (.int 0))) (tLst tNil)))))) (tRet (tC (.bl false))) tNext) (t_right_6 K))
def t_right (K : PySem.W.Frag) : TS := (tSeq (tAsg (tCall (sp_p_piece K) [] E0 (tCons (tVar 0) (tCons (tVar 1) tNil))) (gName 3)) (t_right_7 K))
theorem sc_right : FnScope N_right PS_right (defScope s_right) := ⟨rfl, rfl, rfl, by decide +kernel, rfl, by decide +kernel, by decide +kernel⟩
abbrev s_law : Stmt := top 26
abbrev PS_law : List Str := ["_law_script"]
abbrev N_law : List Str := ["_law_script", "_law_state", "_law_program_here", "_law_part_here", "_law_rows", "_law_tops", "_law_every", "_law_head"]
def t_law_1 (K : PySem.W.Frag) : TS := (tRet (tC (.bl true)))
def t_law_2 (K : PySem.W.Frag) : TS := (tIfS (tTest (tOp (rNeU K) (tCB (rSortL K) (tCons (tVar 6) tNil)) (tCall (sp_p_come_to K) [] E0 (tCons (tVar 4) tNil)))) (tRet (tC (.bl false))) tNext)
def t_law_3 (K : PySem.W.Frag) : TS := (tAsg (tOp (rPlus K) (tVar 6) (tOp (rIx K) (tCall (sp_p_piece K) [] E0 (tCons (tVar 4) (tCons (tVar 7) tNil))) (tC (.int 0)))) (gName 6))
def t_law_4 (K : PySem.W.Frag) : TS := (tSeq (tIfS (tOr (tNot (tB (tCall (sp_right K) [] E0 (tCons (tVar 4) (tCons (tVar 7) (tCons (tVar 5) tNil)))))) (tTest (tOp (rNeU K) (tCall (sp_p_piece K) [] E0 (tCons (tVar 4) (tCons (tVar 7) tNil))) (tCall (sp_p_piece K) [] E0 (tCons (tVar 4) (tCons (tVar 7) tNil)))))) (tRet (tC (.bl false))) tNext) (t_law_3 K))
def t_law_5 (K : PySem.W.Frag) : TS := (tSeq (tFor (iSeq K (tVar 5)) (gName 7) (t_law_4 K)) (t_law_2 K))
def t_law_6 (K : PySem.W.Frag) : TS := (tSeq (tAsg (tLst tNil) (gName 6)) (t_law_5 K))
def t_law_7 (K : PySem.W.Frag) : TS := (tSeq (tAsg (tCall (sp_p_heads K) [] E0 (tCons (tVar 4) tNil)) (gName 5)) (t_law_6 K))
def t_law_8 (K : PySem.W.Frag) : TS := (tSeq (tAsg (tOp (rIx K) (tVar 3) (tC (.int 2))) (gName 4)) (t_law_7 K))
def t_law_9 (K : PySem.W.Frag) : TS := (tSeq (tFor (iSeq K (tVar 2)) (gName 3) (t_law_8 K)) (t_law_1 K))
def t_law_10 (K : PySem.W.Frag) : TS := (tSeq (tAsg (tCall (sp_program K) [] E0 (tCons (tVar 1) (tCons (tC (.int 14)) tNil))) (gName 2)) (t_law_9 K))
def t_law (K : PySem.W.Frag) : TS := (tSeq (tAsg (tLst (tCons (tVar 0) (tCons (tC (.int 0)) (tCons (tC (.int 0)) tNil)))) (gName 1)) (t_law_10 K))
theorem sc_law : FnScope N_law PS_law (defScope s_law) := ⟨rfl, rfl, rfl, by decide +kernel, rfl, by decide +kernel, by decide +kernel⟩
end Bg
end
section
set_option Elab.async false
set_option linter.all false
set_option maxRecDepth 100000
set_option maxHeartbeats 4000000
namespace Bg
open PySem PySem.Spec PyProof.Rows L2
theorem d_p_sets {P : Program} {w : World} {K : PySem.W.Frag} {mg : Str → Option Value} {base : Heap} {f : Addr} {cdv : Value} {A : Around} {outer : List Env} {s : Shared} {H : Hp} {E : XK} (B : Blt mg)  
    (hr : Room k_p_sets (A.deeper (envOfC "sets" (defScope s_p_sets) s.heap.objs.size f cdv))) : PSs (cxOf CX0 P w K mg base N_p_sets "sets" (defScope s_p_sets) f cdv A outer s H E).nox (defBody s_p_sets) (t_p_sets K) := by
  have nd := sc_p_sets.nd
  have hu := hr.units0
  have hu1 := hu_of hr
  refine QSs.up ?_
  exact (qss_cons (qs_if (qt_cmpR op_in_seq (qe_ix ix_seq (qv 0) qe_int (fun _ _ => rfl)) (qe_tup (qa_cons qe_str (qa_cons qe_str (qa_cons qe_str qa_nil)))) rfl) (qss_one (qs_ret (qe_ix ix_seq (qv 0) qe_int (fun _ _ => rfl)))) qss_nil) (qss_one (qs_ret qe_non)))
end Bg
end
section
set_option Elab.async false
set_option linter.all false
set_option maxRecDepth 100000
set_option maxHeartbeats 4000000
namespace Bg
open PySem PySem.Spec PyProof.Rows L2
theorem d_p_goal {P : Program} {w : World} {K : PySem.W.Frag} {mg : Str → Option Value} {base : Heap} {f : Addr} {cdv : Value} {A : Around} {outer : List Env} {s : Shared} {H : Hp} {E : XK} (B : Blt mg)  
    (hr : Room k_p_goal (A.deeper (envOfC "goal" (defScope s_p_goal) s.heap.objs.size f cdv))) : PSs (cxOf CX0 P w K mg base N_p_goal "goal" (defScope s_p_goal) f cdv A outer s H E).nox (defBody s_p_goal) (t_p_goal K) := by
  have nd := sc_p_goal.nd
  have hu := hr.units0
  have hu1 := hu_of hr
  refine QSs.up ?_
  exact (qss_cons (qs_if (qt_cmpR (op_eqG hu) (qe_ix ix_seq (qv 0) qe_int (fun _ _ => rfl)) qe_str rfl) (qss_one (qs_ret (qe_ix ix_seq (qv 0) qe_int (fun _ _ => rfl)))) qss_nil) (qss_cons (qs_if (qt_cmpR (op_eqG hu) (qe_ix ix_seq (qv 0) qe_int (fun _ _ => rfl)) qe_str rfl) (qss_one (qs_ret (qe_ix ix_seq (qv 0) qe_int (fun _ _ => rfl)))) qss_nil) (qss_one (qs_ret qe_non))))
end Bg
end
section
set_option Elab.async false
set_option linter.all false
set_option maxRecDepth 100000
set_option maxHeartbeats 4000000
namespace Bg
open PySem PySem.Spec PyProof.Rows L2
theorem d_p_leads {P : Program} {w : World} {K : PySem.W.Frag} {mg : Str → Option Value} {base : Heap} {f : Addr} {cdv : Value} {A : Around} {outer : List Env} {s : Shared} {H : Hp} {E : XK} (B : Blt mg)  (c_p_goal : Callee P w K mg base "goal" PS_p_goal K_p_goal (sp_p_goal K))
    (hr : Room k_p_leads (A.deeper (envOfC "leads" (defScope s_p_leads) s.heap.objs.size f cdv))) : PSs (cxOf CX0 P w K mg base N_p_leads "leads" (defScope s_p_leads) f cdv A outer s H E).nox (defBody s_p_leads) (t_p_leads K) := by
  have nd := sc_p_leads.nd
  have hu := hr.units0
  have hu1 := hu_of hr
  refine QSs.up ?_
  exact (qss_cons (qs_set (i := 2) nd rfl (Or.inl rfl) (qe_ix ix_seq (qe_ix ix_seq (qv 0) (qv 1) (fun _ _ => rfl)) qe_int (fun _ _ => rfl))) (qss_cons (qs_if (qt_cmpR (op_eqG hu) (qv 2) qe_str rfl) (qss_one (qs_ret (qe_tup qa_nil))) qss_nil) (qss_cons (qs_if (qt_cmpR (op_eqG hu) (qv 2) qe_str rfl) (qss_one (qs_ret (qe_tup (qa_cons (qe_fn c_p_goal (hr.mono (by decide)) rfl (qa_cons (qe_ix ix_seq (qv 0) (qv 1) (fun _ _ => rfl)) qa_nil)) qa_nil)))) qss_nil) (qss_cons (qs_if (qt_cmpR (op_eqG hu) (qv 2) qe_str rfl) (qss_one (qs_ret (qe_tup (qa_cons (qe_op op_plus (qv 1) qe_int) (qa_cons (qe_fn c_p_goal (hr.mono (by decide)) rfl (qa_cons (qe_ix ix_seq (qv 0) (qv 1) (fun _ _ => rfl)) qa_nil)) qa_nil))))) qss_nil) (qss_one (qs_ret (qe_tup (qa_cons (qe_op op_plus (qv 1) qe_int) qa_nil))))))))
end Bg
end
section
set_option Elab.async false
set_option linter.all false
set_option maxRecDepth 100000
set_option maxHeartbeats 4000000
namespace Bg
open PySem PySem.Spec PyProof.Rows L2
theorem d_p_walked {P : Program} {w : World} {K : PySem.W.Frag} {mg : Str → Option Value} {base : Heap} {f : Addr} {cdv : Value} {A : Around} {outer : List Env} {s : Shared} {H : Hp} {E : XK} (B : Blt mg)  (c_p_sets : Callee P w K mg base "sets" PS_p_sets K_p_sets (sp_p_sets K)) (c_p_leads : Callee P w K mg base "leads" PS_p_leads K_p_leads (sp_p_leads K))
    (hr : Room k_p_walked (A.deeper (envOfC "walked" (defScope s_p_walked) s.heap.objs.size f cdv))) : PSs (cxOf CX0 P w K mg base N_p_walked "walked" (defScope s_p_walked) f cdv A outer s H E).nox (defBody s_p_walked) (t_p_walked K) := by
  have nd := sc_p_walked.nd
  have hu := hr.units0
  have hu1 := hu_of hr
  refine QSs.up ?_
  exact (qss_cons (qs_set (i := 2) nd rfl (Or.inl rfl) (qe_disp (qps_cons qe_int qe_bl qps_nil) rfl rfl (by simp) (by decide))) (qss_cons (qs_set (i := 3) nd rfl (Or.inl rfl) (qe_lst (qa_cons qe_int qa_nil))) (qss_cons (qs_while PassesOwn.never (qt_cmpR op_gt (qe_callB call_len rfl B.len_ boot_len (qa_cons (qv 3) qa_nil)) qe_int rfl) (qss_cons (qs_set (i := 4) nd rfl (Or.inl rfl) (qe_bm0 PySem.F.plainAttrs_list PySem.F.slot_list_pop PySem.F.type_list_pop mt_pop (qv 3))) (qss_one (qs_if (QW.pt (qw_or (qt_cmpR op_isN (qv 1) qe_non rfl) (qw_or1 (qt_cmpR (op_neG hu) (qe_fn c_p_sets (hr.mono (by decide)) rfl (qa_cons (qe_ix ix_seq (qv 0) (qv 4) (fun _ _ => rfl)) qa_nil)) (qv 1) rfl)))) (qss_one (qs_for PassesOwn.never rfl (qi_seq (qe_fn c_p_leads (hr.mono (by decide)) rfl (qa_cons (qv 0) (qa_cons (qv 4) qa_nil)))) (qg_name (i := 5) nd rfl (Or.inl rfl)) (qss_one (qs_if (qt_cmpR (op_notInD hu1) (qv 5) (qv 2) rfl) (qss_cons (qs_asg qe_bl (qg_sub (qv 2) (qv 5) (set_dict hu1))) (qss_one (qs_expr (qe_bm PySem.F.plainAttrs_list PySem.F.slot_list_append PySem.F.type_list_append mt_append (qv 3) (qa_cons (qv 5) qa_nil))))) qss_nil)))) qss_nil)))) (qss_one (qs_ret (qe_callB (call_sortD rfl) rfl B.sorted_ boot_sorted (qa_cons (qv 2) qa_nil)))))))
end Bg
end
section
set_option Elab.async false
set_option linter.all false
set_option maxRecDepth 100000
set_option maxHeartbeats 4000000
namespace Bg
open PySem PySem.Spec PyProof.Rows L2
theorem d_p_come_to {P : Program} {w : World} {K : PySem.W.Frag} {mg : Str → Option Value} {base : Heap} {f : Addr} {cdv : Value} {A : Around} {outer : List Env} {s : Shared} {H : Hp} {E : XK} (B : Blt mg)  (c_p_walked_d1 : CalleeD P w K mg base "walked" PS_p_walked K_p_walked [.non] (sp_p_walked K))
    (hr : Room k_p_come_to (A.deeper (envOfC "come_to" (defScope s_p_come_to) s.heap.objs.size f cdv))) : PSs (cxOf CX0 P w K mg base N_p_come_to "come_to" (defScope s_p_come_to) f cdv A outer s H E).nox (defBody s_p_come_to) (t_p_come_to K) := by
  have nd := sc_p_come_to.nd
  have hu := hr.units0
  have hu1 := hu_of hr
  refine QSs.up ?_
  exact (qss_one (qs_ret (qe_comp (sc := defScope s_p_come_to) (N := N_p_come_to) (NY := ["rows", "n"]) (js := []) (k := 1) ⟨rfl, by decide +kernel, by decide +kernel, by decide +kernel, rfl, by decide +kernel⟩ rfl rfl rfl rfl (qi_seq (qe_fnD c_p_walked_d1 (hr.mono (by decide)) rfl (qa_cons (qv 0) qa_nil))) (fun _ _ _ _ _ => (qg_name (i := 1) (show List.Nodup (["rows", "n"] : List Str) by decide +kernel) rfl (Or.inl rfl))) (fun _ _ _ _ _ => (qif_one (qt_cmpR (op_neG hu) (qe_ix ix_seq (qe_ix ix_seq (qv 0) (qv 1) (fun _ _ => rfl)) qe_int (fun _ _ => rfl)) qe_str rfl))) (fun _ _ _ _ _ => (qv 1)))))
end Bg
end
section
set_option Elab.async false
set_option linter.all false
set_option maxRecDepth 100000
set_option maxHeartbeats 4000000
namespace Bg
open PySem PySem.Spec PyProof.Rows L2
theorem d_p_stands {P : Program} {w : World} {K : PySem.W.Frag} {mg : Str → Option Value} {base : Heap} {f : Addr} {cdv : Value} {A : Around} {outer : List Env} {s : Shared} {H : Hp} {E : XK} (B : Blt mg)  (c_p_goal : Callee P w K mg base "goal" PS_p_goal K_p_goal (sp_p_goal K))
    (hr : Room k_p_stands (A.deeper (envOfC "stands" (defScope s_p_stands) s.heap.objs.size f cdv))) : PSs (cxOf CX0 P w K mg base N_p_stands "stands" (defScope s_p_stands) f cdv A outer s H E).nox (defBody s_p_stands) (t_p_stands K) := by
  have nd := sc_p_stands.nd
  have hu := hr.units0
  have hu1 := hu_of hr
  refine QSs.up ?_
  exact (qss_cons (qs_set (i := 2) nd rfl (Or.inl rfl) (qv 1)) (qss_cons (qs_while PassesOwn.never (qt_cmpR (op_eqG hu) (qe_ix ix_seq (qe_ix ix_seq (qv 0) (qv 2) (fun _ _ => rfl)) qe_int (fun _ _ => rfl)) qe_str rfl) (qss_one (qs_set (i := 2) nd rfl (Or.inl rfl) (qe_fn c_p_goal (hr.mono (by decide)) rfl (qa_cons (qe_ix ix_seq (qv 0) (qv 2) (fun _ _ => rfl)) qa_nil))))) (qss_one (qs_ret (qv 2)))))
end Bg
end
section
set_option Elab.async false
set_option linter.all false
set_option maxRecDepth 100000
set_option maxHeartbeats 4000000
namespace Bg
open PySem PySem.Spec PyProof.Rows L2
theorem d_p_led_to {P : Program} {w : World} {K : PySem.W.Frag} {mg : Str → Option Value} {base : Heap} {f : Addr} {cdv : Value} {A : Around} {outer : List Env} {s : Shared} {H : Hp} {E : XK} (B : Blt mg)  (c_p_come_to : Callee P w K mg base "come_to" PS_p_come_to K_p_come_to (sp_p_come_to K)) (c_p_stands : Callee P w K mg base "stands" PS_p_stands K_p_stands (sp_p_stands K)) (c_p_goal : Callee P w K mg base "goal" PS_p_goal K_p_goal (sp_p_goal K))
    (hr : Room k_p_led_to (A.deeper (envOfC "led_to" (defScope s_p_led_to) s.heap.objs.size f cdv))) : PSs (cxOf CX0 P w K mg base N_p_led_to "led_to" (defScope s_p_led_to) f cdv A outer s H E).nox (defBody s_p_led_to) (t_p_led_to K) := by
  have nd := sc_p_led_to.nd
  have hu := hr.units0
  have hu1 := hu_of hr
  refine QSs.up ?_
  exact (qss_cons (qs_set (i := 1) nd rfl (Or.inl rfl) qe_dnewK) (qss_cons (qs_for PassesOwn.never rfl (qi_seq (qe_fn c_p_come_to (hr.mono (by decide)) rfl (qa_cons (qv 0) qa_nil))) (qg_name (i := 2) nd rfl (Or.inl rfl)) (qss_cons (qs_if (qt_cmpR (op_eqG hu) (qe_ix ix_seq (qe_ix ix_seq (qv 0) (qv 2) (fun _ _ => rfl)) qe_int (fun _ _ => rfl)) qe_str rfl) (qss_one (qs_asg qe_bl (qg_sub (qv 1) (qe_fn c_p_stands (hr.mono (by decide)) rfl (qa_cons (qv 0) (qa_cons (qe_fn c_p_goal (hr.mono (by decide)) rfl (qa_cons (qe_ix ix_seq (qv 0) (qv 2) (fun _ _ => rfl)) qa_nil)) qa_nil))) (set_dict hu1)))) qss_nil) (qss_one (qs_if (QW.pt (qw_and (qt_cmpR (op_neG hu) (qe_ix ix_seq (qe_ix ix_seq (qv 0) (qv 2) (fun _ _ => rfl)) qe_int (fun _ _ => rfl)) qe_str rfl) (qw_and1 (QW.pt (qw_or (qt_cmpR (op_eqG hu) (qe_ix ix_seq (qe_ix ix_seq (qv 0) (qe_op op_plus (qv 2) qe_int) (fun _ _ => rfl)) qe_int (fun _ _ => rfl)) qe_str rfl) (qw_or1 (qt_cmpR (op_eqG hu) (qe_op op_plus (qv 2) qe_int) (qe_fn c_p_stands (hr.mono (by decide)) rfl (qa_cons (qv 0) (qa_cons qe_int qa_nil))) rfl))))))) (qss_one (qs_asg qe_bl (qg_sub (qv 1) (qe_fn c_p_stands (hr.mono (by decide)) rfl (qa_cons (qv 0) (qa_cons (qe_op op_plus (qv 2) qe_int) qa_nil))) (set_dict hu1)))) qss_nil)))) (qss_one (qs_ret (qe_callB (call_sortD rfl) rfl B.sorted_ boot_sorted (qa_cons (qv 1) qa_nil))))))
end Bg
end
section
set_option Elab.async false
set_option linter.all false
set_option maxRecDepth 100000
set_option maxHeartbeats 4000000
namespace Bg
open PySem PySem.Spec PyProof.Rows L2
theorem d_p_heads {P : Program} {w : World} {K : PySem.W.Frag} {mg : Str → Option Value} {base : Heap} {f : Addr} {cdv : Value} {A : Around} {outer : List Env} {s : Shared} {H : Hp} {E : XK} (B : Blt mg)  (c_p_stands : Callee P w K mg base "stands" PS_p_stands K_p_stands (sp_p_stands K)) (c_p_led_to : Callee P w K mg base "led_to" PS_p_led_to K_p_led_to (sp_p_led_to K))
    (hr : Room k_p_heads (A.deeper (envOfC "heads" (defScope s_p_heads) s.heap.objs.size f cdv))) : PSs (cxOf CX0 P w K mg base N_p_heads "heads" (defScope s_p_heads) f cdv A outer s H E).nox (defBody s_p_heads) (t_p_heads K) := by
  have nd := sc_p_heads.nd
  have hu := hr.units0
  have hu1 := hu_of hr
  refine QSs.up ?_
  exact (qss_one (qs_ret (qe_sortSetI rfl rfl B.sorted_ B.set_ rfl (qa_cons (qe_op op_plus (qe_lst (qa_cons (qe_fn c_p_stands (hr.mono (by decide)) rfl (qa_cons (qv 0) (qa_cons qe_int qa_nil))) qa_nil)) (qe_fn c_p_led_to (hr.mono (by decide)) rfl (qa_cons (qv 0) qa_nil))) qa_nil))))
end Bg
end
section
set_option Elab.async false
set_option linter.all false
set_option maxRecDepth 100000
set_option maxHeartbeats 4000000
namespace Bg
open PySem PySem.Spec PyProof.Rows L2
theorem d_p_as_keys {P : Program} {w : World} {K : PySem.W.Frag} {mg : Str → Option Value} {base : Heap} {f : Addr} {cdv : Value} {A : Around} {outer : List Env} {s : Shared} {H : Hp} {E : XK} (B : Blt mg)  
    (hr : Room k_p_as_keys (A.deeper (envOfC "as_keys" (defScope s_p_as_keys) s.heap.objs.size f cdv))) : PSs (cxOf CX0 P w K mg base N_p_as_keys "as_keys" (defScope s_p_as_keys) f cdv A outer s H E).nox (defBody s_p_as_keys) (t_p_as_keys K) := by
  have nd := sc_p_as_keys.nd
  have hu := hr.units0
  have hu1 := hu_of hr
  refine QSs.up ?_
  exact (qss_one (qs_ret (qe_callTy (call_dictPs rfl) rfl B.dict_ boot_dict (qa_cons (qe_comp (sc := defScope s_p_as_keys) (N := N_p_as_keys) (NY := ["numbers", "n"]) (js := []) (k := 1) ⟨rfl, by decide +kernel, by decide +kernel, by decide +kernel, rfl, by decide +kernel⟩ rfl rfl rfl rfl (qi_seq (qv 0)) (fun _ _ _ _ _ => (qg_name (i := 1) (show List.Nodup (["numbers", "n"] : List Str) by decide +kernel) rfl (Or.inl rfl))) (fun _ _ _ _ _ => qif_nil) (fun _ _ _ _ _ => (qe_tup (qa_cons (qv 1) (qa_cons qe_bl qa_nil))))) qa_nil))))
end Bg
end
section
set_option Elab.async false
set_option linter.all false
set_option maxRecDepth 100000
set_option maxHeartbeats 4000000
namespace Bg
open PySem PySem.Spec PyProof.Rows L2
theorem d_p_piece_of {P : Program} {w : World} {K : PySem.W.Frag} {mg : Str → Option Value} {base : Heap} {f : Addr} {cdv : Value} {A : Around} {outer : List Env} {s : Shared} {H : Hp} {E : XK} (B : Blt mg)  (c_p_stands : Callee P w K mg base "stands" PS_p_stands K_p_stands (sp_p_stands K))
    (hr : Room k_p_piece_of (A.deeper (envOfC "piece_of" (defScope s_p_piece_of) s.heap.objs.size f cdv))) : PSs (cxOf CX0 P w K mg base N_p_piece_of "piece_of" (defScope s_p_piece_of) f cdv A outer s H E).nox (defBody s_p_piece_of) (t_p_piece_of K) := by
  have nd := sc_p_piece_of.nd
  have hu := hr.units0
  have hu1 := hu_of hr
  refine QSs.up ?_
  exact (qss_cons (qs_set (i := 3) nd rfl (Or.inl rfl) (qe_lst (qa_cons (qv 2) qa_nil))) (qss_cons (qs_while PassesOwn.never (qt_cmpR (op_neG hu) (qe_ix ix_seq (qe_ix ix_seq (qv 0) (qe_ix ix_seq (qv 3) (qe_un un_neg qe_int) (fun _ _ => rfl)) (fun _ _ => rfl)) qe_int (fun _ _ => rfl)) qe_str rfl) (qss_cons (qs_set (i := 4) nd rfl (Or.inl rfl) (qe_fn c_p_stands (hr.mono (by decide)) rfl (qa_cons (qv 0) (qa_cons (qe_op op_plus (qe_ix ix_seq (qv 3) (qe_un un_neg qe_int) (fun _ _ => rfl)) qe_int) qa_nil)))) (qss_cons (qs_if (qt_cmpR (op_inD hu1) (qv 4) (qv 1) rfl) (qss_one (qs_ret (qe_tup (qa_cons (qv 3) (qa_cons (qv 4) qa_nil))))) qss_nil) (qss_one (qs_expr (qe_bm PySem.F.plainAttrs_list PySem.F.slot_list_append PySem.F.type_list_append mt_append (qv 3) (qa_cons (qv 4) qa_nil))))))) (qss_one (qs_ret (qe_tup (qa_cons (qv 3) (qa_cons qe_non qa_nil)))))))
end Bg
end
section
set_option Elab.async false
set_option linter.all false
set_option maxRecDepth 100000
set_option maxHeartbeats 4000000
namespace Bg
open PySem PySem.Spec PyProof.Rows L2
theorem d_p_piece {P : Program} {w : World} {K : PySem.W.Frag} {mg : Str → Option Value} {base : Heap} {f : Addr} {cdv : Value} {A : Around} {outer : List Env} {s : Shared} {H : Hp} {E : XK} (B : Blt mg)  (c_p_heads : Callee P w K mg base "heads" PS_p_heads K_p_heads (sp_p_heads K)) (c_p_as_keys : Callee P w K mg base "as_keys" PS_p_as_keys K_p_as_keys (sp_p_as_keys K)) (c_p_piece_of : Callee P w K mg base "piece_of" PS_p_piece_of K_p_piece_of (sp_p_piece_of K))
    (hr : Room k_p_piece (A.deeper (envOfC "piece" (defScope s_p_piece) s.heap.objs.size f cdv))) : PSs (cxOf CX0 P w K mg base N_p_piece "piece" (defScope s_p_piece) f cdv A outer s H E).nox (defBody s_p_piece) (t_p_piece K) := by
  have nd := sc_p_piece.nd
  have hu := hr.units0
  have hu1 := hu_of hr
  refine QSs.up ?_
  exact (qss_one (qs_ret (qe_fn c_p_piece_of (hr.mono (by decide)) rfl (qa_cons (qv 0) (qa_cons (qe_fn c_p_as_keys (hr.mono (by decide)) rfl (qa_cons (qe_fn c_p_heads (hr.mono (by decide)) rfl (qa_cons (qv 0) qa_nil)) qa_nil)) (qa_cons (qv 1) qa_nil))))))
end Bg
end
section
set_option Elab.async false
set_option linter.all false
set_option maxRecDepth 100000
set_option maxHeartbeats 4000000
namespace Bg
open PySem PySem.Spec PyProof.Rows L2
theorem d_goal {P : Program} {w : World} {K : PySem.W.Frag} {mg : Str → Option Value} {base : Heap} {f : Addr} {cdv : Value} {A : Around} {outer : List Env} {s : Shared} {H : Hp} {E : XK} (B : Blt mg)  
    (hr : Room k_goal (A.deeper (envOfC "_law_goal" (defScope s_goal) s.heap.objs.size f cdv))) : PSs (cxOf CX0 P w K mg base N_goal "_law_goal" (defScope s_goal) f cdv A outer s H E).nox (defBody s_goal) (t_goal K) := by
  have nd := sc_goal.nd
  have hu := hr.units0
  have hu1 := hu_of hr
  refine QSs.up ?_
  exact (qss_cons (qs_while PassesOwn.never (qt_cmpR (op_eqG hu) (qe_ix ix_seq (qe_ix ix_seq (qv 0) (qv 1) (fun _ _ => rfl)) qe_int (fun _ _ => rfl)) qe_str rfl) (qss_one (qs_set (i := 1) nd rfl (Or.inl rfl) (qe_ix ix_seq (qe_ix ix_seq (qv 0) (qv 1) (fun _ _ => rfl)) qe_int (fun _ _ => rfl))))) (qss_one (qs_ret (qv 1))))
end Bg
end
section
set_option Elab.async false
set_option linter.all false
set_option maxRecDepth 100000
set_option maxHeartbeats 4000000
namespace Bg
open PySem PySem.Spec PyProof.Rows L2
theorem d_right {P : Program} {w : World} {K : PySem.W.Frag} {mg : Str → Option Value} {base : Heap} {f : Addr} {cdv : Value} {A : Around} {outer : List Env} {s : Shared} {H : Hp} {E : XK} (B : Blt mg)  (c_goal : Callee P w K mg base "_law_goal" PS_goal K_goal (sp_goal K)) (c_p_piece : Callee P w K mg base "piece" PS_p_piece K_p_piece (sp_p_piece K))
    (hr : Room k_right (A.deeper (envOfC "_law_right" (defScope s_right) s.heap.objs.size f cdv))) : PSs (cxOf CX0 P w K mg base N_right "_law_right" (defScope s_right) f cdv A outer s H E).nox (defBody s_right) (t_right K) := by
  have nd := sc_right.nd
  have hu := hr.units0
  have hu1 := hu_of hr
  have hu5 := hu5_of hr
  refine QSs.up ?_
  exact (qss_cons (qs_set (i := 3) nd rfl (Or.inl rfl) (qe_fn c_p_piece (hr.mono (by decide)) rfl (qa_cons (qv 0) (qa_cons (qv 1) qa_nil)))) (qss_cons (qs_if (QW.pt (qw_or (qt_not (qt_val (qe_callB call_isi rfl B.isinstance_ boot_isinstance (qa_cons (qv 3) (qa_cons (qe_bltn rfl B.tuple_ boot_tuple (v := .ty "tuple") rfl) qa_nil))))) (qw_or (qt_cmpR (op_neU hu5) (qe_callB call_len rfl B.len_ boot_len (qa_cons (qv 3) qa_nil)) qe_int rfl) (qw_or (qt_not (qt_val (qe_callB call_isi rfl B.isinstance_ boot_isinstance (qa_cons (qe_ix ix_seq (qv 3) qe_int (fun _ _ => rfl)) (qa_cons (qe_bltn rfl B.list_ boot_list (v := .ty "list") rfl) qa_nil))))) (qw_or1 (qt_cmpR (op_eqU hu5) (qe_ix ix_seq (qv 3) qe_int (fun _ _ => rfl)) (qe_lst qa_nil) rfl)))))) (qss_one (qs_ret qe_bl)) qss_nil) (qss_cons (qs_asg (qv 3) (qg_tup rfl (qgs_cons (qg_name (i := 4) nd rfl (Or.inl rfl)) (qgs_cons (qg_name (i := 5) nd rfl (Or.inl rfl)) qgs_nil)))) (qss_cons (qs_if (QW.pt (qw_or (qt_cmpR (op_neU hu5) (qe_ix ix_seq (qv 4) qe_int (fun _ _ => rfl)) (qv 1) rfl) (qw_or1 (qt_cmpR (op_neU hu5) (qe_comp (sc := defScope s_right) (N := N_right) (NY := ["_law_rows", "_law_head", "_law_tops", "_law_found", "_law_some", "_law_end", "_law_one", "_law_other", "_law_n"]) (js := []) (k := 1) ⟨rfl, by decide +kernel, by decide +kernel, by decide +kernel, rfl, by decide +kernel⟩ rfl rfl rfl rfl (qi_seq (qe_slice sl_seq (qv 4) (qo_some qe_int) qo_none)) (fun _ _ _ _ _ => (qg_name (i := 8) (show List.Nodup (["_law_rows", "_law_head", "_law_tops", "_law_found", "_law_some", "_law_end", "_law_one", "_law_other", "_law_n"] : List Str) by decide +kernel) rfl (Or.inl rfl))) (fun _ _ _ _ _ => (qif_one (qt_cmpR op_in_seq (qv 8) (qv 2) rfl))) (fun _ _ _ _ _ => (qv 8))) (qe_lst qa_nil) rfl)))) (qss_one (qs_ret qe_bl)) qss_nil) (qss_cons (qs_for PassesOwn.never rfl (qi_zip rfl B.zip_ (qa_cons (qv 4) (qa_cons (qe_slice sl_seq (qv 4) (qo_some qe_int) qo_none) qa_nil))) (qg_tup rfl (qgs_cons (qg_name (i := 6) nd rfl (Or.inl rfl)) (qgs_cons (qg_name (i := 7) nd rfl (Or.inl rfl)) qgs_nil))) (qss_one (qs_if (QW.pt (qw_or (qt_cmpR (op_eqU hu5) (qe_ix ix_seq (qe_ix ix_seq (qv 0) (qv 6) (fun _ _ => rfl)) qe_int (fun _ _ => rfl)) qe_str rfl) (qw_or1 (qt_cmpR (op_neU hu5) (qe_fn c_goal (hr.mono (by decide)) rfl (qa_cons (qv 0) (qa_cons (qe_op op_plus (qv 6) qe_int) qa_nil))) (qv 7) rfl)))) (qss_one (qs_ret qe_bl)) qss_nil))) (qss_cons (qs_if (qt_cmpR op_isN (qv 5) qe_non rfl) (qss_one (qs_ret (qe_cmpR (op_eqU hu5) (qe_ix ix_seq (qe_ix ix_seq (qv 0) (qe_ix ix_seq (qv 4) (qe_un un_neg qe_int) (fun _ _ => rfl)) (fun _ _ => rfl)) qe_int (fun _ _ => rfl)) qe_str rfl))) qss_nil) (qss_one (qs_ret (qe_and (qe_cmpR (op_neU hu5) (qe_ix ix_seq (qe_ix ix_seq (qv 0) (qe_ix ix_seq (qv 4) (qe_un un_neg qe_int) (fun _ _ => rfl)) (fun _ _ => rfl)) qe_int (fun _ _ => rfl)) qe_str rfl) (qe_and (qe_cmpR op_in_seq (qv 5) (qv 2) rfl) (qe_one (qe_cmpR (op_eqU hu5) (qe_fn c_goal (hr.mono (by decide)) rfl (qa_cons (qv 0) (qa_cons (qe_op op_plus (qe_ix ix_seq (qv 4) (qe_un un_neg qe_int) (fun _ _ => rfl)) qe_int) qa_nil))) (qv 5) rfl))))))))))))
end Bg
end
section
set_option Elab.async false
set_option linter.all false
set_option maxRecDepth 100000
set_option maxHeartbeats 4000000
namespace Bg
open PySem PySem.Spec PyProof.Rows L2
theorem d_draw {P : Program} {w : World} {K : PySem.W.Frag} {mg : Str → Option Value} {base : Heap} {f : Addr} {cdv : Value} {A : Around} {outer : List Env} {s : Shared} {H : Hp} {E : XK} (B : Blt mg)  
    (hr : Room k_draw (A.deeper (envOfC "_law_draw" (defScope s_draw) s.heap.objs.size f cdv))) : PSs (cxOf CX0 P w K mg base N_draw "_law_draw" (defScope s_draw) f cdv A outer s H E).nox (defBody s_draw) (t_draw K) := by
  have nd := sc_draw.nd
  have hu := hr.units0
  have hu1 := hu_of hr
  refine QSs.up ?_
  exact (qss_cons (qs_asg (qe_slice sl_seq (qv 0) qo_none (qo_some qe_int)) (qg_tupL rfl (qgs_cons (qg_name (i := 2) nd rfl (Or.inl rfl)) (qgs_cons (qg_name (i := 3) nd rfl (Or.inl rfl)) qgs_nil)))) (qss_cons (qs_asg (qe_op op_plus (qv 3) qe_int) (qg_sub (qv 0) qe_int set_list)) (qss_cons (qs_if (QW.pt (qw_and (qt_cmpR op_lt (qe_op op_plus (qe_op op_fdiv (qv 3) qe_int) qe_int) (qe_callB call_len rfl B.len_ boot_len (qa_cons (qv 2) qa_nil)) rfl) (qw_and1 (qt_cmpR (op_eqG hu) (qe_op op_mod (qe_ix ix_seq (qv 2) qe_int (fun _ _ => rfl)) qe_int) qe_int rfl)))) (qss_cons (qs_if (qt_cmpR (op_eqG hu) (qe_op op_mod (qv 3) qe_int) qe_int rfl) (qss_one (qs_asg (qe_ix ix_seq (qv 2) (qe_op op_plus (qe_op op_fdiv (qv 3) qe_int) qe_int) (fun _ _ => rfl)) (qg_sub (qv 0) qe_int set_list))) qss_nil) (qss_one (qs_if (qt_cmpR op_notIn_seq (qe_ix ix_seq (qv 0) qe_int (fun _ _ => rfl)) (qe_tup (qa_cons qe_int (qa_cons (qe_un un_neg qe_int) qa_nil))) rfl) (qss_cons (qs_asg (qe_callB call_divmodW rfl B.divmod_ boot_divmod (qa_cons (qe_ix ix_seq (qv 0) qe_int (fun _ _ => rfl)) (qa_cons (qv 1) qa_nil))) (qg_tup rfl (qgs_cons (qg_sub (qv 0) qe_int set_list) (qgs_cons (qg_name (i := 4) nd rfl (Or.inl rfl)) qgs_nil)))) (qss_one (qs_ret (qv 4)))) qss_nil))) (qss_one (qs_if (qt_cmpR op_lt (qv 3) (qe_callB call_len rfl B.len_ boot_len (qa_cons (qv 2) qa_nil)) rfl) (qss_one (qs_ret (qe_op op_mod (qe_ix ix_seq (qv 2) (qv 3) (fun _ _ => rfl)) (qv 1)))) qss_nil))) (qss_cons (qs_set (i := 5) nd rfl (Or.inl rfl) (qe_op op_plus (qe_op op_times (qv 3) qe_int) qe_int)) (qss_cons (qs_if (qt_cmpR op_gt (qe_callB call_len rfl B.len_ boot_len (qa_cons (qv 2) qa_nil)) qe_int rfl) (qss_one (qs_set (i := 5) nd rfl (Or.inl rfl) (qe_op op_plus (qv 5) (qe_op op_times (qe_ix ix_seq (qv 2) (qe_op op_mod (qe_op op_times (qv 3) qe_int) (qe_callB call_len rfl B.len_ boot_len (qa_cons (qv 2) qa_nil))) (fun _ _ => rfl)) (qe_op op_plus qe_int (qv 3)))))) qss_nil) (qss_cons (qs_set (i := 5) nd rfl (Or.inl rfl) (qe_op op_mod (qe_op op_times (qe_op op_mod (qv 5) qe_int) (qe_op op_plus (qv 3) qe_int)) qe_int)) (qss_cons (qs_set (i := 5) nd rfl (Or.inl rfl) (qe_op op_mod (qe_op op_times (qv 5) (qv 5)) qe_int)) (qss_one (qs_ret (qe_op op_mod (qe_op op_mod (qe_op op_times (qv 5) (qv 5)) qe_int) (qv 1)))))))))))
end Bg
end
section
set_option Elab.async false
set_option linter.all false
set_option maxRecDepth 100000
set_option maxHeartbeats 4000000
namespace Bg
open PySem PySem.Spec PyProof.Rows L2
theorem d_filled {P : Program} {w : World} {K : PySem.W.Frag} {mg : Str → Option Value} {base : Heap} {f : Addr} {cdv : Value} {A : Around} {outer : List Env} {s : Shared} {H : Hp} {E : XK} (B : Blt mg)  (c_draw : Callee P w K mg base "_law_draw" PS_draw K_draw (sp_draw K))
    (hr : Room k_filled (A.deeper (envOfC "_law_filled" (defScope s_filled) s.heap.objs.size f cdv))) : PSs (cxOf CX0 P w K mg base N_filled "_law_filled" (defScope s_filled) f cdv A outer s H E).nox (defBody s_filled) (t_filled K) := by
  have nd := sc_filled.nd
  have hu := hr.units0
  have hu1 := hu_of hr
  refine QSs.up ?_
  exact (qss_cons (qs_set (i := 3) nd rfl (Or.inl rfl) (qe_lst qa_nil)) (qss_cons (qs_for PassesOwn.never rfl (qi_enum rfl B.enumerate_ (qa_cons (qv 1) qa_nil)) (qg_tup rfl (qgs_cons (qg_name (i := 4) nd rfl (Or.inr rfl)) (qgs_cons (qg_name (i := 5) nd rfl (Or.inl rfl)) qgs_nil))) (qss_cons (qs_set (i := 6) nd rfl (Or.inl rfl) (qe_lst qa_nil)) (qss_cons (qs_for PassesOwn.never rfl (qi_seq (qe_slice sl_seq (qv 5) (qo_some qe_int) qo_none)) (qg_name (i := 7) nd rfl (Or.inl rfl)) (qss_cons (qs_if (qt_cmpR (op_eqG hu) (qv 7) qe_str rfl) (qss_one (qs_set (i := 7) nd rfl (Or.inl rfl) (qe_ix ix_seq (qe_ix ix_seq (qv 2) (qv 4) (fun _ _ => rfl)) (qe_fn c_draw (hr.mono (by decide)) rfl (qa_cons (qv 0) (qa_cons (qe_callB call_len rfl B.len_ boot_len (qa_cons (qe_ix ix_seq (qv 2) (qv 4) (fun _ _ => rfl)) qa_nil)) qa_nil))) (fun _ _ => rfl)))) (qss_one (qs_if (qt_val (qe_callB call_isi rfl B.isinstance_ boot_isinstance (qa_cons (qv 7) (qa_cons (qe_bltn rfl B.tuple_ boot_tuple (v := .ty "tuple") rfl) qa_nil)))) (qss_one (qs_set (i := 7) nd rfl (Or.inl rfl) (qe_callTy call_tuple_of rfl B.tuple_ boot_tuple (qa_cons (qe_comp (sc := defScope s_filled) (N := N_filled) (NY := ["_law_state", "_law_rows", "_law_known", "_law_found", "_law_n", "_law_row", "_law_some", "_law_thing", "_law_one"]) (js := []) (k := 1) ⟨rfl, by decide +kernel, by decide +kernel, by decide +kernel, rfl, by decide +kernel⟩ rfl rfl rfl rfl (qi_seq (qv 7)) (fun _ _ _ _ _ => (qg_name (i := 8) (show List.Nodup (["_law_state", "_law_rows", "_law_known", "_law_found", "_law_n", "_law_row", "_law_some", "_law_thing", "_law_one"] : List Str) by decide +kernel) rfl (Or.inl rfl))) (fun _ _ _ _ _ => qif_nil) (fun _ _ _ _ _ => (qe_ix ix_seq (qe_ix ix_seq (qv 2) (qv 4) (fun _ _ => rfl)) (qe_fn c_draw (hr.mono (by decide)) rfl (qa_cons (qv 0) (qa_cons (qe_callB call_len rfl B.len_ boot_len (qa_cons (qe_ix ix_seq (qv 2) (qv 4) (fun _ _ => rfl)) qa_nil)) qa_nil))) (fun _ _ => rfl)))) qa_nil)))) qss_nil))) (qss_one (qs_expr (qe_bm PySem.F.plainAttrs_list PySem.F.slot_list_append PySem.F.type_list_append mt_append (qv 6) (qa_cons (qv 7) qa_nil)))))) (qss_one (qs_expr (qe_bm PySem.F.plainAttrs_list PySem.F.slot_list_append PySem.F.type_list_append mt_append (qv 3) (qa_cons (qe_op op_plus (qe_tup (qa_cons (qe_ix ix_seq (qv 5) qe_int (fun _ _ => rfl)) qa_nil)) (qe_callTy call_tuple_of rfl B.tuple_ boot_tuple (qa_cons (qv 6) qa_nil))) qa_nil))))))) (qss_one (qs_ret (qe_callTy call_tuple_of rfl B.tuple_ boot_tuple (qa_cons (qv 3) qa_nil))))))
end Bg
end
section
set_option Elab.async false
set_option linter.all false
set_option maxRecDepth 100000
set_option maxHeartbeats 4000000
namespace Bg
open PySem PySem.Spec PyProof.Rows L2
theorem d_leads {P : Program} {w : World} {K : PySem.W.Frag} {mg : Str → Option Value} {base : Heap} {f : Addr} {cdv : Value} {A : Around} {outer : List Env} {s : Shared} {H : Hp} {E : XK} (B : Blt mg)  
    (hr : Room k_leads (A.deeper (envOfC "_law_leads" (defScope s_leads) s.heap.objs.size f cdv))) : PSs (cxOf CX0 P w K mg base N_leads "_law_leads" (defScope s_leads) f cdv A outer s H E).nox (defBody s_leads) (t_leads K) := by
  have nd := sc_leads.nd
  have hu := hr.units0
  have hu1 := hu_of hr
  refine QSs.up ?_
  exact (qss_cons (qs_if (qt_cmpR (op_eqG hu) (qe_ix ix_seq (qe_ix ix_seq (qv 0) (qv 1) (fun _ _ => rfl)) qe_int (fun _ _ => rfl)) qe_str rfl) (qss_one (qs_ret (qe_lst (qa_cons (qe_ix ix_seq (qe_ix ix_seq (qv 0) (qv 1) (fun _ _ => rfl)) qe_int (fun _ _ => rfl)) qa_nil)))) qss_nil) (qss_cons (qs_if (qt_cmpR (op_eqG hu) (qe_ix ix_seq (qe_ix ix_seq (qv 0) (qv 1) (fun _ _ => rfl)) qe_int (fun _ _ => rfl)) qe_str rfl) (qss_one (qs_ret (qe_lst (qa_cons (qe_op op_plus (qv 1) qe_int) (qa_cons (qe_ix ix_seq (qe_ix ix_seq (qv 0) (qv 1) (fun _ _ => rfl)) qe_int (fun _ _ => rfl)) qa_nil))))) qss_nil) (qss_cons (qs_if (qt_cmpR (op_eqG hu) (qe_ix ix_seq (qe_ix ix_seq (qv 0) (qv 1) (fun _ _ => rfl)) qe_int (fun _ _ => rfl)) qe_str rfl) (qss_one (qs_ret (qe_lst qa_nil))) qss_nil) (qss_one (qs_ret (qe_lst (qa_cons (qe_op op_plus (qv 1) qe_int) qa_nil)))))))
end Bg
end
section
set_option Elab.async false
set_option linter.all false
set_option maxRecDepth 100000
set_option maxHeartbeats 4000000
namespace Bg
open PySem PySem.Spec PyProof.Rows L2
theorem d_set_names {P : Program} {w : World} {K : PySem.W.Frag} {mg : Str → Option Value} {base : Heap} {f : Addr} {cdv : Value} {A : Around} {outer : List Env} {s : Shared} {H : Hp} {E : XK} (B : Blt mg)  (c_leads : Callee P w K mg base "_law_leads" PS_leads K_leads (sp_leads K))
    (hr : Room k_set_names (A.deeper (envOfC "_law_set_names" (defScope s_set_names) s.heap.objs.size f cdv))) : PSs (cxOf CX0 P w K mg base N_set_names "_law_set_names" (defScope s_set_names) f cdv A outer s H E).nox (defBody s_set_names) (t_set_names K) := by
  have nd := sc_set_names.nd
  have hu := hr.units0
  have hu1 := hu_of hr
  refine QSs.up ?_
  exact (qss_cons (qs_comp (i := 3) (sc := defScope s_set_names) (N := N_set_names) (NY := ["_law_rows", "_law_names_here", "_law_params", "_law_known", "_law_more", "_law_n", "_law_left", "_law_m", "_law_kept", "_law_row"]) (js := []) (k := 1) ⟨rfl, by decide +kernel, by decide +kernel, by decide +kernel, rfl, by decide +kernel⟩ rfl rfl rfl rfl (qi_seq (qv 0)) (fun _ _ _ _ _ => (qg_name (i := 9) (show List.Nodup (["_law_rows", "_law_names_here", "_law_params", "_law_known", "_law_more", "_law_n", "_law_left", "_law_m", "_law_kept", "_law_row"] : List Str) by decide +kernel) rfl (Or.inl rfl))) (fun _ _ _ _ _ => qif_nil) (fun _ _ _ _ _ => (qe_callTy call_list_of rfl B.list_ boot_list (qa_cons (qv 1) qa_nil))) nd rfl (Or.inl rfl) rfl) (qss_cons (qs_asg (qe_callTy call_list_of rfl B.list_ boot_list (qa_cons (qv 2) qa_nil)) (qg_sub (qv 3) qe_int set_list)) (qss_cons (qs_set (i := 4) nd rfl (Or.inl rfl) qe_bl) (qss_cons (qs_while PassesOwn.never (qt_val (qv 4)) (qss_cons (qs_set (i := 4) nd rfl (Or.inl rfl) qe_bl) (qss_one (qs_for PassesOwn.never rfl (qi_range1 rfl B.range_ (qa_cons (qe_callB call_len rfl B.len_ boot_len (qa_cons (qv 0) qa_nil)) qa_nil)) (qg_name (i := 5) nd rfl (Or.inl rfl)) (qss_cons (qs_set (i := 6) nd rfl (Or.inr rfl) (qe_ix ix_seq (qv 3) (qv 5) (fun _ _ => rfl))) (qss_cons (qs_if (qt_cmpR op_in_seq (qe_ix ix_seq (qe_ix ix_seq (qv 0) (qv 5) (fun _ _ => rfl)) qe_int (fun _ _ => rfl)) (qe_tup (qa_cons qe_str (qa_cons qe_str (qa_cons qe_str qa_nil)))) rfl) (qss_one (qs_set (i := 6) nd rfl (Or.inr rfl) (qe_op op_plus (qv 6) (qe_lst (qa_cons (qe_ix ix_seq (qe_ix ix_seq (qv 0) (qv 5) (fun _ _ => rfl)) qe_int (fun _ _ => rfl)) qa_nil))))) qss_nil) (qss_one (qs_for PassesOwn.never rfl (qi_seq (qe_fn c_leads (hr.mono (by decide)) rfl (qa_cons (qv 0) (qa_cons (qv 5) qa_nil)))) (qg_name (i := 7) nd rfl (Or.inl rfl)) (qss_cons (qs_comp (i := 8) (sc := defScope s_set_names) (N := N_set_names) (NY := ["_law_rows", "_law_names_here", "_law_params", "_law_known", "_law_more", "_law_n", "_law_left", "_law_m", "_law_kept", "_law_name"]) (js := []) (k := 1) ⟨rfl, by decide +kernel, by decide +kernel, by decide +kernel, rfl, by decide +kernel⟩ rfl rfl rfl rfl (qi_seq (qe_ix ix_seq (qv 3) (qv 7) (fun _ _ => rfl))) (fun _ _ _ _ _ => (qg_name (i := 9) (show List.Nodup (["_law_rows", "_law_names_here", "_law_params", "_law_known", "_law_more", "_law_n", "_law_left", "_law_m", "_law_kept", "_law_name"] : List Str) by decide +kernel) rfl (Or.inl rfl))) (fun _ _ _ _ _ => (qif_one (qt_cmpR op_in_seq (qv 9) (qv 6) rfl))) (fun _ _ _ _ _ => (qv 9)) nd rfl (Or.inl rfl) rfl) (qss_one (qs_if (qt_cmpR op_lt (qe_callB call_len rfl B.len_ boot_len (qa_cons (qv 8) qa_nil)) (qe_callB call_len rfl B.len_ boot_len (qa_cons (qe_ix ix_seq (qv 3) (qv 7) (fun _ _ => rfl)) qa_nil)) rfl) (qss_cons (qs_asg (qv 8) (qg_sub (qv 3) (qv 7) set_list)) (qss_one (qs_set (i := 4) nd rfl (Or.inl rfl) qe_bl))) qss_nil))))))))))) (qss_one (qs_ret (qv 3)))))))
end Bg
end
section
set_option Elab.async false
set_option linter.all false
set_option maxRecDepth 100000
set_option maxHeartbeats 4000000
namespace Bg
open PySem PySem.Spec PyProof.Rows L2
theorem d_mended {P : Program} {w : World} {K : PySem.W.Frag} {mg : Str → Option Value} {base : Heap} {f : Addr} {cdv : Value} {A : Around} {outer : List Env} {s : Shared} {H : Hp} {E : XK} (B : Blt mg)  
    (hr : Room k_mended (A.deeper (envOfC "_law_mended" (defScope s_mended) s.heap.objs.size f cdv))) : PSs (cxOf CX0 P w K mg base N_mended "_law_mended" (defScope s_mended) f cdv A outer s H E).nox (defBody s_mended) (t_mended K) := by
  have nd := sc_mended.nd
  have hu := hr.units0
  have hu1 := hu_of hr
  refine QSs.up ?_
  exact (qss_cons (qs_set (i := 3) nd rfl (Or.inl rfl) (qe_op op_sub (qe_callB call_len rfl B.len_ boot_len (qa_cons (qv 0) qa_nil)) qe_int)) (qss_cons (qs_if (qt_cmpR op_notIn_seq (qe_ix ix_seq (qe_ix ix_seq (qv 0) (qv 3) (fun _ _ => rfl)) qe_int (fun _ _ => rfl)) (qe_tup (qa_cons qe_str (qa_cons qe_str qa_nil))) rfl) (qss_one (qs_asg (qe_tup (qa_cons qe_str (qa_cons qe_str qa_nil))) (qg_sub (qv 0) (qv 3) set_list))) qss_nil) (qss_cons (qs_if (QW.pt (qw_and (qt_val (qv 2)) (qw_and (qt_cmpR (op_neG hu) (qe_ix ix_seq (qe_ix ix_seq (qv 0) qe_int (fun _ _ => rfl)) qe_int (fun _ _ => rfl)) qe_str rfl) (qw_and1 (qt_cmpR op_gt (qv 3) qe_int rfl))))) (qss_one (qs_asg (qe_tup (qa_cons qe_str (qa_cons (qe_ix ix_seq (qv 1) qe_int (fun _ _ => rfl)) (qa_cons qe_int qa_nil)))) (qg_sub (qv 0) qe_int set_list))) qss_nil) (qss_cons (qs_for PassesOwn.never rfl (qi_range1 rfl B.range_ (qa_cons (qe_callB call_len rfl B.len_ boot_len (qa_cons (qv 0) qa_nil)) qa_nil)) (qg_name (i := 4) nd rfl (Or.inl rfl)) (qss_cons (qs_set (i := 5) nd rfl (Or.inl rfl) (qv 4)) (qss_cons (qs_for PassesOwn.never rfl (qi_seq (qv 0)) (qg_name (i := 6) nd rfl (Or.inl rfl)) (qss_one (qs_if (qt_cmpR (op_eqG hu) (qe_ix ix_seq (qe_ix ix_seq (qv 0) (qv 5) (fun _ _ => rfl)) qe_int (fun _ _ => rfl)) qe_str rfl) (qss_one (qs_set (i := 5) nd rfl (Or.inl rfl) (qe_ix ix_seq (qe_ix ix_seq (qv 0) (qv 5) (fun _ _ => rfl)) qe_int (fun _ _ => rfl)))) qss_nil))) (qss_one (qs_if (qt_cmpR (op_eqG hu) (qe_ix ix_seq (qe_ix ix_seq (qv 0) (qv 5) (fun _ _ => rfl)) qe_int (fun _ _ => rfl)) qe_str rfl) (qss_one (qs_asg (qe_ix ix_seq (qe_lst (qa_cons (qe_tup (qa_cons qe_str (qa_cons qe_str qa_nil))) (qa_cons (qe_tup (qa_cons qe_str (qa_cons qe_str qa_nil))) qa_nil))) (qe_callTy call_int1 rfl B.int_ boot_int (qa_cons (qe_cmpR (op_eqG hu) (qv 4) (qv 3) rfl) qa_nil)) (fun _ _ => rfl)) (qg_sub (qv 0) (qv 4) set_list))) qss_nil))))) (qss_one (qs_ret (qv 0)))))))
end Bg
end
section
set_option Elab.async false
set_option linter.all false
set_option maxRecDepth 100000
set_option maxHeartbeats 4000000
namespace Bg
open PySem PySem.Spec PyProof.Rows L2
theorem d_worth {P : Program} {w : World} {K : PySem.W.Frag} {mg : Str → Option Value} {base : Heap} {f : Addr} {cdv : Value} {A : Around} {outer : List Env} {s : Shared} {H : Hp} {E : XK} (B : Blt mg)  (c_draw : Callee P w K mg base "_law_draw" PS_draw K_draw (sp_draw K))
    (hr : Room k_worth (A.deeper (envOfC "_law_worth" (defScope s_worth) s.heap.objs.size f cdv))) : PSs (cxOf CX0 P w K mg base N_worth "_law_worth" (defScope s_worth) f cdv A outer s H E).nox (defBody s_worth) (t_worth K) := by
  have nd := sc_worth.nd
  have hu := hr.units0
  have hu1 := hu_of hr
  refine QSs.up ?_
  exact (qss_cons (qs_if (qt_cmpR (op_eqG hu) (qe_fn c_draw (hr.mono (by decide)) rfl (qa_cons (qv 0) (qa_cons qe_int qa_nil))) qe_int rfl) (qss_one (qs_ret (qe_op op_plus (qe_op op_times (qe_fn c_draw (hr.mono (by decide)) rfl (qa_cons (qv 0) (qa_cons (qe_op op_pow qe_int qe_int) qa_nil))) (qe_op op_pow qe_int qe_int)) (qe_fn c_draw (hr.mono (by decide)) rfl (qa_cons (qv 0) (qa_cons (qe_op op_pow qe_int qe_int) qa_nil)))))) qss_nil) (qss_one (qs_ret (qe_ix ix_seq (qe_lst (qa_cons qe_int (qa_cons qe_int (qa_cons (qe_op op_sub (qe_op op_sub (qe_op op_pow qe_int qe_int) qe_int) (qe_fn c_draw (hr.mono (by decide)) rfl (qa_cons (qv 0) (qa_cons qe_int qa_nil)))) (qa_cons (qe_fn c_draw (hr.mono (by decide)) rfl (qa_cons (qv 0) (qa_cons qe_int qa_nil))) qa_nil))))) (qe_fn c_draw (hr.mono (by decide)) rfl (qa_cons (qv 0) (qa_cons qe_int qa_nil))) (fun _ _ => rfl)))))
end Bg
end
section
set_option Elab.async false
set_option linter.all false
set_option maxRecDepth 100000
set_option maxHeartbeats 4000000
namespace Bg
open PySem PySem.Spec PyProof.Rows L2
theorem d_rough_row {P : Program} {w : World} {K : PySem.W.Frag} {mg : Str → Option Value} {base : Heap} {f : Addr} {cdv : Value} {A : Around} {outer : List Env} {s : Shared} {H : Hp} {E : XK} (B : Blt mg)  (c_draw : Callee P w K mg base "_law_draw" PS_draw K_draw (sp_draw K)) (c_worth : Callee P w K mg base "_law_worth" PS_worth K_worth (sp_worth K))
    (hr : Room k_rough_row (A.deeper (envOfC "_law_rough_row" (defScope s_rough_row) s.heap.objs.size f cdv))) : PSs (cxOf CX0 P w K mg base N_rough_row "_law_rough_row" (defScope s_rough_row) f cdv A outer s H E).nox (defBody s_rough_row) (t_rough_row K) := by
  have nd := sc_rough_row.nd
  have hu := hr.units0
  have hu1 := hu_of hr
  refine QSs.up ?_
  exact (qss_cons (qs_set (i := 4) nd rfl (Or.inl rfl) (qe_ix ix_seq (qv 1) (qe_fn c_draw (hr.mono (by decide)) rfl (qa_cons (qv 0) (qa_cons (qe_callB call_len rfl B.len_ boot_len (qa_cons (qv 1) qa_nil)) qa_nil))) (fun _ _ => rfl))) (qss_cons (qs_set (i := 5) nd rfl (Or.inl rfl) (qe_fn c_draw (hr.mono (by decide)) rfl (qa_cons (qv 0) (qa_cons qe_int qa_nil)))) (qss_cons (qs_if (qt_cmpR op_lt (qv 5) qe_int rfl) (qss_one (qs_ret (qe_tup (qa_cons qe_str (qa_cons (qv 4) (qa_cons (qe_fn c_worth (hr.mono (by decide)) rfl (qa_cons (qv 0) qa_nil)) qa_nil)))))) qss_nil) (qss_cons (qs_if (qt_cmpR op_lt (qv 5) qe_int rfl) (qss_one (qs_ret (qe_tup (qa_cons qe_str (qa_cons (qv 4) (qa_cons (qe_ix ix_seq qe_str (qe_fn c_draw (hr.mono (by decide)) rfl (qa_cons (qv 0) (qa_cons qe_int qa_nil))) (fun _ _ => rfl)) (qa_cons qe_str (qa_cons qe_str qa_nil)))))))) qss_nil) (qss_cons (qs_if (qt_cmpR (op_eqG hu) (qv 5) qe_int rfl) (qss_cons (qs_set (i := 6) nd rfl (Or.inl rfl) (qe_fn c_draw (hr.mono (by decide)) rfl (qa_cons (qv 0) (qa_cons (qe_callB call_len rfl B.len_ boot_len (qa_cons (qv 3) qa_nil)) qa_nil)))) (qss_one (qs_ret (qe_tup (qa_cons qe_str (qa_cons (qv 4) (qa_cons (qv 6) (qa_cons (qe_op op_times (qe_tup (qa_cons qe_str qa_nil)) (qe_ix ix_seq (qv 3) (qv 6) (fun _ _ => rfl))) qa_nil)))))))) qss_nil) (qss_cons (qs_if (qt_cmpR op_lt (qv 5) qe_int rfl) (qss_one (qs_ret (qe_tup (qa_cons qe_str (qa_cons qe_str qa_nil))))) qss_nil) (qss_cons (qs_if (qt_cmpR op_lt (qv 5) qe_int rfl) (qss_one (qs_ret (qe_tup (qa_cons qe_str (qa_cons qe_str (qa_cons (qe_fn c_draw (hr.mono (by decide)) rfl (qa_cons (qv 0) (qa_cons (qv 2) qa_nil))) qa_nil)))))) qss_nil) (qss_one (qs_ret (qe_ix ix_seq (qe_lst (qa_cons (qe_tup (qa_cons qe_str (qa_cons (qe_fn c_draw (hr.mono (by decide)) rfl (qa_cons (qv 0) (qa_cons (qv 2) qa_nil))) qa_nil))) (qa_cons (qe_tup (qa_cons qe_str (qa_cons qe_str qa_nil))) qa_nil))) (qe_op op_sub (qv 5) qe_int) (fun _ _ => rfl)))))))))))
end Bg
end
section
set_option Elab.async false
set_option linter.all false
set_option maxRecDepth 100000
set_option maxHeartbeats 4000000
namespace Bg
open PySem PySem.Spec PyProof.Rows L2
theorem d_part {P : Program} {w : World} {K : PySem.W.Frag} {mg : Str → Option Value} {base : Heap} {f : Addr} {cdv : Value} {A : Around} {outer : List Env} {s : Shared} {H : Hp} {E : XK} (B : Blt mg)  (c_filled : Callee P w K mg base "_law_filled" PS_filled K_filled (sp_filled K)) (c_set_names : Callee P w K mg base "_law_set_names" PS_set_names K_set_names (sp_set_names K)) (c_mended : Callee P w K mg base "_law_mended" PS_mended K_mended (sp_mended K)) (c_rough_row : Callee P w K mg base "_law_rough_row" PS_rough_row K_rough_row (sp_rough_row K)) (c_draw : Callee P w K mg base "_law_draw" PS_draw K_draw (sp_draw K))
    (hr : Room k_part (A.deeper (envOfC "_law_part" (defScope s_part) s.heap.objs.size f cdv))) : PSs (cxOf CX0 P w K mg base N_part "_law_part" (defScope s_part) f cdv A outer s H E).nox (defBody s_part) (t_part K) := by
  have nd := sc_part.nd
  have hu := hr.units0
  have hu1 := hu_of hr
  refine QSs.up ?_
  exact (qss_cons (qs_set (i := 6) nd rfl (Or.inr rfl) (qe_callB (call_max2 rfl) rfl B.max_ boot_max (qa_cons (qe_op op_plus qe_int (qe_callTy call_int1 rfl B.int_ boot_int (qa_cons (qe_cmpR (op_eqG hu) (qe_callB call_len rfl B.len_ boot_len (qa_cons (qv 3) qa_nil)) qe_int rfl) qa_nil))) (qa_cons (qe_op op_plus qe_int (qe_fn c_draw (hr.mono (by decide)) rfl (qa_cons (qv 0) (qa_cons (qv 5) qa_nil)))) qa_nil)))) (qss_cons (qs_comp (i := 7) (sc := defScope s_part) (N := N_part) (NY := ["_law_state", "_law_word", "_law_names_here", "_law_params", "_law_counts", "_law_most", "_law_many", "_law_rows", "_law_known", "_law_n"]) (js := []) (k := 1) ⟨rfl, by decide +kernel, by decide +kernel, by decide +kernel, rfl, by decide +kernel⟩ rfl rfl rfl rfl (qi_range1 rfl B.range_ (qa_cons (qv 6) qa_nil)) (fun _ _ _ _ _ => (qg_name (i := 9) (show List.Nodup (["_law_state", "_law_word", "_law_names_here", "_law_params", "_law_counts", "_law_most", "_law_many", "_law_rows", "_law_known", "_law_n"] : List Str) by decide +kernel) rfl (Or.inl rfl))) (fun _ _ _ _ _ => qif_nil) (fun _ _ _ _ _ => (qe_fn c_rough_row (hr.mono (by decide)) rfl (qa_cons (qv 0) (qa_cons (qv 2) (qa_cons (qv 6) (qa_cons (qv 4) qa_nil)))))) nd rfl (Or.inl rfl) rfl) (qss_cons (qs_set (i := 7) nd rfl (Or.inl rfl) (qe_fn c_mended (hr.mono (by decide)) rfl (qa_cons (qv 7) (qa_cons (qv 2) (qa_cons (qe_cmpR (op_eqG hu) (qe_callB call_len rfl B.len_ boot_len (qa_cons (qv 3) qa_nil)) qe_int rfl) qa_nil))))) (qss_cons (qs_set (i := 8) nd rfl (Or.inl rfl) (qe_fn c_set_names (hr.mono (by decide)) rfl (qa_cons (qv 7) (qa_cons (qv 2) (qa_cons (qv 3) qa_nil))))) (qss_one (qs_ret (qe_tup (qa_cons (qv 1) (qa_cons (qe_callTy call_tuple_of rfl B.tuple_ boot_tuple (qa_cons (qv 3) qa_nil)) (qa_cons (qe_fn c_filled (hr.mono (by decide)) rfl (qa_cons (qv 0) (qa_cons (qv 7) (qa_cons (qv 8) qa_nil)))) qa_nil))))))))))
end Bg
end
section
set_option Elab.async false
set_option linter.all false
set_option maxRecDepth 100000
set_option maxHeartbeats 4000000
namespace Bg
open PySem PySem.Spec PyProof.Rows L2
theorem d_names {P : Program} {w : World} {K : PySem.W.Frag} {mg : Str → Option Value} {base : Heap} {f : Addr} {cdv : Value} {A : Around} {outer : List Env} {s : Shared} {H : Hp} {E : XK} (B : Blt mg)  (c_draw : Callee P w K mg base "_law_draw" PS_draw K_draw (sp_draw K))
    (hr : Room k_names (A.deeper (envOfC "_law_names" (defScope s_names) s.heap.objs.size f cdv))) : PSs (cxOf CX0 P w K mg base N_names "_law_names" (defScope s_names) f cdv A outer s H E).nox (defBody s_names) (t_names K) := by
  have nd := sc_names.nd
  have hu := hr.units0
  have hu1 := hu_of hr
  refine QSs.up ?_
  exact (qss_cons (qs_set (i := 2) nd rfl (Or.inr rfl) qe_str) (qss_cons (qs_set (i := 3) nd rfl (Or.inl rfl) (qe_op op_plus qe_int (qe_fn c_draw (hr.mono (by decide)) rfl (qa_cons (qv 0) (qa_cons qe_int qa_nil))))) (qss_cons (qs_set (i := 4) nd rfl (Or.inl rfl) (qe_fn c_draw (hr.mono (by decide)) rfl (qa_cons (qv 0) (qa_cons (qv 3) qa_nil)))) (qss_cons (qs_set (i := 5) nd rfl (Or.inr rfl) (qe_fn c_draw (hr.mono (by decide)) rfl (qa_cons (qv 0) (qa_cons qe_int qa_nil)))) (qss_cons (qs_comp (i := 6) (sc := defScope s_names) (N := N_names) (NY := ["_law_state", "_law_many", "_law_letters", "_law_size", "_law_at", "_law_first", "_law_base", "_law_found", "_law_k", "_law_some", "_law_name", "_law_j"]) (js := []) (k := 1) ⟨rfl, by decide +kernel, by decide +kernel, by decide +kernel, rfl, by decide +kernel⟩ rfl rfl rfl rfl (qi_range1 rfl B.range_ (qa_cons (qv 3) qa_nil)) (fun _ _ _ _ _ => (qg_name (i := 11) (show List.Nodup (["_law_state", "_law_many", "_law_letters", "_law_size", "_law_at", "_law_first", "_law_base", "_law_found", "_law_k", "_law_some", "_law_name", "_law_j"] : List Str) by decide +kernel) rfl (Or.inl rfl))) (fun _ _ _ _ _ => qif_nil) (fun _ _ _ _ _ => (qe_ix ix_seq (qv 2) (qe_op op_mod (qe_op op_plus (qv 5) (qe_op op_times (qe_op op_times qe_int (qv 11)) (qe_fn c_draw (hr.mono (by decide)) rfl (qa_cons (qv 0) (qa_cons qe_int qa_nil))))) qe_int) (fun _ _ => rfl))) nd rfl (Or.inl rfl) rfl) (qss_cons (qs_set (i := 7) nd rfl (Or.inl rfl) (qe_lst qa_nil)) (qss_cons (qs_for PassesOwn.never rfl (qi_range1 rfl B.range_ (qa_cons (qv 1) qa_nil)) (qg_name (i := 8) nd rfl (Or.inl rfl)) (qss_cons (qs_set (i := 9) nd rfl (Or.inl rfl) (qe_op op_plus (qe_op op_plus (qe_slice sl_seq (qv 6) qo_none (qo_some (qv 4))) (qe_lst (qa_cons (qe_ix ix_seq (qv 2) (qe_op op_mod (qe_op op_plus (qv 5) (qe_op op_times qe_int (qv 8))) qe_int) (fun _ _ => rfl)) qa_nil))) (qe_slice sl_seq (qv 6) (qo_some (qe_op op_plus (qv 4) qe_int)) qo_none))) (qss_cons (qs_set (i := 10) nd rfl (Or.inl rfl) (qe_bm PySem.F.plainAttrs_str PySem.F.slot_str_join PySem.F.type_str_join mt_join qe_str (qa_cons (qv 9) qa_nil))) (qss_cons (qs_if (QW.pt (qw_or (qt_cmpR op_in_seq (qv 10) (qe_tup (qa_cons qe_str (qa_cons qe_str (qa_cons qe_str (qa_cons qe_str (qa_cons qe_str (qa_cons qe_str qa_nil))))))) rfl) (qw_or1 (QW.pt (qw_and (qt_cmpR op_lt (qv 3) qe_int rfl) (qw_and1 (qt_cmpR (op_eqG hu) (qe_op op_mod (qe_op op_plus (qv 3) (qv 8)) qe_int) qe_int rfl))))))) (qss_one (qs_set (i := 10) nd rfl (Or.inl rfl) (qe_op op_plus (qv 10) qe_str))) qss_nil) (qss_one (qs_expr (qe_bm PySem.F.plainAttrs_list PySem.F.slot_list_append PySem.F.type_list_append mt_append (qv 7) (qa_cons (qv 10) qa_nil)))))))) (qss_one (qs_ret (qv 7))))))))))
end Bg
end
section
set_option Elab.async false
set_option linter.all false
set_option maxRecDepth 100000
set_option maxHeartbeats 4000000
namespace Bg
open PySem PySem.Spec PyProof.Rows L2
theorem d_program {P : Program} {w : World} {K : PySem.W.Frag} {mg : Str → Option Value} {base : Heap} {f : Addr} {cdv : Value} {A : Around} {outer : List Env} {s : Shared} {H : Hp} {E : XK} (B : Blt mg)  (c_part : Callee P w K mg base "_law_part" PS_part K_part (sp_part K)) (c_draw : Callee P w K mg base "_law_draw" PS_draw K_draw (sp_draw K)) (c_names : Callee P w K mg base "_law_names" PS_names K_names (sp_names K))
    (hr : Room k_program (A.deeper (envOfC "_law_program" (defScope s_program) s.heap.objs.size f cdv))) : PSs (cxOf CX0 P w K mg base N_program "_law_program" (defScope s_program) f cdv A outer s H E).nox (defBody s_program) (t_program K) := by
  have nd := sc_program.nd
  have hu := hr.units0
  have hu1 := hu_of hr
  refine QSs.up ?_
  exact (qss_cons (qs_set (i := 2) nd rfl (Or.inl rfl) (qe_callTy call_int1 rfl B.int_ boot_int (qa_cons (qe_cmpR (op_eqG hu) (qe_op op_mod (qe_op op_fdiv (qe_callB (call_sum_int rfl) rfl B.sum_ boot_sum (qa_cons (qe_slice sl_seq (qe_ix ix_seq (qv 0) qe_int (fun _ _ => rfl)) qo_none (qo_some qe_int)) qa_nil)) qe_int) qe_int) qe_int rfl) qa_nil))) (qss_cons (qs_set (i := 3) nd rfl (Or.inl rfl) (qe_slice sl_seq (qe_fn c_names (hr.mono (by decide)) rfl (qa_cons (qv 0) (qa_cons qe_int qa_nil))) qo_none (qo_some (qe_ix ix_seq (qe_lst (qa_cons (qe_op op_plus qe_int (qe_fn c_draw (hr.mono (by decide)) rfl (qa_cons (qv 0) (qa_cons qe_int qa_nil)))) (qa_cons qe_int qa_nil))) (qv 2) (fun _ _ => rfl))))) (qss_cons (qs_set (i := 4) nd rfl (Or.inr rfl) (qe_fn c_names (hr.mono (by decide)) rfl (qa_cons (qv 0) (qa_cons (qe_op op_plus qe_int (qe_fn c_draw (hr.mono (by decide)) rfl (qa_cons (qv 0) (qa_cons qe_int qa_nil)))) qa_nil)))) (qss_cons (qs_comp (i := 5) (sc := defScope s_program) (N := N_program) (NY := ["_law_state", "_law_most", "_law_five", "_law_words", "_law_names_here", "_law_counts", "_law_found", "_law_word", "_law_many", "_law_turn", "_law_params"]) (js := [7]) (k := 0) ⟨rfl, by decide +kernel, by decide +kernel, by decide +kernel, rfl, by decide +kernel⟩ rfl rfl rfl rfl (qi_seq (qv 3)) (fun _ _ _ _ _ => (qg_name (i := 7) (show List.Nodup (["_law_state", "_law_most", "_law_five", "_law_words", "_law_names_here", "_law_counts", "_law_found", "_law_word", "_law_many", "_law_turn", "_law_params"] : List Str) by decide +kernel) rfl (Or.inl rfl))) (fun _ _ _ _ _ => qif_nil) (fun _ _ _ _ _ => (qe_fn c_draw (hr.mono (by decide)) rfl (qa_cons (qv 0) (qa_cons (qe_op op_plus (qe_callB (call_min2 rfl) rfl B.min_ boot_min (qa_cons qe_int (qa_cons (qe_callB call_len rfl B.len_ boot_len (qa_cons (qv 4) qa_nil)) qa_nil))) qe_int) qa_nil)))) nd rfl (Or.inl rfl) rfl) (qss_cons (qs_set (i := 6) nd rfl (Or.inl rfl) (qe_lst qa_nil)) (qss_cons (qs_for PassesOwn.never rfl (qi_zip rfl B.zip_ (qa_cons (qv 3) (qa_cons (qv 5) qa_nil))) (qg_tup rfl (qgs_cons (qg_name (i := 7) nd rfl (Or.inl rfl)) (qgs_cons (qg_name (i := 8) nd rfl (Or.inl rfl)) qgs_nil))) (qss_cons (qs_set (i := 9) nd rfl (Or.inl rfl) (qe_fn c_draw (hr.mono (by decide)) rfl (qa_cons (qv 0) (qa_cons (qe_callB call_len rfl B.len_ boot_len (qa_cons (qv 4) qa_nil)) qa_nil)))) (qss_cons (qs_set (i := 10) nd rfl (Or.inl rfl) (qe_slice sl_seq (qe_op op_plus (qe_slice sl_seq (qv 4) (qo_some (qv 9)) qo_none) (qe_slice sl_seq (qv 4) qo_none (qo_some (qv 9)))) qo_none (qo_some (qv 8)))) (qss_one (qs_expr (qe_bm PySem.F.plainAttrs_list PySem.F.slot_list_append PySem.F.type_list_append mt_append (qv 6) (qa_cons (qe_fn c_part (hr.mono (by decide)) rfl (qa_cons (qv 0) (qa_cons (qv 7) (qa_cons (qv 4) (qa_cons (qv 10) (qa_cons (qv 5) (qa_cons (qv 1) qa_nil))))))) qa_nil))))))) (qss_one (qs_ret (qe_callTy call_tuple_of rfl B.tuple_ boot_tuple (qa_cons (qv 6) qa_nil))))))))))
end Bg
end
section
set_option Elab.async false
set_option linter.all false
set_option maxRecDepth 100000
set_option maxHeartbeats 4000000
namespace Bg
open PySem PySem.Spec PyProof.Rows L2
theorem d_law {P : Program} {w : World} {K : PySem.W.Frag} {mg : Str → Option Value} {base : Heap} {f : Addr} {cdv : Value} {A : Around} {outer : List Env} {s : Shared} {H : Hp} {E : XK} (B : Blt mg)  (c_p_come_to : Callee P w K mg base "come_to" PS_p_come_to K_p_come_to (sp_p_come_to K)) (c_p_piece : Callee P w K mg base "piece" PS_p_piece K_p_piece (sp_p_piece K)) (c_right : Callee P w K mg base "_law_right" PS_right K_right (sp_right K)) (c_p_heads : Callee P w K mg base "heads" PS_p_heads K_p_heads (sp_p_heads K)) (c_program : Callee P w K mg base "_law_program" PS_program K_program (sp_program K))
    (hr : Room k_law (A.deeper (envOfC "law" (defScope s_law) s.heap.objs.size f cdv))) : PSs (cxOf CX0 P w K mg base N_law "law" (defScope s_law) f cdv A outer s H E).nox (defBody s_law) (t_law K) := by
  have nd := sc_law.nd
  have hu := hr.units0
  have hu1 := hu_of hr
  have hu5 := hu5_of hr
  refine QSs.up ?_
  exact (qss_cons (qs_set (i := 1) nd rfl (Or.inl rfl) (qe_lst (qa_cons (qv 0) (qa_cons qe_int (qa_cons qe_int qa_nil))))) (qss_cons (qs_set (i := 2) nd rfl (Or.inl rfl) (qe_fn c_program (hr.mono (by decide)) rfl (qa_cons (qv 1) (qa_cons qe_int qa_nil)))) (qss_cons (qs_for PassesOwn.never rfl (qi_seq (qv 2)) (qg_name (i := 3) nd rfl (Or.inl rfl)) (qss_cons (qs_set (i := 4) nd rfl (Or.inl rfl) (qe_ix ix_seq (qv 3) qe_int (fun _ _ => rfl))) (qss_cons (qs_set (i := 5) nd rfl (Or.inl rfl) (qe_fn c_p_heads (hr.mono (by decide)) rfl (qa_cons (qv 4) qa_nil))) (qss_cons (qs_set (i := 6) nd rfl (Or.inl rfl) (qe_lst qa_nil)) (qss_cons (qs_for PassesOwn.never rfl (qi_seq (qv 5)) (qg_name (i := 7) nd rfl (Or.inl rfl)) (qss_cons (qs_if (QW.pt (qw_or (qt_not (qt_val (qe_fn c_right (hr.mono (by decide)) rfl (qa_cons (qv 4) (qa_cons (qv 7) (qa_cons (qv 5) qa_nil)))))) (qw_or1 (qt_cmpR (op_neU hu5) (qe_fn c_p_piece (hr.mono (by decide)) rfl (qa_cons (qv 4) (qa_cons (qv 7) qa_nil))) (qe_fn c_p_piece (hr.mono (by decide)) rfl (qa_cons (qv 4) (qa_cons (qv 7) qa_nil))) rfl)))) (qss_one (qs_ret qe_bl)) qss_nil) (qss_one (qs_set (i := 6) nd rfl (Or.inl rfl) (qe_op op_plus (qv 6) (qe_ix ix_seq (qe_fn c_p_piece (hr.mono (by decide)) rfl (qa_cons (qv 4) (qa_cons (qv 7) qa_nil))) qe_int (fun _ _ => rfl))))))) (qss_one (qs_if (qt_cmpR (op_neU hu5) (qe_callB call_sortL rfl B.sorted_ boot_sorted (qa_cons (qv 6) qa_nil)) (qe_fn c_p_come_to (hr.mono (by decide)) rfl (qa_cons (qv 4) qa_nil)) rfl) (qss_one (qs_ret qe_bl)) qss_nil))))))) (qss_one (qs_ret qe_bl)))))
end Bg
end
section
set_option Elab.async false
set_option linter.all false
set_option maxRecDepth 100000
set_option maxHeartbeats 4000000
namespace Bg
open PySem L2
theorem r_draw_tail {K : PySem.W.Frag} {st scr : Addr} {m : Int} {k : Nat} {ns : List Int} {c : Int} {H H2 : Hp} {Q : VK} {o4 o5 : Option V} {nx : St → Hp → Prop} (hk : k ≤ 1000000) (m0 : 0 < m)
    (q : ∀ (d : Int) (H' : Hp), 0 ≤ d → d < m → Stt K H' st (k + 1) → But st H H' → Q (.int d) H') (hS : H2 st = some (.lst [.ref scr, .int ((k : Int) + 1), .int c])) (hscr : ScrAt K H2 scr ns) (hns : ns.length ≤ 63) (hB : But st H H2) :
    t_draw_5 K { nx := nx, rt := Q } [some (.ref st), some (.int m), some (.ref scr), some (.int (k : Nat)), o4, o5] H2 := by
  have e1 : (((k + 1 : Nat) : Nat) : Int) = (k : Int) + 1 := by lia
  have S2 : Stt K H2 st (k + 1) := ⟨scr, ns, c, by rw [e1]; exact hS, hscr, hns⟩
  refine ⟨_, rfl, .inl ⟨_, _, rfl, rfl, .inr ⟨by decide, by decide⟩, .inl ⟨_, _, rfl, rfl, ?_⟩⟩⟩
  have rest : ∀ z : Int, t_draw_3 K { nx := nx, rt := Q } [some (.ref st), some (.int m), some (.ref scr), some (.int (k : Nat)), o4, some (.int z)] H2 := fun z => by
    have b1 : 0 ≤ z % 2147483629 := Int.emod_nonneg _ (by decide)
    have b2 : z % 2147483629 < 2147483629 := Int.emod_lt_of_pos _ (by decide)
    refine ⟨_, rfl, _, _, rfl, rfl, (by show (0 : Int) < 2147483629; decide), _, rfl, .inl ⟨_, _, rfl, rfl, .inl ⟨_, _, rfl, rfl, .inl ⟨by lia, by lia⟩, _, _, rfl, rfl, (by show (0 : Int) < 2147483629; decide), ?_⟩⟩⟩
    generalize hy : z % 2147483629 * ((k : Int) + 3) % 2147483629 = y
    have c1 : 0 ≤ y := by rw [← hy]; exact Int.emod_nonneg _ (by decide)
    have c2 : y < 2147483629 := by rw [← hy]; exact Int.emod_lt_of_pos _ (by decide)
    refine ⟨_, rfl, _, rfl, .inl ⟨_, _, rfl, rfl, .inl ⟨by lia, by lia⟩, _, _, rfl, rfl, (by show (0 : Int) < 2147483587; decide), ?_⟩⟩
    generalize hx : y * y % 2147483587 = x
    have d1 : 0 ≤ x := by rw [← hx]; exact Int.emod_nonneg _ (by decide)
    have d2 : x < 2147483587 := by rw [← hx]; exact Int.emod_lt_of_pos _ (by decide)
    refine ⟨_, rfl, _, rfl, .inl ⟨_, _, rfl, rfl, .inl ⟨by lia, by lia⟩, _, _, rfl, rfl, (by show (0 : Int) < 1999999973; decide), _, rfl, _, _, rfl, rfl, m0, ?_⟩⟩
    exact q _ H2 (Int.emod_nonneg _ (by lia)) (Int.emod_lt_of_pos _ m0) S2 hB
  refine ⟨_, rfl, _, _, rfl, .inl ⟨_, hscr.sq, rfl⟩, _, _, rfl, rfl, _, rfl, if_dec (fun hl => ?_) (fun _ => rest _)⟩
  rw [List.length_map] at hl
  have hlp : 0 < ns.length := by lia
  refine ⟨_, rfl, _, rfl, _, rfl, .inl ⟨_, _, rfl, rfl, .inr ⟨by decide, by decide⟩, _, rfl, _, _, rfl, .inl ⟨_, hscr.sq, rfl⟩, _, _, rfl, rfl, (by rw [List.length_map]; lia), ?_⟩⟩
  have i1 : 0 ≤ (k : Int) * 7 % ((ns.map V.int).length : Nat) := Int.emod_nonneg _ (by rw [List.length_map]; lia)
  have i2 : (k : Int) * 7 % ((ns.map V.int).length : Nat) < ((ns.map V.int).length : Nat) := Int.emod_lt_of_pos _ (by rw [List.length_map]; lia)
  rw [List.length_map] at i1 i2
  have i3 : ((k : Int) * 7 % (ns.length : Nat)).toNat < ns.length := by lia
  refine ixL hscr.sq (by rw [List.length_map]; exact i1) (v := .int ns[((k : Int) * 7 % (ns.length : Nat)).toNat]) (by simp only [List.length_map]; rw [List.getElem?_map, List.getElem?_eq_getElem i3]; rfl) ?_
  exact ⟨_, rfl, .inl ⟨_, _, rfl, rfl, .inl ⟨_, _, rfl, rfl, .inr ⟨by lia, by lia⟩, .inl ⟨_, _, rfl, rfl, rest _⟩⟩⟩⟩
theorem r_draw {K : PySem.W.Frag} {vs : List V} {H : Hp} {Q : VK} {E : XK} (h : sp_draw K vs H Q E) : t_draw K { nx := fun _ H' => Q .non H', rt := Q } (start N_draw vs) H := by
  obtain ⟨st, m, k, rfl, S, hk, m0, m1, q⟩ := h
  obtain ⟨scr, ns, c, hst, hscr, hns⟩ := S
  refine ⟨_, rfl, _, rfl, .inl ⟨st, _, rfl, SqL.of hst, fun p hp => ?_⟩⟩
  refine ⟨p, _, rfl, SqL.of upd_same, rfl, _, _, rfl, _, _, rfl, rfl, ?_⟩
  have np : st ≠ p := ne_of_none hst hp
  have B1 : But st H (upd H p (.lst (cutV [V.ref scr, V.int (k : Nat), V.int c] none (some 2)))) := (But.refl st H).new hp
  have h1 : (upd H p (.lst (cutV [V.ref scr, V.int (k : Nat), V.int c] none (some 2)))) st = some (.lst [.ref scr, .int (k : Nat), .int c]) := by rw [upd_ne np]; exact hst
  have s1 : ScrAt K (upd H p (.lst (cutV [V.ref scr, V.int (k : Nat), V.int c] none (some 2)))) scr ns := hscr.mono (.of_but B1 hst)
  generalize upd H p (.lst (cutV [V.ref scr, V.int (k : Nat), V.int c] none (some 2))) = H1 at B1 h1 s1 ⊢
  refine ⟨_, rfl, .inl ⟨_, _, rfl, rfl, _, rfl, setL h1 (by decide) (by show 1 < 3; decide) ?_⟩⟩
  have B2 : But st H (upd H1 st (.lst [.ref scr, .int ((k : Int) + 1), .int c])) := B1.trans .upd_at
  have h2 : (upd H1 st (.lst [.ref scr, .int ((k : Int) + 1), .int c])) st = some (.lst [.ref scr, .int ((k : Int) + 1), .int c]) := upd_same
  have s2 : ScrAt K (upd H1 st (.lst [.ref scr, .int ((k : Int) + 1), .int c])) scr ns := s1.mono (.of_but .upd_at h1)
  show t_draw_8 K _ [some (.ref st), some (.int m), some (.ref scr), some (.int (k : Nat)), none, none] (upd H1 st (.lst [.ref scr, .int ((k : Int) + 1), .int c]))
  generalize upd H1 st (.lst [.ref scr, .int ((k : Int) + 1), .int c]) = H2 at B2 h2 s2 ⊢
  have tail := @r_draw_tail K st scr m k ns c H H2 Q none none (fun _ H' => Q .non H') hk m0 q h2 s2 hns B2
  have dig : ∀ (c' : Int) (H3 : Hp), H3 st = some (.lst [.ref scr, .int ((k : Int) + 1), .int c']) → ScrAt K H3 scr ns → But st H H3 →
      t_draw_7 K { nx := t_draw_5 K { nx := fun _ H' => Q .non H', rt := Q }, rt := Q } [some (.ref st), some (.int m), some (.ref scr), some (.int (k : Nat)), none, none] H3 := fun c' H3 h3 s3 B3 => by
    refine ⟨_, rfl, ixL (SqL.of h3) (by decide) rfl ?_⟩
    refine ⟨_, rfl, (by show 2 ≤ sizeLine; decide), fun t ht => ⟨t, _, rfl, .inr (SqT.of upd_same), rfl, rfl, _, rfl, ?_⟩⟩
    have n3 : st ≠ t := ne_of_none h3 ht
    have B4 : But st H (upd H3 t (.tup [.int 0, .int (-1)])) := B3.new ht
    have h4 : (upd H3 t (.tup [.int 0, .int (-1)])) st = some (.lst [.ref scr, .int ((k : Int) + 1), .int c']) := by rw [upd_ne n3]; exact h3
    have s4 : ScrAt K (upd H3 t (.tup [.int 0, .int (-1)])) scr ns := s3.mono (.of_same ((Same.refl H3).new ht))
    refine if_bl (fun _ => ?_) (fun _ => ?_)
    · -- _law_state[2], _law_digit = divmod(_law_state[2], _law_many)
      refine ⟨_, rfl, .inl ⟨st, _, _, _, rfl, rfl, SqL.of h4, atI_of (by decide) rfl, _, rfl, _, _, rfl, ⟨m0, m1⟩, fun p2 hp2 => ?_⟩⟩
      have n4 : st ≠ p2 := ne_of_none h4 hp2
      refine ⟨p2, _, rfl, SqT.of upd_same, rfl, _, _, rfl, _, rfl, setL (by rw [upd_ne n4]; exact h4) (by decide) (by show 2 < 3; decide) ?_⟩
      refine ⟨_, _, rfl, rfl, _, rfl, ?_⟩
      have B5 := (B4.new (o := .tup [.int (c' / m), .int (c' % m)]) hp2)
      have s5 : ScrAt K (upd (upd H3 t (.tup [.int 0, .int (-1)])) p2 (.tup [.int (c' / m), .int (c' % m)])) scr ns := s4.mono (.of_same ((Same.refl _).new hp2))
      have h5 : (upd (upd H3 t (.tup [.int 0, .int (-1)])) p2 (.tup [.int (c' / m), .int (c' % m)])) st = some (.lst [.ref scr, .int ((k : Int) + 1), .int c']) := by rw [upd_ne n4]; exact h4
      refine q _ _ (Int.emod_nonneg _ (by lia)) (Int.emod_lt_of_pos _ m0) ⟨scr, ns, c' / m, ?_, s5.mono (.of_but .upd_at h5), hns⟩ (B5.trans .upd_at)
      have e1 : (((k + 1 : Nat) : Nat) : Int) = (k : Int) + 1 := by lia
      rw [upd_same, e1]
      rfl
    · exact r_draw_tail hk m0 q h4 s4 hns B4
  have e1 : (((k + 1 : Nat) : Nat) : Int) = (k : Int) + 1 := by lia
  have elif : tIfS (tTest (tOp rLt2 (tVar 3) (tCB (rLen K) (tCons (tVar 2) tNil)))) (tRet (tOp rMod2 (tOp (rIx K) (tVar 2) (tVar 3)) (tVar 1))) tNext
      { nx := t_draw_5 K { nx := fun _ H' => Q V.non H', rt := Q }, rt := Q } [some (V.ref st), some (V.int m), some (V.ref scr), some (V.int (k : Nat)), none, none] H2 := by
    refine ⟨_, rfl, _, rfl, _, _, rfl, .inl ⟨_, s2.sq, rfl⟩, _, _, rfl, rfl, _, rfl, if_dec (fun hlt => ?_) (fun _ => tail)⟩
    rw [List.length_map] at hlt
    have j2 : ((k : Nat) : Int).toNat < ns.length := by lia
    refine ⟨_, rfl, _, rfl, ixL s2.sq (by lia) (v := .int ns[((k : Nat) : Int).toNat]) (by rw [List.getElem?_map, List.getElem?_eq_getElem j2]; rfl) ?_⟩
    refine ⟨_, rfl, _, _, rfl, rfl, m0, ?_⟩
    exact q _ H2 (Int.emod_nonneg _ (by lia)) (Int.emod_lt_of_pos _ m0) ⟨scr, ns, c, by rw [e1]; exact h2, s2, hns⟩ B2
  refine ⟨_, rfl, _, _, rfl, rfl, ⟨by decide, by decide⟩, .inl ⟨_, _, rfl, rfl, _, rfl, _, _, rfl, .inl ⟨_, s2.sq, rfl⟩, _, _, rfl, rfl, _, rfl, if_dec (fun hlt => ?_) (fun _ => ?_)⟩⟩
  · rw [List.length_map] at hlt
    have hlp : 0 < ns.length := by lia
    have i0 : (ns.map V.int)[(0 : Int).toNat]? = some (.int ns[0]) := by
      show (ns.map V.int)[0]? = _
      rw [List.getElem?_map, List.getElem?_eq_getElem hlp]; rfl
    refine ⟨_, rfl, ixL s2.sq (by decide) i0 ⟨_, _, rfl, rfl, (by show (0 : Int) < 2; decide), .inl ⟨rfl, _, rfl, if_dec (fun _ => ?_) (fun _ => ?_)⟩⟩⟩
    · -- if _law_k % 12 == 0
      refine ⟨_, rfl, _, _, rfl, rfl, (by show (0 : Int) < 12; decide), .inl ⟨rfl, _, rfl, if_dec (fun _ => ?_) (fun _ => dig c H2 h2 s2 B2)⟩⟩
      have j2 : ((k : Int) / 12 + 1).toNat < ns.length := by lia
      refine ⟨_, rfl, _, rfl, _, _, rfl, rfl, ⟨by decide, by decide⟩, .inl ⟨_, _, rfl, rfl, ixL s2.sq (by lia) (v := .int ns[((k : Int) / 12 + 1).toNat]) (by rw [List.getElem?_map, List.getElem?_eq_getElem j2]; rfl) ?_⟩⟩
      refine ⟨_, rfl, setL h2 (by decide) (by show 2 < 3; decide) ?_⟩
      exact dig _ _ upd_same (s2.mono (.of_but .upd_at h2)) (B2.trans .upd_at)
    · exact elif
  · exact iteF elif
end Bg
end
section
set_option Elab.async false
set_option linter.all false
set_option maxRecDepth 100000
set_option maxHeartbeats 4000000
namespace Bg
open PySem L2
theorem r_worth {K : PySem.W.Frag} {vs : List V} {H : Hp} {Q : VK} {E : XK} (h : sp_worth K vs H Q E) : t_worth K { nx := fun _ H' => Q .non H', rt := Q } (start N_worth vs) H := by
  obtain ⟨st, k, rfl, S, hk, q⟩ := h
  have e31 : (2 : Int) ^ Int.toNat 31 = 2147483648 := by decide
  have e33 : (2 : Int) ^ Int.toNat 33 = 8589934592 := by decide
  have e64 : (2 : Int) ^ Int.toNat 64 = 18446744073709551616 := by decide
  have f64 : (2 : Int) ^ 64 = 18446744073709551616 := by decide
  refine ⟨_, rfl, st, 2, k, rfl, S, by lia, by decide, by decide, fun d H1 d0 d1 S1 B1 => ?_⟩
  refine .inl ⟨rfl, _, rfl, if_dec (fun _ => ?_) (fun _ => ?_)⟩
  · refine ⟨_, rfl, _, _, rfl, rfl, ⟨by decide, by decide, by decide⟩, st, _, k + 1, rfl, S1, by lia, by rw [e31]; decide, by rw [e31]; decide, fun d2 H2 a0 a1 S2 B2 => ?_⟩
    rw [e31] at a1
    refine ⟨_, _, rfl, rfl, ⟨by decide, by decide, by decide⟩, .inl ⟨_, _, rfl, rfl, .inl ⟨by lia, by lia⟩, ?_⟩⟩
    refine ⟨_, rfl, _, _, rfl, rfl, ⟨by decide, by decide, by decide⟩, st, _, k + 2, rfl, S2, by lia, by rw [e31]; decide, by rw [e31]; decide, fun d3 H3 b0 b1 S3 B3 => ?_⟩
    rw [e31] at b1
    refine .inl ⟨_, _, rfl, rfl, q _ _ H3 ?_ ?_ S3 (by lia) ((B1.trans B2).trans B3)⟩
    · show 0 ≤ d2 * (2 : Int) ^ Int.toNat 33 + d3
      rw [e33]; lia
    · show d2 * (2 : Int) ^ Int.toNat 33 + d3 < 2 ^ 64
      rw [e33, f64]; lia
  · refine ⟨_, _, rfl, rfl, ⟨by decide, by decide, by decide⟩, _, _, rfl, rfl, _, rfl, st, 3, k + 1, rfl, S1, by lia, by decide, by decide, fun d2 H2 a0 a1 S2 B2 => ?_⟩
    refine ⟨_, _, rfl, rfl, _, rfl, st, 12, k + 2, rfl, S2, by lia, by decide, by decide, fun d3 H3 b0 b1 S3 B3 => ?_⟩
    refine ⟨(by show 4 ≤ sizeLine; decide), fun l hl => ?_⟩
    refine ⟨_, rfl, st, 4, k + 3, rfl, S3.new hl, by lia, by decide, by decide, fun d4 H4 c0 c1 S4 B4 => ?_⟩
    obtain ⟨ys, hys⟩ := S3.lst
    have nl : l ≠ st := fun z => by rw [z, hys] at hl; cases hl
    have h4 := B4 l _ nl upd_same
    have B5 : But st H H4 := (((B1.trans B2).trans B3).new hl).trans B4
    have fin : ∀ z : Int, 0 ≤ z → z < 2 ^ 64 → Q (.int z) H4 := fun z z0 z1 => q z _ H4 z0 z1 S4 (by lia) B5
    rcases (by lia : d4 = 0 ∨ d4 = 1 ∨ d4 = 2 ∨ d4 = 3) with rfl | rfl | rfl | rfl
    · exact ixL (SqL.of h4) (by decide) rfl (fin _ (by decide) (by decide))
    · exact ixL (SqL.of h4) (by decide) rfl (fin _ (by decide) (by decide))
    · refine ixL (SqL.of h4) (by decide) rfl (fin _ ?_ ?_)
      · show 0 ≤ (2 : Int) ^ Int.toNat 64 - 1 - d2
        rw [e64]; lia
      · show (2 : Int) ^ Int.toNat 64 - 1 - d2 < 2 ^ 64
        rw [e64, f64]; lia
    · exact ixL (SqL.of h4) (by decide) rfl (fin _ (by lia) (by lia))
end Bg
end
section
set_option Elab.async false
set_option linter.all false
set_option maxRecDepth 100000
set_option maxHeartbeats 4000000
namespace Bg
open PySem L2
theorem ixLT {K : PySem.W.Frag} {p : Addr} {xs : List V} {i : Int} {v : V} {H : Hp} {Q : VK} (h : H p = some (.lst xs) ∨ H p = some (.tup xs)) (h0 : 0 ≤ i) (e : xs[i.toNat]? = some v) (q : Q v H) : rIx K (.ref p) (.int i) H Q := by
  rcases h with h | h
  · exact ixL (SqL.of h) h0 e q
  · exact ixT h h0 e q
theorem r_leads {K : PySem.W.Frag} {vs : List V} {H : Hp} {Q : VK} {E : XK} (h : sp_leads K vs H Q E) : t_leads K { nx := fun _ H' => Q .non H', rt := Q } (start N_leads vs) H := by
  obtain ⟨rt, n, rvs, v, r, rfl, hrt, hv, hr, q⟩ := h
  have hn : rvs[((n : Nat) : Int).toNat]? = some v := by simpa using hv
  have n0 : (0 : Int) ≤ ((n : Nat) : Int) := by lia
  have e1 : (((n + 1 : Nat) : Nat) : Int) = (n : Int) + 1 := by lia
  cases r with
  | num x z =>
    obtain ⟨p, rfl, h⟩ := hr
    refine ⟨_, rfl, _, rfl, ixLT hrt n0 hn (ixT h (by decide) rfl (.inl ⟨rfl, _, rfl, no (by decide +kernel) ?_⟩))⟩
    refine ⟨_, rfl, _, rfl, ixLT hrt n0 hn (ixT h (by decide) rfl (.inl ⟨rfl, _, rfl, no (by decide +kernel) ?_⟩))⟩
    refine ⟨_, rfl, _, rfl, ixLT hrt n0 hn (ixT h (by decide) rfl (.inl ⟨rfl, _, rfl, no (by decide +kernel) ?_⟩))⟩
    exact ⟨_, rfl, .inl ⟨_, _, rfl, rfl, ⟨(by show 1 ≤ sizeLine; decide), fun t ht => (by have z := q t ht; unfold intsV leadsL at z; simp only [List.map_cons, List.map_nil, e1] at z; exact z)⟩⟩⟩
  | op x s a b =>
    obtain ⟨p, rfl, h⟩ := hr
    refine ⟨_, rfl, _, rfl, ixLT hrt n0 hn (ixT h (by decide) rfl (.inl ⟨rfl, _, rfl, no (by decide +kernel) ?_⟩))⟩
    refine ⟨_, rfl, _, rfl, ixLT hrt n0 hn (ixT h (by decide) rfl (.inl ⟨rfl, _, rfl, no (by decide +kernel) ?_⟩))⟩
    refine ⟨_, rfl, _, rfl, ixLT hrt n0 hn (ixT h (by decide) rfl (.inl ⟨rfl, _, rfl, no (by decide +kernel) ?_⟩))⟩
    exact ⟨_, rfl, .inl ⟨_, _, rfl, rfl, ⟨(by show 1 ≤ sizeLine; decide), fun t ht => (by have z := q t ht; unfold intsV leadsL at z; simp only [List.map_cons, List.map_nil, e1] at z; exact z)⟩⟩⟩
  | call x k as =>
    obtain ⟨p, q1, rfl, h, h1⟩ := hr
    refine ⟨_, rfl, _, rfl, ixLT hrt n0 hn (ixT h (by decide) rfl (.inl ⟨rfl, _, rfl, no (by decide +kernel) ?_⟩))⟩
    refine ⟨_, rfl, _, rfl, ixLT hrt n0 hn (ixT h (by decide) rfl (.inl ⟨rfl, _, rfl, no (by decide +kernel) ?_⟩))⟩
    refine ⟨_, rfl, _, rfl, ixLT hrt n0 hn (ixT h (by decide) rfl (.inl ⟨rfl, _, rfl, no (by decide +kernel) ?_⟩))⟩
    exact ⟨_, rfl, .inl ⟨_, _, rfl, rfl, ⟨(by show 1 ≤ sizeLine; decide), fun t ht => (by have z := q t ht; unfold intsV leadsL at z; simp only [List.map_cons, List.map_nil, e1] at z; exact z)⟩⟩⟩
  | say a =>
    obtain ⟨p, rfl, h⟩ := hr
    refine ⟨_, rfl, _, rfl, ixLT hrt n0 hn (ixT h (by decide) rfl (.inl ⟨rfl, _, rfl, no (by decide +kernel) ?_⟩))⟩
    refine ⟨_, rfl, _, rfl, ixLT hrt n0 hn (ixT h (by decide) rfl (.inl ⟨rfl, _, rfl, no (by decide +kernel) ?_⟩))⟩
    refine ⟨_, rfl, _, rfl, ixLT hrt n0 hn (ixT h (by decide) rfl (.inl ⟨rfl, _, rfl, no (by decide +kernel) ?_⟩))⟩
    exact ⟨_, rfl, .inl ⟨_, _, rfl, rfl, ⟨(by show 1 ≤ sizeLine; decide), fun t ht => (by have z := q t ht; unfold intsV leadsL at z; simp only [List.map_cons, List.map_nil, e1] at z; exact z)⟩⟩⟩
  | jump to =>
    obtain ⟨p, rfl, h⟩ := hr
    refine ⟨_, rfl, _, rfl, ixLT hrt n0 hn (ixT h (by decide) rfl (.inl ⟨rfl, _, rfl, yes ?_⟩))⟩
    exact ⟨_, rfl, _, rfl, ixLT hrt n0 hn (ixT h (by decide) rfl ⟨(by show 1 ≤ sizeLine; decide), fun t ht => (by have z := q t ht; unfold intsV leadsL at z; simp only [List.map_cons, List.map_nil, e1] at z; exact z)⟩)⟩
  | test a to =>
    obtain ⟨p, rfl, h⟩ := hr
    refine ⟨_, rfl, _, rfl, ixLT hrt n0 hn (ixT h (by decide) rfl (.inl ⟨rfl, _, rfl, no (by decide +kernel) ?_⟩))⟩
    refine ⟨_, rfl, _, rfl, ixLT hrt n0 hn (ixT h (by decide) rfl (.inl ⟨rfl, _, rfl, yes ?_⟩))⟩
    exact ⟨_, rfl, .inl ⟨_, _, rfl, rfl, ⟨_, rfl, _, rfl, ixLT hrt n0 hn (ixT h (by decide) rfl ⟨(by show 2 ≤ sizeLine; decide), fun t ht => (by have z := q t ht; unfold intsV leadsL at z; simp only [List.map_cons, List.map_nil, e1] at z; exact z)⟩)⟩⟩⟩
  | give a =>
    obtain ⟨p, rfl, h⟩ := hr
    refine ⟨_, rfl, _, rfl, ixLT hrt n0 hn (ixT h (by decide) rfl (.inl ⟨rfl, _, rfl, no (by decide +kernel) ?_⟩))⟩
    refine ⟨_, rfl, _, rfl, ixLT hrt n0 hn (ixT h (by decide) rfl (.inl ⟨rfl, _, rfl, no (by decide +kernel) ?_⟩))⟩
    refine ⟨_, rfl, _, rfl, ixLT hrt n0 hn (ixT h (by decide) rfl (.inl ⟨rfl, _, rfl, yes ?_⟩))⟩
    exact ⟨(by show 0 ≤ sizeLine; decide), fun t ht => (by have z := q t ht; unfold intsV leadsL at z; simp only [List.map_cons, List.map_nil, e1] at z; exact z)⟩
end Bg
end
section
set_option Elab.async false
set_option linter.all false
set_option maxRecDepth 100000
set_option maxHeartbeats 4000000
namespace Bg
open PySem L2
theorem flat_rep (c : Nat) : (List.replicate c [V.str ""]).flatten = (List.replicate c ("" : Str)).map V.str := by
  induction c with
  | zero => rfl
  | succ c ih => rw [List.replicate_succ, List.flatten_cons, ih, List.replicate_succ, List.map_cons]; rfl
theorem sign_at : ∀ i : Nat, i < 5 → ∃ c, ("+-*<=" : Str).cps.toList[i]? = some c ∧ (⟨#[c]⟩ : Str) ∈ signs
  | 0, _ => ⟨43, by decide +kernel, by decide +kernel⟩
  | 1, _ => ⟨45, by decide +kernel, by decide +kernel⟩
  | 2, _ => ⟨42, by decide +kernel, by decide +kernel⟩
  | 3, _ => ⟨60, by decide +kernel, by decide +kernel⟩
  | 4, _ => ⟨61, by decide +kernel, by decide +kernel⟩
  | n + 5, h => by lia
theorem r_rough_row {K : PySem.W.Frag} {vs : List V} {H : Hp} {Q : VK} {E : XK} (h : sp_rough_row K vs H Q E) : t_rough_row K { nx := fun _ H' => Q .non H', rt := Q } (start N_rough_row vs) H := by
  obtain ⟨st, nm, cn, n, k, ys, cs, rfl, S, hk, hnm, ysne, ysl, n1, n2, hcn, csne, csl, cs4, nnm, ncn, q⟩ := h
  have yl : 0 < ys.length := List.length_pos_iff.mpr ysne
  have cl : 0 < cs.length := List.length_pos_iff.mpr csne
  refine ⟨_, rfl, _, rfl, _, rfl, _, _, rfl, .inl ⟨_, SqL.of hnm, rfl⟩, st, _, k, rfl, S, by lia, by rw [List.length_map]; lia, by rw [List.length_map]; lia, fun d H1 d0 d1 S1 B1 => ?_⟩
  rw [List.length_map] at d1
  have dl : d.toNat < ys.length := by lia
  refine ixL (SqL.of (B1 nm _ nnm hnm)) d0 (strs_get (List.getElem?_eq_getElem dl)) ?_
  have hx : ys[d.toNat] ∈ ys := List.getElem_mem dl
  generalize ys[d.toNat] = x at hx ⊢
  refine ⟨_, rfl, st, 12, k + 1, rfl, S1, by lia, by decide, by decide, fun s H2 s0 s1 S2 B2' => ?_⟩
  have B2 : But st H H2 := B1.trans B2'
  have hcn2 := B2 cn _ ncn hcn
  refine ⟨_, rfl, _, _, rfl, rfl, _, rfl, if_dec (fun _ => ?_) (fun hs2 => ?_)⟩
  · refine ⟨_, rfl, _, rfl, st, k + 2, rfl, S2, by lia, fun z k3 H3 z0 z1 S3 l3 B3 => ⟨(by show 3 ≤ sizeLine; decide), fun p hp => ?_⟩⟩
    exact q _ (.num x z) _ _ ⟨p, rfl, upd_same⟩ ⟨hx, z0, z1⟩ (S3.new hp) (by lia) ((B2.trans B3).new hp)
  refine ⟨_, rfl, _, _, rfl, rfl, _, rfl, if_dec (fun _ => ?_) (fun hs6 => ?_)⟩
  · refine ⟨_, rfl, _, rfl, st, 5, k + 2, rfl, S2, by lia, by decide, by decide, fun e H3 e0 e1 S3 B3 => ?_⟩
    obtain ⟨c, c1, c2⟩ := sign_at e.toNat (by lia)
    refine ixS (by decide +kernel) e0 c1 ⟨(by show 5 ≤ sizeLine; decide), fun p hp => ?_⟩
    exact q _ (.op x ⟨#[c]⟩ "" "") _ _ ⟨p, rfl, upd_same⟩ ⟨hx, c2, rfl, rfl⟩ (S3.new hp) (by lia) ((B2.trans B3).new hp)
  refine ⟨_, rfl, .inl ⟨rfl, _, rfl, if_dec (fun _ => ?_) (fun _ => ?_)⟩⟩
  · refine ⟨_, rfl, _, rfl, _, _, rfl, .inl ⟨_, SqL.of hcn2, rfl⟩, st, _, k + 2, rfl, S2, by lia, by rw [intsV_len]; lia, by rw [intsV_len]; lia, fun e H3 e0 e1 S3 B3 => ?_⟩
    rw [intsV_len] at e1
    obtain ⟨j, rfl⟩ : ∃ j : Nat, e = (j : Int) := ⟨e.toNat, by lia⟩
    have jl : j < cs.length := by lia
    have hcn3 := B3 cn _ ncn hcn2
    have cj : cs[j]? = some cs[j] := List.getElem?_eq_getElem jl
    have c4 : cs[j] ≤ 4 := cs4 _ (List.getElem_mem jl)
    generalize cs[j] = c at cj c4
    refine ⟨_, rfl, _, rfl, (by show 1 ≤ sizeLine; decide), fun p1 hp1 => ?_⟩
    have nc1 : cn ≠ p1 := ne_of_none hcn3 hp1
    refine ⟨_, rfl, _, rfl, ixL (SqL.of (by rw [upd_ne nc1]; exact hcn3)) (by lia) (v := .int (c : Nat)) (by simpa using intsV_get cj) ?_⟩
    have S4 := S3.new (o := .tup [V.str ""]) hp1
    have B4 := (B2.trans B3).new (o := .tup [V.str ""]) hp1
    have c5 : 1 * c ≤ sizeLine := Nat.le_trans (by lia) (show 100 ≤ sizeLine by decide)
    refine .inr ⟨p1, c, [V.str ""], rfl, rfl, SqT.of upd_same, by simp, c5, fun h1 => ⟨(by show 4 ≤ sizeLine; decide), fun p hp => ?_⟩, fun hne p2 hp2 => ⟨(by show 4 ≤ sizeLine; decide), fun p hp => ?_⟩⟩
    · have n1p : p1 ≠ p := ne_of_none upd_same hp
      subst h1
      refine q _ (.call x j [""]) _ _ ⟨p, p1, rfl, upd_same, by rw [upd_ne n1p, upd_same]; rfl⟩ ⟨hx, 1, cj, rfl⟩ (S4.new hp) (by lia) (B4.new hp)
    · have n2p : p2 ≠ p := ne_of_none upd_same hp
      refine q _ (.call x j (List.replicate c "")) _ _ ⟨p, p2, rfl, upd_same, by rw [upd_ne n2p, upd_same, flat_rep]⟩ ⟨hx, c, cj, rfl⟩ ((S4.new hp2).new hp) (by lia) ((B4.new hp2).new hp)
  refine ⟨_, rfl, _, _, rfl, rfl, _, rfl, if_dec (fun _ => ?_) (fun hs8 => ?_)⟩
  · exact ⟨(by show 2 ≤ sizeLine; decide), fun p hp => q _ (.say "") _ _ ⟨p, rfl, upd_same⟩ rfl (S2.new hp) (by lia) (B2.new hp)⟩
  refine ⟨_, rfl, _, _, rfl, rfl, _, rfl, if_dec (fun _ => ?_) (fun hs10 => ?_)⟩
  · refine ⟨_, rfl, _, rfl, st, _, k + 2, rfl, S2, by lia, by lia, by lia, fun e H3 e0 e1 S3 B3 => ⟨(by show 3 ≤ sizeLine; decide), fun p hp => ?_⟩⟩
    obtain ⟨j, rfl⟩ : ∃ j : Nat, e = (j : Int) := ⟨e.toNat, by lia⟩
    exact q _ (.test "" j) _ _ ⟨p, rfl, upd_same⟩ ⟨rfl, by lia⟩ (S3.new hp) (by lia) ((B2.trans B3).new hp)
  refine ⟨_, rfl, _, rfl, st, _, k + 2, rfl, S2, by lia, by lia, by lia, fun e H3 e0 e1 S3 B3 => ⟨(by show 2 ≤ sizeLine; decide), fun p hp => ?_⟩⟩
  obtain ⟨j, rfl⟩ : ∃ j : Nat, e = (j : Int) := ⟨e.toNat, by lia⟩
  refine ⟨(by show 2 ≤ sizeLine; decide), fun p2 hp2 => ⟨(by show 2 ≤ sizeLine; decide), fun l hl => ?_⟩⟩
  have n12 : p ≠ p2 := ne_of_none upd_same hp2
  have n2l : p2 ≠ l := ne_of_none upd_same hl
  have n1l : p ≠ l := ne_of_none (by rw [upd_ne n12]; exact upd_same) hl
  have S4 := ((S3.new (o := .tup [V.str "jump", V.int (j : Nat)]) hp).new (o := .tup [V.str "give", V.str ""]) hp2).new (o := .lst [V.ref p, V.ref p2]) hl
  have B4 := (((B2.trans B3).new (o := .tup [V.str "jump", V.int (j : Nat)]) hp).new (o := .tup [V.str "give", V.str ""]) hp2).new (o := .lst [V.ref p, V.ref p2]) hl
  refine ⟨_, rfl, _, _, rfl, rfl, ?_⟩
  rcases (by lia : s = 10 ∨ s = 11) with rfl | rfl
  · exact ixL (SqL.of upd_same) (by decide) rfl (q _ (.jump j) _ _ ⟨p, rfl, by rw [upd_ne n1l, upd_ne n12, upd_same]⟩ (by show j < n; lia) S4 (by lia) B4)
  · exact ixL (SqL.of upd_same) (by decide) rfl (q _ (.give "") _ _ ⟨p2, rfl, by rw [upd_ne n2l, upd_same]⟩ rfl S4 (by lia) B4)
end Bg
end
section
set_option Elab.async false
set_option linter.all false
set_option maxRecDepth 100000
set_option maxHeartbeats 4000000
namespace Bg
open PySem L2
def PrP (st nm cn fd wl : Addr) (m : Nat) (f : Int) (ws ys : List Str) (cs : List Nat) (H : Hp) (K : PySem.W.Frag) (k i : Nat) : St → Hp → Prop := fun σ' H' => ∃ (pvs : List V) (bs : List BPart) (k' : Nat) (o7 o8 o9 o10 : Option V), σ' = [some (.ref st), some (.int (m : Nat)), some (.int f), some (.ref wl), some (.ref nm), some (.ref cn), some (.ref fd), o7, o8, o9, o10] ∧
  H' fd = some (.lst pvs) ∧ AllAt (PartAt H') pvs bs ∧ bs.length = i ∧ (∀ b ∈ bs, PartOk ys cs b ∧ b.rows.length ≤ m + 1) ∧ bs.map (·.name) = ws.take i ∧ bs.map (·.params.length) = cs.take i ∧ Stt K H' st k' ∧ k' ≤ k + 1001 * i ∧ Bt2 st fd H H'
theorem r_program {K : PySem.W.Frag} {vs : List V} {H : Hp} {Q : VK} {E : XK} (h : sp_program K vs H Q E) : t_program K { nx := fun _ H' => Q .non H', rt := Q } (start N_program vs) H := by
  obtain ⟨st, m, k, rfl, S, hk, m1, m50, q⟩ := h
  obtain ⟨scr, ns, c, hst, hscr, hns⟩ := id S
  refine ⟨_, rfl, ixL (SqL.of hst) (by decide) rfl ⟨_, rfl, .inl ⟨scr, _, rfl, hscr.sq, fun p hp => ?_⟩⟩⟩
  rw [show ((1 : Int)) = ((1 : Nat) : Int) from rfl, cut_take, ← List.map_take]
  refine ⟨p, ns.take 1, rfl, SqL.of upd_same, fun z => ⟨_, _, rfl, rfl, ⟨by decide, by decide⟩, _, _, rfl, rfl, (by show (0 : Int) < 16; decide), .inl ⟨rfl, .inr ⟨_, rfl, ?_⟩⟩⟩⟩
  have S1 := S.new (o := .lst ((ns.take 1).map V.int)) hp
  have B1 := (But.refl st H).new (o := .lst ((ns.take 1).map V.int)) hp
  generalize upd H p (.lst ((ns.take 1).map V.int)) = H1 at S1 B1 ⊢
  obtain ⟨f, hf, f01⟩ : ∃ f : Int, (if decide (V.int (z / 4 % 16) = V.int 5) = true then (1 : Int) else 0) = f ∧ (f = 0 ∨ f = 1) := by
    cases decide (V.int (z / 4 % 16) = V.int 5) with
    | true => exact ⟨1, rfl, .inr rfl⟩
    | false => exact ⟨0, rfl, .inl rfl⟩
  rw [hf]
  show t_program_9 K _ [some (.ref st), some (.int (m : Nat)), some (.int f), none, none, none, none, none, none, none, none] H1
  refine ⟨_, rfl, st, 5, k, rfl, S1, by lia, by decide, fun l ws k1 H2 hl wl wnd wok h2 S2 l2 B2 => ?_⟩
  have nl : l ≠ st := fun z => by obtain ⟨_, e⟩ := S1.lst; rw [z, e] at hl; cases hl
  refine ⟨_, rfl, st, 3, k1, rfl, S2, by lia, by decide, by decide, fun d H3 d0 d1 S3 B3 => .inl ⟨_, _, rfl, rfl, (by show 2 ≤ sizeLine; decide), fun l4 hl4 => ?_⟩⟩
  have h3 := B3 l _ nl h2
  have S4 := S3.new (o := .lst [V.int (1 + d), V.int 5]) hl4
  have B4 := (((B1.trans B2).trans B3).new (o := .lst [V.int (1 + d), V.int 5]) hl4)
  have h4 : (upd H3 l4 (.lst [V.int (1 + d), V.int 5])) l = some (.lst (ws.map V.str)) := by rw [upd_ne (ne_of_none h3 hl4)]; exact h3
  have g4 : (upd H3 l4 (.lst [V.int (1 + d), V.int 5])) l4 = some (.lst [V.int (1 + d), V.int 5]) := upd_same
  have words : ∀ c5 : Nat, 1 ≤ c5 → c5 ≤ 5 → rSl K (V.ref l) none (some (c5 : Int)) (upd H3 l4 (.lst [V.int (1 + d), V.int 5])) fun x H1 => t_program_8 K { nx := fun _ H' => Q .non H', rt := Q } [some (.ref st), some (.int (m : Nat)), some (.int f), some x, none, none, none, none, none, none, none] H1 := fun c5 c1 c2 => by
    generalize upd H3 l4 (.lst [V.int (1 + d), V.int 5]) = H4 at S4 B4 h4
    refine .inl ⟨l, _, rfl, SqL.of h4, fun wp hwp => ?_⟩
    rw [cut_take, ← List.map_take]
    have wlen : (ws.take c5).length = c5 := by rw [List.length_take]; lia
    have S5 := S4.new (o := .lst ((ws.take c5).map V.str)) hwp
    have B5 := B4.new (o := .lst ((ws.take c5).map V.str)) hwp
    have h5 : (upd H4 wp (.lst ((ws.take c5).map V.str))) wp = some (.lst ((ws.take c5).map V.str)) := upd_same
    have nwp : wp ≠ st := fun z => by obtain ⟨_, e⟩ := S4.lst; rw [z, e] at hwp; cases hwp
    have wwnd : (ws.take c5).Nodup := (List.take_sublist c5 ws).nodup wnd
    have wwnm : ∀ y ∈ ws.take c5, Nm y := fun y hy => wok y (List.mem_of_mem_take hy)
    generalize ws.take c5 = ww at wlen S5 B5 h5 wwnd wwnm ⊢
    generalize upd H4 wp (.lst (ww.map V.str)) = H5 at S5 B5 h5 ⊢
    refine ⟨_, rfl, _, rfl, st, 5, k1 + 1, rfl, S5, by lia, by decide, by decide, fun e H6 e0 e1 S6 B6 => .inl ⟨_, _, rfl, rfl, ?_⟩⟩
    obtain ⟨n, hn, n2, n6⟩ : ∃ n : Nat, (2 : Int) + e = (n : Int) ∧ 2 ≤ n ∧ n ≤ 6 := ⟨(2 + e).toNat, by lia, by lia, by lia⟩
    refine ⟨st, n, k1 + 2, by show [V.ref st, V.int (2 + e)] = _; rw [hn], S6, by lia, by lia, fun nm ys k7 H7 hnm yl ynd yok h7 S7 l7 B7 => ?_⟩
    have nnm : nm ≠ st := fun z => by obtain ⟨_, e⟩ := S6.lst; rw [z, e] at hnm; cases hnm
    have nwn : wp ≠ nm := ne_of_none (B6 wp _ nwp h5) hnm
    have w7 := B7 wp _ nwp (B6 wp _ nwp h5)
    have BH7 := (B5.trans B6).trans B7
    have yne : ∀ y ∈ ys, y ≠ "" := fun y hy => (yok y hy).ne
    have ysne : ys ≠ [] := fun z => by rw [z] at yl; simp at yl; lia
    show t_program_7 K _ [some (.ref st), some (.int (m : Nat)), some (.int f), some (.ref wp), some (.ref nm), none, none, none, none, none, none] H7
    refine .inl ⟨_, rfl, wp, rfl, ⟨_, SqL.of w7⟩, fun cn hcn => ?_⟩
    have ncn : cn ≠ st := fun z => by obtain ⟨_, e⟩ := S7.lst; rw [z, e] at hcn; cases hcn
    have nwc : wp ≠ cn := ne_of_none w7 hcn
    have nnc : nm ≠ cn := ne_of_none h7 hcn
    refine comp_list (xs := ww.map V.str) (fun i σ' H' => ∃ (cs : List Nat) (k' : Nat) (o : Option V), σ' = [some (.ref st), some (.int (m : Nat)), some (.int f), some (.ref wp), some (.ref nm), none, none, o, none, none, none] ∧ H' cn = some (.lst (intsV cs)) ∧ cs.length = i ∧ (∀ x ∈ cs, x ≤ 4 ∧ x ≤ ys.length) ∧ Stt K H' st k' ∧ k' ≤ k7 + i ∧ But st H7 H') ?_ ?_ ?_ ?_
    · exact ⟨[], k7, none, rfl, upd_same, rfl, by simp, S7.new hcn, by lia, (But.refl st H7).new hcn⟩
    · rintro i σ' H' _ ⟨_, _, _, _, _, _, _, _, _, B⟩
      exact SqL.of (B wp _ nwp w7)
    · rintro i x σ' H' hx ⟨cs, k', o, rfl, hc, cl, c4, S', hk', B'⟩
      have il : i < ww.length := by have := (List.getElem?_eq_some_iff.mp hx).1; rw [List.length_map] at this; exact this
      refine app_yes ⟨_, rfl, _, rfl, _, _, rfl, .inl ⟨_, SqL.of (B' nm _ nnm h7), rfl⟩, _, _, rfl, .inl ⟨_, _, rfl, rfl, ?_⟩⟩
      rw [List.length_map]
      refine ⟨st, _, k', rfl, S', by lia, ?_, ?_, fun g H8 g0 g1 S8 B8 => ?_⟩
      · by_cases z : ((ys.length : Nat) : Int) < 4
        · rw [if_pos z]; lia
        · rw [if_neg z]; lia
      · by_cases z : ((ys.length : Nat) : Int) < 4
        · rw [if_pos z]; lia
        · rw [if_neg z]; lia
      obtain ⟨gn, rfl⟩ : ∃ j : Nat, g = (j : Int) := ⟨g.toNat, by lia⟩
      have g4 : gn ≤ 4 ∧ gn ≤ ys.length := by
        by_cases z : ((ys.length : Nat) : Int) < 4
        · rw [if_pos z] at g1; lia
        · rw [if_neg z] at g1; lia
      have h8 := B8 cn _ ncn hc
      refine ⟨_, h8, smallL (by rw [intsV_len]; lia), cs ++ [gn], k' + 1, _, rfl, ?_, by simp [cl], fun x hx => ?_, S8.mono .upd_at h8 (Ne.symm ncn), by lia, ?_⟩
      · rw [upd_same]; unfold intsV; rw [List.map_append]; rfl
      · rcases List.mem_append.mp hx with z | z
        · exact c4 x z
        · rw [List.mem_singleton.mp z]; exact g4
      · exact But.past (B'.trans B8) hcn .upd_at
    · rintro σ' H8 ⟨cs, k8, o, _, hc, cl, c4, S8, hk8, B8⟩
      rw [List.length_map] at cl hk8
      have csne : cs ≠ [] := fun z => by rw [z] at cl; simp at cl; lia
      have w8 := B8 wp _ nwp w7
      have n8 := B8 nm _ nnm h7
      have BH8 := BH7.trans B8
      show t_program_6 K _ [some (.ref st), some (.int (m : Nat)), some (.int f), some (.ref wp), some (.ref nm), some (.ref cn), none, none, none, none, none] H8
      refine ⟨(by show 0 ≤ sizeLine; decide), fun fd hfd => ?_⟩
      have nfd : fd ≠ st := fun z => by obtain ⟨_, e⟩ := S8.lst; rw [z, e] at hfd; cases hfd
      have s9 : Same H8 (upd H8 fd (.lst [])) := (Same.refl H8).new hfd
      have g9 : (upd H8 fd (.lst [])) fd = some (.lst []) := upd_same
      have HF : H fd = none := BH8.free nfd hfd
      have nwf : wp ≠ fd := ne_of_none w8 hfd
      have nnf : nm ≠ fd := ne_of_none n8 hfd
      have ncf : cn ≠ fd := ne_of_none hc hfd
      show t_program_5 K _ [some (.ref st), some (.int (m : Nat)), some (.int f), some (.ref wp), some (.ref nm), some (.ref cn), some (.ref fd), none, none, none, none] (upd H8 fd (.lst []))
      generalize upd H8 fd (.lst []) = H9 at s9 g9 ⊢
      refine ⟨_, rfl, _, rfl, wp, cn, rfl, ⟨_, SqL.of (s9 _ _ w8)⟩, ⟨_, SqL.of (s9 _ _ hc)⟩, for_zip (xs := ww.map V.str) (ys := intsV cs) (by rw [List.length_map, intsV_len, cl]) (PrP st nm cn fd wp m f ww ys cs H9 K k8) ?_ ?_ ?_ ?_⟩
      · exact ⟨[], [], k8, none, none, none, none, rfl, g9, .nil, rfl, by simp, rfl, rfl, S8.same s9, by lia, .refl _ _ _⟩
      · rintro i σ' H' _ ⟨_, _, _, _, _, _, _, _, _, _, _, _, _, _, _, _, B⟩
        exact ⟨SqL.of (B wp _ nwp nwf (s9 _ _ w8)), SqL.of (B cn _ ncn ncf (s9 _ _ hc))⟩
      · rintro i x y σ' H' tp hx hy htp ⟨pvs, bs, k', o7, o8, o9, o10, rfl, hpv, hA, bl, b100, bnm, bct, S', hk', B'⟩
        have il : i < ww.length := by have := (List.getElem?_eq_some_iff.mp hx).1; rw [List.length_map] at this; exact this
        obtain ⟨c, hcc, rfl⟩ := intsV_of hy
        rw [List.getElem?_map, List.getElem?_eq_getElem il] at hx
        obtain ⟨w, hw, rfl⟩ : ∃ w : Str, ww[i]? = some w ∧ x = .str w := ⟨ww[i], List.getElem?_eq_getElem il, (Option.some.inj hx).symm⟩
        have s2 : Same H' (upd H' tp (.tup [.str w, .int (c : Nat)])) := (Same.refl H').new htp
        have g2 : (upd H' tp (.tup [.str w, .int (c : Nat)])) tp = some (.tup [.str w, .int (c : Nat)]) := upd_same
        generalize upd H' tp (.tup [.str w, .int (c : Nat)]) = H10 at s2 g2 ⊢
        refine ⟨tp, _, rfl, SqT.of g2, rfl, _, _, rfl, _, _, rfl, rfl, ?_⟩
        show t_program_4 K _ [some (.ref st), some (.int (m : Nat)), some (.int f), some (.ref wp), some (.ref nm), some (.ref cn), some (.ref fd), some (.str w), some (.int (c : Nat)), o9, o10] H10
        have nm10 := s2 _ _ (B' nm _ nnm nnf (s9 _ _ n8))
        have cn10 := s2 _ _ (B' cn _ ncn ncf (s9 _ _ hc))
        have fd10 := s2 _ _ hpv
        refine ⟨_, rfl, _, rfl, _, _, rfl, .inl ⟨_, SqL.of nm10, rfl⟩, st, _, k', rfl, S'.same s2, by lia, by rw [List.length_map]; lia, by rw [List.length_map]; lia, fun t H11 t0 t1 S11 B11 => ?_⟩
        obtain ⟨tn, rfl⟩ : ∃ j : Nat, t = (j : Int) := ⟨t.toNat, by lia⟩
        show t_program_3 K _ [some (.ref st), some (.int (m : Nat)), some (.int f), some (.ref wp), some (.ref nm), some (.ref cn), some (.ref fd), some (.str w), some (.int (c : Nat)), some (.int (tn : Nat)), o10] H11
        have nm11 := B11 nm _ nnm nm10
        have cn11 := B11 cn _ ncn cn10
        have fd11 := B11 fd _ nfd fd10
        refine ⟨_, rfl, _, rfl, _, rfl, .inl ⟨nm, _, rfl, SqL.of nm11, fun a1 ha1 => ?_⟩⟩
        rw [cut_drop, ← List.map_drop]
        have nm12 : (upd H11 a1 (.lst ((ys.drop tn).map V.str))) nm = some (.lst (ys.map V.str)) := by rw [upd_ne (ne_of_none nm11 ha1)]; exact nm11
        refine ⟨_, rfl, _, rfl, _, rfl, .inl ⟨nm, _, rfl, SqL.of nm12, fun a2 ha2 => ?_⟩⟩
        rw [cut_take, ← List.map_take]
        have n12 : a1 ≠ a2 := ne_of_none upd_same ha2
        refine .inr (.inr (.inl ⟨a1, a2, _, _, rfl, rfl, by rw [upd_ne n12, upd_same], upd_same, ?_, fun a3 ha3 => ?_⟩))
        · have := smallL (n := 100) (by decide)
          rw [List.length_map, List.length_map, List.length_drop, List.length_take]; lia
        rw [← List.map_append]
        refine ⟨_, rfl, _, rfl, .inl ⟨a3, _, rfl, SqL.of upd_same, fun pr hpr => ?_⟩⟩
        rw [cut_take, ← List.map_take]
        have pin : ∀ y ∈ (ys.drop tn ++ ys.take tn).take c, y ∈ ys := fun y hy => by
          rcases List.mem_append.mp (List.mem_of_mem_take hy) with z | z
          · exact List.mem_of_mem_drop z
          · exact List.mem_of_mem_take z
        have pnd : ((ys.drop tn ++ ys.take tn).take c).Nodup := by
          refine (List.take_sublist c _).nodup ?_
          have z : (ys.take tn ++ ys.drop tn).Nodup := by rw [List.take_append_drop]; exact ynd
          exact (List.perm_append_comm.nodup_iff).mp z
        have plc : ((ys.drop tn ++ ys.take tn).take c).length = c := by
          have := (c4 c (List.mem_of_getElem? hcc)).2
          rw [List.length_take, List.length_append, List.length_drop, List.length_take]; lia
        have pl : ((ys.drop tn ++ ys.take tn).take c).length ≤ 100 := by
          rw [List.length_take, List.length_append, List.length_drop, List.length_take]; lia
        have s13 : Same H11 (upd (upd (upd (upd H11 a1 (.lst ((ys.drop tn).map V.str))) a2 (.lst ((ys.take tn).map V.str))) a3 (.lst ((ys.drop tn ++ ys.take tn).map V.str))) pr (.lst (((ys.drop tn ++ ys.take tn).take c).map V.str))) := ((((Same.refl H11).new ha1).new ha2).new ha3).new hpr
        have g13 : (upd (upd (upd (upd H11 a1 (.lst ((ys.drop tn).map V.str))) a2 (.lst ((ys.take tn).map V.str))) a3 (.lst ((ys.drop tn ++ ys.take tn).map V.str))) pr (.lst (((ys.drop tn ++ ys.take tn).take c).map V.str))) pr = some (.lst (((ys.drop tn ++ ys.take tn).take c).map V.str)) := upd_same
        show t_program_2 K _ [some (.ref st), some (.int (m : Nat)), some (.int f), some (.ref wp), some (.ref nm), some (.ref cn), some (.ref fd), some (.str w), some (.int (c : Nat)), some (.int (tn : Nat)), some (.ref pr)] (upd (upd (upd (upd H11 a1 (.lst ((ys.drop tn).map V.str))) a2 (.lst ((ys.take tn).map V.str))) a3 (.lst ((ys.drop tn ++ ys.take tn).map V.str))) pr (.lst (((ys.drop tn ++ ys.take tn).take c).map V.str)))
        generalize upd (upd (upd (upd H11 a1 (.lst ((ys.drop tn).map V.str))) a2 (.lst ((ys.take tn).map V.str))) a3 (.lst ((ys.drop tn ++ ys.take tn).map V.str))) pr (.lst (((ys.drop tn ++ ys.take tn).take c).map V.str)) = H13 at s13 g13 ⊢
        generalize (ys.drop tn ++ ys.take tn).take c = ps at pin pl pnd plc g13
        have S13 := S11.same s13
        have npr : pr ≠ st := fun z => by
          have := txts_ne S13 (v := .ref pr) ⟨pr, rfl, g13⟩
          exact this (by rw [z])
        have fd13 := s13 _ _ fd11
        refine ⟨_, rfl, .inl ⟨rfl, _, SqL.of fd13⟩, _, rfl, _, rfl, _, rfl, _, rfl, _, rfl, _, rfl, st, nm, pr, cn, w, m, k' + 1, ys, ps, cs, rfl, S13, by lia, s13 _ _ nm11, ysne, by lia, yne, g13, pl, pnd, pin, s13 _ _ cn11, csne, by lia, fun x hx => (c4 x hx).1, m1, m50, nnm, npr, ncn, fun v b k14 H14 hv hbn hbp bok br S14 l14 B14 => ?_⟩
        have fd14 := B14 fd _ nfd fd13
        obtain ⟨_, e11⟩ := (S'.same s2).lst
        obtain ⟨_, e13⟩ := S13.lst
        have t14 : Tp H' H14 := (((Tp.of_same s2).trans (.of_but B11 e11)).trans (.of_same s13)).trans (.of_but B14 e13)
        have t15 : Tp H14 (upd H14 fd (.lst (pvs ++ [v]))) := (Tp.refl H14).lst fd14
        refine ⟨fd, _, _, rfl, rfl, fd14, smallL (by rw [hA.len]; lia), ?_⟩
        refine ⟨pvs ++ [v], bs ++ [b], k14, _, _, _, _, rfl, upd_same, (hA.imp fun _ _ z => (z.mono t14).mono t15).snoc (hv.mono t15), by simp [bl], fun b' hb' => (List.mem_append.mp hb').elim (b100 b') (fun z => by rw [List.mem_singleton.mp z]; exact ⟨bok, br⟩), by rw [List.map_append, bnm, List.take_add_one, hw, List.map_singleton, hbn]; rfl, by rw [List.map_append, bct, List.take_add_one, hcc, List.map_singleton, hbp, plc]; rfl, S14.mono .upd_at fd14 (Ne.symm nfd), by lia, ?_⟩
        exact fun e u n1 n2 h => by rw [upd_ne n2]; exact B14 e u n1 (s13 _ _ (B11 e u n1 (s2 _ _ (B' e u n1 n2 h))))
      · rintro σ' H' ⟨pvs, bs, k', o7, o8, o9, o10, rfl, hpv, hA, bl, b100, bnm, bct, S', hk', B'⟩
        rw [List.length_map] at bl hk'
        refine ⟨_, rfl, fd, _, rfl, .inl ⟨SqL.of hpv, fun l hl => ?_⟩⟩
        rw [List.length_map, ← cl] at bct
        rw [List.length_map] at bnm
        rw [List.take_length] at bnm bct
        have ok : ProgOk ys cs bs := ⟨ynd, yok, by lia, by lia, by lia, by lia, by rw [bnm]; exact wwnd, fun b hb => wwnm _ (by rw [← bnm]; exact List.mem_map_of_mem hb), bct, fun x hx => (c4 x hx).1, fun b hb => (b100 b hb).1⟩
        refine q l pvs bs ys cs k' _ upd_same (hA.imp fun _ _ z => z.mono ((Tp.refl H').new hl)) ok (fun b hb => (b100 b hb).2) (S'.new hl) (by lia) (But.new ?_ hl)
        exact fun e u n1 h => B' e u n1 (ne_of_none h HF) (s9 _ _ (BH8 e u n1 h))
  rcases f01 with rfl | rfl
  · refine ⟨_, rfl, ixL (SqL.of g4) (by decide) rfl ⟨_, rfl, ?_⟩⟩
    obtain ⟨c5, h5, c1, c2⟩ : ∃ c5 : Nat, (1 : Int) + d = (c5 : Int) ∧ 1 ≤ c5 ∧ c5 ≤ 5 := ⟨(1 + d).toNat, by lia, by lia, by lia⟩
    have z := words c5 c1 c2
    rw [← h5] at z
    exact z
  · refine ⟨_, rfl, ixL (SqL.of g4) (by decide) rfl ⟨_, rfl, ?_⟩⟩
    exact words 5 (by decide) (by decide)
end Bg
end
section
set_option Elab.async false
set_option linter.all false
set_option maxRecDepth 100000
set_option maxHeartbeats 4000000
namespace Bg
open PySem L2
theorem r_goal {K : PySem.W.Frag} {vs : List V} {H : Hp} {Q : VK} {E : XK} (h : sp_goal K vs H Q E) : t_goal K { nx := fun _ H' => Q .non H', rt := Q } (start N_goal vs) H :=
  r_stand (K := K) (E := E) h
def addF (F : List Nat) (t : Nat) : List Nat := if t ∈ F then F else F ++ [t]
theorem addF_mem {F : List Nat} {t x : Nat} : x ∈ addF F t ↔ x ∈ F ∨ x = t := by
  unfold addF
  split
  · rename_i h
    exact ⟨.inl, fun z => z.elim id fun e => e ▸ h⟩
  · rw [List.mem_append, List.mem_singleton]
theorem addF_nd {F : List Nat} (h : F.Nodup) (t : Nat) : (addF F t).Nodup := by
  unfold addF
  split
  · exact h
  · rename_i c
    exact List.nodup_append.mpr ⟨h, by simp, fun a ha b hb => by rw [List.mem_singleton.mp hb]; exact fun e => c (e ▸ ha)⟩
theorem putA (F : List Nat) (t : Nat) : putK (keyF F) (Sum.inl (t : Int)) (V.bl true) = keyF (addF F t) := by
  unfold addF
  split
  · rename_i h
    unfold putK
    rw [if_pos]
    · unfold keyF
      rw [List.map_map]
      refine List.map_congr_left fun n hn => ?_
      show (if (Sum.inl (n : Int) : Key) = Sum.inl (t : Int) then _ else _) = _
      split <;> rfl
    · rw [List.any_eq_true]
      exact ⟨(Sum.inl (t : Int), V.bl true), List.mem_map.mpr ⟨t, h, rfl⟩, by simp⟩
  · rename_i h
    exact putF h
theorem mergeF : ∀ (G F : List Nat), (F ++ G).Nodup → mergeK (keyF F) (keyF G) = keyF (F ++ G)
  | [], F, _ => by rw [List.append_nil]; rfl
  | x :: G, F, h => by
    have nx : x ∉ F := fun m => (List.nodup_append.mp h).2.2 x m x List.mem_cons_self rfl
    show mergeK (putK (keyF F) (Sum.inl (x : Int)) (V.bl true)) (keyF G) = _
    rw [putF nx, mergeF G (F ++ [x]) (by rw [List.append_assoc]; exact h), List.append_assoc]; rfl
theorem keyF_at {F : List Nat} {j : Nat} {k : Key} {v : V} (h : (keyF F)[j]? = some (k, v)) : ∃ n, F[j]? = some n ∧ k = Sum.inl (n : Int) ∧ v = .bl true := by
  unfold keyF at h
  rw [List.getElem?_map] at h
  cases e : F[j]? with
  | none => rw [e] at h; cases h
  | some n => rw [e] at h; cases h; exact ⟨n, rfl, rfl, rfl⟩
structure AkTo (H : Hp) (D : Addr) (ns : List Nat) (H' : Hp) (i : Nat) (ts : List Addr) : Prop where
  hD : H' D = some (.lst (ts.map V.ref))
  len : ts.length = (ns.take i).length
  at_ : ∀ (j : Nat) t n, ts[j]? = some t → (ns.take i)[j]? = some n → H' t = some (.tup [.int (n : Nat), .bl true])
  sm : Same H H'
theorem r_p_as_keys {K : PySem.W.Frag} {vs : List V} {H : Hp} {Q : VK} {E : XK} (h : sp_p_as_keys K vs H Q E) : t_p_as_keys K { nx := fun _ H' => Q .non H', rt := Q } (start N_p_as_keys vs) H := by
  obtain ⟨l, ns, rfl, hl, nd, few, q⟩ := h
  refine .inl ⟨_, rfl, l, rfl, ⟨_, SqL.of hl⟩, fun D nD => ?_⟩
  refine comp_list (xs := intsV ns) (fun i σ' H' => ∃ (o : Option V) (ts : List Addr), σ' = [some (.ref l), o] ∧ AkTo H D ns H' i ts) ?_ ?_ ?_ ?_
  · exact ⟨none, [], rfl, upd_same, rfl, fun j t n e => by simp at e, (Same.refl H).new nD⟩
  · rintro i σ' H' _ ⟨_, _, _, A⟩
    exact SqL.of (A.sm _ _ hl)
  · rintro i x σ' H1 hx ⟨o, ts, rfl, A⟩
    obtain ⟨n, hn, rfl⟩ := ints_at hx
    have il := (List.getElem?_eq_some_iff.mp hn).1
    have tk : ns.take (i + 1) = ns.take i ++ [n] := by rw [List.take_succ, hn]; rfl
    have al := A.len
    refine app_yes ⟨_, rfl, (by show 2 ≤ sizeLine; decide), fun p np => ?_⟩
    have s2 : Same H1 (upd H1 p (.tup [.int (n : Nat), .bl true])) := (Same.refl H1).new np
    have hp2 : upd H1 p (.tup [.int (n : Nat), .bl true]) p = some (.tup [.int (n : Nat), .bl true]) := upd_same
    generalize upd H1 p (.tup [.int (n : Nat), .bl true]) = H2 at s2 hp2 ⊢
    have hD2 := s2 _ _ A.hD
    refine ⟨_, hD2, smallL (by rw [List.length_map, al, List.length_take]; lia), _, ts ++ [p], rfl, ?_, ?_, fun j t m e1 e2 => ?_, fun b u e => ?_⟩
    · rw [upd_same, List.map_append]; rfl
    · rw [tk, List.length_append, List.length_append, al]; rfl
    · have ht : H2 t = some (.tup [.int (m : Nat), .bl true]) := by
        rw [tk] at e2
        rcases Nat.lt_or_ge j ts.length with hj | hj
        · rw [List.getElem?_append_left hj] at e1
          rw [List.getElem?_append_left (by rw [← al]; exact hj)] at e2
          exact s2 _ _ (A.at_ j t m e1 e2)
        · rw [List.getElem?_append_right hj] at e1
          rw [List.getElem?_append_right (by rw [← al]; exact hj), ← al] at e2
          cases ej : j - ts.length with
          | zero => rw [ej] at e1 e2; cases e1; cases e2; exact hp2
          | succ k => rw [ej] at e1; simp at e1
      rw [upd_ne (ne_of ht hD2 (by intro z; cases z))]; exact ht
    · rw [upd_ne (ne_of_none e nD)]; exact s2 _ _ (A.sm b u e)
  · rintro σ' H1 ⟨o, ts, rfl, A⟩
    obtain ⟨a1, a2, a3, a4⟩ := A
    rw [intsV_len, List.take_length] at a2 a3
    refine ⟨D, _, keyF ns, rfl, a1, ?_, ?_, fun j x k v e1 e2 => ?_, fun d ndd => ?_⟩
    · unfold keyF; rw [List.length_map, List.length_map]; exact a2
    · unfold keyF; rw [List.length_map]; lia
    · obtain ⟨n, en, rfl, rfl⟩ := keyF_at e2
      rw [List.getElem?_map] at e1
      cases et : ts[j]? with
      | none => rw [et] at e1; cases e1
      | some t => rw [et] at e1; cases e1; exact ⟨t, rfl, a3 j t n et en⟩
    · have := mergeF ns [] (by simpa using nd)
      have e0 : mergeK [] (keyF ns) = keyF ns := this
      rw [e0]
      have Hd : H d = none := by
        cases ee : H d with
        | none => rfl
        | some u => rw [a4 _ _ ee] at ndd; cases ndd
      exact q d _ upd_same Hd (a4.new ndd)
end Bg
end
section
set_option Elab.async false
set_option linter.all false
set_option maxRecDepth 100000
set_option maxHeartbeats 4000000
namespace Bg
open PySem L2
theorem word_give {r : BRow} (h : word r = "give") : ∃ a, r = .give a := by
  cases r with
  | give a => exact ⟨a, rfl⟩
  | num x z => exact absurd h (by show ¬ ("num" : Str) = "give"; decide +kernel)
  | op x s a b => exact absurd h (by show ¬ ("op" : Str) = "give"; decide +kernel)
  | call x k as => exact absurd h (by show ¬ ("call" : Str) = "give"; decide +kernel)
  | say a => exact absurd h (by show ¬ ("say" : Str) = "give"; decide +kernel)
  | test a to => exact absurd h (by show ¬ ("test" : Str) = "give"; decide +kernel)
  | jump to => exact absurd h (by show ¬ ("jump" : Str) = "give"; decide +kernel)
theorem word_test {r : BRow} (h : word r = "test") : ∃ a to, r = .test a to := by
  cases r with
  | test a to => exact ⟨a, to, rfl⟩
  | num x z => exact absurd h (by show ¬ ("num" : Str) = "test"; decide +kernel)
  | op x s a b => exact absurd h (by show ¬ ("op" : Str) = "test"; decide +kernel)
  | call x k as => exact absurd h (by show ¬ ("call" : Str) = "test"; decide +kernel)
  | say a => exact absurd h (by show ¬ ("say" : Str) = "test"; decide +kernel)
  | give a => exact absurd h (by show ¬ ("give" : Str) = "test"; decide +kernel)
  | jump to => exact absurd h (by show ¬ ("jump" : Str) = "test"; decide +kernel)
theorem fall_of {r : BRow} (h : ¬ word r = "give") (hj : isJump r = false) : Fall r = true := by
  cases r with
  | give a => exact absurd rfl h
  | jump to => cases hj
  | _ => rfl
theorem ints_cast {ns : List Int} (h : ∀ x ∈ ns, 0 ≤ x) : ns = (ns.map Int.toNat).map fun (n : Nat) => (n : Int) := by
  rw [List.map_map]
  have : ns.map id = ns.map ((fun (n : Nat) => (n : Int)) ∘ Int.toNat) := List.map_congr_left fun x hx => by have := h x hx; show x = ((x.toNat : Nat) : Int); lia
  rw [← this, List.map_id]
theorem castV (ms : List Nat) : (ms.map fun (n : Nat) => (n : Int)).map V.int = intsV ms := by unfold intsV; rw [List.map_map]; rfl
theorem sort_nats {ns : List Int} {F : List Nat} (hm : ∀ x, x ∈ ns ↔ x ∈ F.map fun (n : Nat) => (n : Int)) (nd : ns.Nodup) (srt : ns.Pairwise (· ≤ ·)) : ∃ ms : List Nat, ns.map V.int = intsV ms ∧ ms.Pairwise (· < ·) ∧ ∀ t, t ∈ ms ↔ t ∈ F := by
  have h0 : ∀ x ∈ ns, 0 ≤ x := fun x hx => by
    obtain ⟨n, _, rfl⟩ := List.mem_map.mp ((hm x).mp hx)
    lia
  have hc := ints_cast h0
  refine ⟨ns.map Int.toNat, ?_, ?_, fun t => ?_⟩
  · rw [← castV, ← hc]
  · rw [List.pairwise_map]
    have both : ns.Pairwise fun a b => a ≤ b ∧ a ≠ b := srt.and nd
    exact List.Pairwise.imp_of_mem (fun {a b} ha hb z => by have := h0 a ha; have := h0 b hb; lia) both
  · rw [List.mem_map]
    constructor
    · rintro ⟨x, hx, rfl⟩
      obtain ⟨n, hn, e⟩ := List.mem_map.mp ((hm x).mp hx)
      rw [← e]; simpa using hn
    · intro ht
      exact ⟨(t : Int), (hm _).mpr (List.mem_map.mpr ⟨t, ht, rfl⟩), by simp⟩
structure LdTo (H : Hp) (d l0 : Addr) (rs : List BRow) (ns : List Nat) (H' : Hp) (F : List Nat) (P : Nat → Prop) : Prop where
  hl : H' l0 = some (.lst (intsV ns))
  hd : H' d = some (.dK (keyF F))
  nd : F.Nodup
  mem : ∀ t, t ∈ F ↔ P t
  few : F.length ≤ 64
  sm : Same H H'
theorem LdTo.put {H : Hp} {d l0 : Addr} {rs : List BRow} {ns : List Nat} {H' : Hp} {F : List Nat} {P : Nat → Prop} (A : LdTo H d l0 rs ns H' F P) (nd0 : H d = none) (t : Nat) (hb : ∀ x ∈ addF F t, x < rs.length) (r64 : rs.length < 64) :
    LdTo H d l0 rs ns (upd H' d (.dK (putK (keyF F) (nk t) (V.bl true)))) (addF F t) (fun x => P x ∨ x = t) := by
  refine ⟨by rw [upd_ne (ne_of A.hl A.hd (by intro z; cases z))]; exact A.hl, by rw [upd_same]; exact congrArg (fun z => some (HO.dK z)) (putA F t), addF_nd A.nd t, fun x => by rw [addF_mem, A.mem], ?_, fun b u e => by rw [upd_ne (ne_of_none e nd0)]; exact A.sm b u e⟩
  have := nodup_lt (addF_nd A.nd t) hb
  lia
theorem r_p_led_to {K : PySem.W.Frag} {vs : List V} {H : Hp} {Q : VK} {E : XK} (h : sp_p_led_to K vs H Q E) : t_p_led_to K { nx := fun _ H' => Q .non H', rt := Q } (start N_p_led_to vs) H := by
  obtain ⟨rt, rs, rfl, ⟨rvs, hrt, hA, g⟩, q⟩ := h
  have rlen : rvs.length = rs.length := hA.len
  have r64 := g.few
  refine fun d nd => ?_
  have s0 : Same H (upd H d (.dK [])) := (Same.refl H).new nd
  have hd0 : upd H d (.dK []) d = some (.dK (keyF [])) := upd_same
  show t_p_led_to_4 K _ [some (.ref rt), some (.ref d), none] (upd H d (.dK []))
  generalize upd H d (.dK []) = H1 at s0 hd0 ⊢
  refine .inl ⟨_, rfl, rt, rvs, rs, rfl, s0 _ _ hrt, hA.imp fun _ _ z => z.mono (.of_same s0), g, fun l0 ns H2 hn hp hl0 nl0 s1 => ⟨l0, rfl, ⟨_, SqL.of hl0⟩, ?_⟩⟩
  refine for_list (xs := intsV ns) (fun i σ' H' => ∃ (o2 : Option V) (F : List Nat), σ' = [some (.ref rt), some (.ref d), o2] ∧ LdTo H d l0 rs ns H' F (fun t => ∃ n ∈ ns.take i, LdT rs n t ∨ LdF rs n t))
    ⟨none, [], rfl, hl0, s1 _ _ hd0, List.nodup_nil, fun t => by simp, Nat.zero_le _, s0.trans s1⟩ ?_ ?_ ?_
  · rintro i σ' H' _ ⟨_, _, _, A⟩
    exact SqL.of A.hl
  · rintro i x σ' H3 hx ⟨o2, F, rfl, A⟩
    obtain ⟨n, hni, rfl⟩ := ints_at hx
    have stn := (hn n).mp (List.mem_of_getElem? hni)
    have nlt := stood_lt g stn
    obtain ⟨v, r, ev, er, ra⟩ := hA.get nlt
    obtain ⟨p, xs, rfl, hp0⟩ := ra.ref
    have tk : ns.take (i + 1) = ns.take i ++ [n] := by rw [List.take_succ, hni]; rfl
    have ev' : rvs[((n : Nat) : Int).toNat]? = some (.ref p) := by simpa using ev
    have oldb : ∀ {F' : List Nat} {H' : Hp} {P : Nat → Prop}, LdTo H d l0 rs ns H' F' P → (∀ t, P t → Ld rs t) → ∀ x ∈ F', x < rs.length := fun A' hP x hx => stood_lt g (ld_stood g (hP x ((A'.mem x).mp hx)))
    have oldP : ∀ t, (∃ n ∈ ns.take i, LdT rs n t ∨ LdF rs n t) → Ld rs t := fun t ⟨m, hm, z⟩ => ⟨m, (hn m).mp (List.mem_of_mem_take hm), z⟩
    have half : ∀ (F1 : List Nat) (H4 : Hp), LdTo H d l0 rs ns H4 F1 (fun t => (∃ n ∈ ns.take i, LdT rs n t ∨ LdF rs n t) ∨ LdT rs n t) →
        t_p_led_to_2 K { nx := fun σ' H' => ∃ (o2 : Option V) (F : List Nat), σ' = [some (.ref rt), some (.ref d), o2] ∧ LdTo H d l0 rs ns H' F (fun t => ∃ n ∈ ns.take (i + 1), LdT rs n t ∨ LdF rs n t), rt := Q, bk := t_p_led_to_1 K { nx := fun _ H' => Q .non H', rt := Q }, ct := fun σ' H' => ∃ (o2 : Option V) (F : List Nat), σ' = [some (.ref rt), some (.ref d), o2] ∧ LdTo H d l0 rs ns H' F (fun t => ∃ n ∈ ns.take (i + 1), LdT rs n t ∨ LdF rs n t) } [some (.ref rt), some (.ref d), some (.int (n : Nat))] H4 := fun F1 H4 A1 => by
      have S4 := A1.sm
      have fin : ∀ {F2 : List Nat} {H5 : Hp} {P : Nat → Prop}, LdTo H d l0 rs ns H5 F2 P → (∀ t, P t ↔ ((∃ n ∈ ns.take i, LdT rs n t ∨ LdF rs n t) ∨ LdT rs n t) ∨ LdF rs n t) → ∃ (o2 : Option V) (F : List Nat), [some (.ref rt), some (.ref d), some (.int (n : Nat))] = [some (V.ref rt), some (V.ref d), o2] ∧ LdTo H d l0 rs ns H5 F (fun t => ∃ n ∈ ns.take (i + 1), LdT rs n t ∨ LdF rs n t) := fun A2 hP => by
        refine ⟨_, _, rfl, A2.hl, A2.hd, A2.nd, fun t => ?_, A2.few, A2.sm⟩
        rw [A2.mem, hP, tk]
        constructor
        · rintro ((⟨m, hm, z⟩ | z) | z)
          · exact ⟨m, List.mem_append_left _ hm, z⟩
          · exact ⟨n, List.mem_append_right _ List.mem_cons_self, .inl z⟩
          · exact ⟨n, List.mem_append_right _ List.mem_cons_self, .inr z⟩
        · rintro ⟨m, hm, z⟩
          rcases List.mem_append.mp hm with hm | hm
          · exact .inl (.inl ⟨m, hm, z⟩)
          · rw [List.mem_singleton.mp hm] at z
            exact z.elim (fun z => .inl (.inr z)) .inr
      refine ⟨_, rfl, _, rfl, ixT (S4 _ _ hrt) (by lia) ev' (ixT (S4 _ _ hp0) (by decide) rfl (.inl ⟨rfl, _, rfl, if_not (fun c => ?_) (fun c => iteF ?_)⟩))⟩
      · have hf : Fall r = true := fall_of (fun z => c (by rw [z])) (stn.2 r er)
        have n1 : n + 1 < rs.length := g.inr n (n + 1) r er (fall_leads hf)
        obtain ⟨v', r', ev1, er1, ra1⟩ := hA.get n1
        obtain ⟨p', xs', rfl, hp1⟩ := ra1.ref
        have ev1' : rvs[((n : Nat) + 1 : Int).toNat]? = some (.ref p') := by rw [show ((n : Nat) + 1 : Int).toNat = n + 1 by lia]; exact ev1
        have put : (LdF rs n (Sd rs (n + 1))) → tAsg (tC (.bl true)) (gSub (tVar 1) (tCall (sp_p_stands K) [] E0 (tCons (tVar 0) (tCons (tOp (rPlus K) (tVar 2) (tC (.int 1))) tNil))) rSetD) { nx := fun σ' H' => ∃ (o2 : Option V) (F : List Nat), σ' = [some (.ref rt), some (.ref d), o2] ∧ LdTo H d l0 rs ns H' F (fun t => ∃ n ∈ ns.take (i + 1), LdT rs n t ∨ LdF rs n t), rt := Q, bk := t_p_led_to_1 K { nx := fun _ H' => Q .non H', rt := Q }, ct := fun σ' H' => ∃ (o2 : Option V) (F : List Nat), σ' = [some (.ref rt), some (.ref d), o2] ∧ LdTo H d l0 rs ns H' F (fun t => ∃ n ∈ ns.take (i + 1), LdT rs n t ∨ LdF rs n t) } [some (.ref rt), some (.ref d), some (.int (n : Nat))] H4 := fun hL => by
          refine ⟨_, rfl, _, rfl, _, rfl, .inl ⟨_, _, rfl, rfl, rt, n + 1, rvs, rs, rfl, S4 _ _ hrt, hA.imp fun _ _ z => z.mono (.of_same S4), g, n1, d, _, rfl, DPut.k (k := nk (Sd rs (n + 1))) A1.hd (smallL (by unfold keyF; rw [List.length_map]; have := A1.few; lia)), ?_⟩⟩
          refine fin (A1.put nd _ (fun x hx => ?_) r64) fun t => ?_
          · rcases addF_mem.mp hx with z | z
            · exact oldb A1 (fun t z => z.elim (oldP t) fun z => ⟨n, stn, .inl z⟩) x z
            · rw [z]; exact runJ_lt g _ n1
          · refine or_congr Iff.rfl ⟨fun e => e ▸ hL, fun ⟨_, _, _, _, e⟩ => e⟩
        refine ⟨_, rfl, _, rfl, .inl ⟨_, _, rfl, rfl, ixT (S4 _ _ hrt) (by lia) ev1' (ixT (S4 _ _ hp1) (by decide) rfl (.inl ⟨rfl, _, rfl, if_dec (fun c1 => ?_) (fun c1 => ?_)⟩))⟩⟩
        · obtain ⟨to, rfl⟩ := word_jump (str_inj c1)
          exact iteT (put ⟨r, er, hf, .inl ⟨to, er1⟩, rfl⟩)
        · refine ⟨_, rfl, .inl ⟨_, _, rfl, rfl, _, rfl, rt, 0, rvs, rs, rfl, S4 _ _ hrt, hA.imp fun _ _ z => z.mono (.of_same S4), g, g.pos, .inl ⟨rfl, _, rfl, if_dec (fun c2 => ?_) (fun c2 => ?_)⟩⟩⟩
          · have e2 : n + 1 = Sd rs 0 := by injection c2 with c2; have c3 : ((n : Int) + 1) = ((Sd rs 0 : Nat) : Int) := c2; lia
            exact put ⟨r, er, hf, .inr e2, rfl⟩
          · refine fin A1 fun t => ⟨.inl, fun z => z.elim id fun ⟨r2, hr2, hf2, z2, _⟩ => ?_⟩
            exfalso
            rcases z2 with ⟨to, z2⟩ | z2
            · rw [er1] at z2; cases z2
              exact c1 rfl
            · exact c2 (by show V.int ((n : Int) + 1) = V.int ((Sd rs 0 : Nat) : Int); rw [← z2]; rfl)
      · obtain ⟨a, rfl⟩ := word_give (str_inj c)
        refine fin A1 fun t => ⟨.inl, fun z => z.elim id fun ⟨r2, hr2, hf2, _⟩ => ?_⟩
        rw [er] at hr2; cases hr2; cases hf2
    show t_p_led_to_3 K _ [some (.ref rt), some (.ref d), some (.int (n : Nat))] H3
    have S3 := A.sm
    refine ⟨_, rfl, _, rfl, ixT (S3 _ _ hrt) (by lia) ev' (ixT (S3 _ _ hp0) (by decide) rfl (.inl ⟨rfl, _, rfl, if_dec (fun c => ?_) (fun c => ?_)⟩))⟩
    · obtain ⟨a, to, rfl⟩ := word_test (str_inj c)
      have tolt : to < rs.length := g.inr n to _ er (by simp [leadsL])
      refine ⟨_, rfl, _, rfl, _, rfl, _, rfl, ixT (S3 _ _ hrt) (by lia) ev' ⟨.ref p, .test a to, rfl, ra.mono (.of_same S3), rt, to, rvs, rs, rfl, S3 _ _ hrt, hA.imp fun _ _ z => z.mono (.of_same S3), g, tolt, d, _, rfl, DPut.k (k := nk (Sd rs to)) A.hd (smallL (by unfold keyF; rw [List.length_map]; have := A.few; lia)), ?_⟩⟩
      have A1 := A.put nd (Sd rs to) (fun x hx => by
        rcases addF_mem.mp hx with z | z
        · exact oldb A oldP x z
        · rw [z]; exact runJ_lt g _ tolt) r64
      refine half _ _ ⟨A1.hl, A1.hd, A1.nd, fun t => ?_, A1.few, A1.sm⟩
      rw [A1.mem]
      refine or_congr Iff.rfl ⟨fun e => ⟨a, to, er, e⟩, fun ⟨a', to', e1, e2⟩ => ?_⟩
      rw [er] at e1; cases e1; exact e2
    · refine half F H3 ⟨A.hl, A.hd, A.nd, fun t => ?_, A.few, A.sm⟩
      rw [A.mem]
      refine ⟨.inl, fun z => z.elim id fun ⟨a', to', e1, e2⟩ => ?_⟩
      rw [er] at e1; cases e1
      exact absurd rfl c
  · rintro σ' H3 ⟨o2, F, rfl, A⟩
    rw [intsV_len, List.take_length] at A
    have hL : ∀ t, t ∈ F ↔ Ld rs t := fun t => by
      rw [A.mem]
      exact ⟨fun ⟨m, hm, z⟩ => ⟨m, (hn m).mp hm, z⟩, fun ⟨m, hm, z⟩ => ⟨m, (hn m).mpr hm, z⟩⟩
    have flt := nodup_lt A.nd fun x hx => stood_lt g (ld_stood g ((hL x).mp hx))
    refine ⟨_, rfl, d, keyF F, F.map fun (n : Nat) => (n : Int), rfl, A.hd, by unfold keyF; rw [List.map_map, List.map_map]; rfl, by rw [List.length_map]; lia, fun l ns' nl perm srt => ?_⟩
    obtain ⟨ms, e1, e2, e3⟩ := sort_nats (F := F) (fun x => perm.mem_iff) (perm.nodup_iff.mpr (by unfold List.Nodup; rw [List.pairwise_map]; exact A.nd.imp fun h e => h (by lia))) srt
    rw [e1]
    have Hl : H l = none := by
      cases ee : H l with
      | none => rfl
      | some u => rw [A.sm _ _ ee] at nl; cases nl
    exact q l ms _ (fun t => by rw [e3, hL]) e2 upd_same Hl (A.sm.new nl)
end Bg
end
section
set_option Elab.async false
set_option linter.all false
set_option maxRecDepth 100000
set_option maxHeartbeats 4000000
namespace Bg
open PySem L2
theorem ixLast {K : PySem.W.Frag} {p : Addr} {xs : List V} {v : V} {H : Hp} {Q : VK} (h : SqL K H p xs) (e : xs[xs.length - 1]? = some v) (q : Q v H) : rIx K (.ref p) (.int (-1)) H Q := by
  have lt : xs.length - 1 < xs.length := (List.getElem?_eq_some_iff.mp e).1
  refine .inl ⟨p, xs, -1, v, rfl, rfl, h, ?_, q⟩
  unfold atI ixN
  rw [if_neg (by decide), if_pos (by lia)]
  show xs[((-1 : Int) + (xs.length : Int)).toNat]? = some v
  rw [show ((-1 : Int) + (xs.length : Int)).toNat = xs.length - 1 by lia]
  exact e
theorem r_p_heads {K : PySem.W.Frag} {vs : List V} {H : Hp} {Q : VK} {E : XK} (h : sp_p_heads K vs H Q E) : t_p_heads K { nx := fun _ H' => Q .non H', rt := Q } (start N_p_heads vs) H := by
  obtain ⟨rt, rs, rfl, R, q⟩ := h
  obtain ⟨rvs, hrt, hA, g⟩ := id R
  have r64 := g.few
  refine ⟨_, rfl, rt, 0, rvs, rs, rfl, hrt, hA, g, g.pos, (by show 1 ≤ sizeLine; decide), fun l1 nl1 => ?_⟩
  have s1 : Same H (upd H l1 (.lst [V.int ((Sd rs 0 : Nat) : Int)])) := (Same.refl H).new nl1
  have h1 : upd H l1 (.lst [V.int ((Sd rs 0 : Nat) : Int)]) l1 = some (.lst [V.int ((Sd rs 0 : Nat) : Int)]) := upd_same
  refine ⟨_, rfl, rt, rs, rfl, R.same s1, fun l2 ns H2 hn hp hl2 nl2 s2 => .inr (.inr (.inl ⟨l1, l2, _, _, rfl, rfl, s2 _ _ h1, hl2, Nat.le_of_lt (smallL ?_), fun l3 nl3 => ?_⟩))⟩
  · have := nodup_lt (hp.imp fun z => Nat.ne_of_lt z) fun x hx => stood_lt g (ld_stood g ((hn x).mp hx))
    rw [intsV_len]; show 1 + ns.length ≤ 100000; lia
  have hns := nodup_lt (hp.imp fun z => Nat.ne_of_lt z) fun x hx => stood_lt g (ld_stood g ((hn x).mp hx))
  have ec : [V.int ((Sd rs 0 : Nat) : Int)] ++ intsV ns = ((Sd rs 0 :: ns).map fun (n : Nat) => (n : Int)).map V.int := by rw [castV]; rfl
  rw [ec]
  refine ⟨l3, false, (Sd rs 0 :: ns).map fun (n : Nat) => (n : Int), (List.range rs.length).map fun (n : Nat) => (n : Int), rfl, SqL.of upd_same, by rw [List.length_map, List.length_cons]; lia, fun x hx => ?_, by rw [List.length_map, List.length_range]; exact r64, fun l ss' nl nd mem srt => ?_⟩
  · obtain ⟨n, hn', rfl⟩ := List.mem_map.mp hx
    refine List.mem_map.mpr ⟨n, List.mem_range.mpr ?_, rfl⟩
    rcases List.mem_cons.mp hn' with rfl | z
    · exact runJ_lt g _ g.pos
    · exact stood_lt g (ld_stood g ((hn n).mp z))
  · obtain ⟨ms, e1, e2, e3⟩ := sort_nats (F := Sd rs 0 :: ns) mem nd srt
    rw [e1]
    have S3 : Same H (upd H2 l3 (.lst (((Sd rs 0 :: ns).map fun (n : Nat) => (n : Int)).map V.int))) := (s1.trans s2).new nl3
    have Hl : H l = none := by
      cases ee : H l with
      | none => rfl
      | some u => rw [S3 _ _ ee] at nl; cases nl
    refine q l ms _ (fun t => ?_) e2 upd_same Hl (S3.new nl)
    rw [e3, List.mem_cons, hn]
    exact Iff.rfl
structure PTo (rs : List BRow) (h i : Nat) : Prop where
  st : ∀ j, j ≤ i → Stood rs (h + j)
  no : ∀ j, 1 ≤ j → j ≤ i → ¬ Top rs (h + j)
  go : ∀ j, j < i → ∃ r, rs[h + j]? = some r ∧ Fall r = true ∧ Sd rs (h + j + 1) = h + j + 1
theorem pc_last (h i : Nat) : (intsV (pc h i))[(intsV (pc h i)).length - 1]? = some (.int ((h + i : Nat) : Int)) := by
  rw [intsV_len, pc_len, show i + 1 - 1 = i by lia]
  exact intsV_get (pc_at (Nat.le_refl i))
theorem r_p_piece_of {K : PySem.W.Frag} {vs : List V} {H : Hp} {Q : VK} {E : XK} (h : sp_p_piece_of K vs H Q E) : t_p_piece_of K { nx := fun _ H' => Q .non H', rt := Q } (start N_p_piece_of vs) H := by
  obtain ⟨rt, d, hd, hs, rs, rfl, R, hdk, htop, top, q⟩ := h
  obtain ⟨rvs, hrt, hA, g⟩ := id R
  have r64 := g.few
  refine ⟨_, rfl, (by show 1 ≤ sizeLine; decide), fun l nl => ?_⟩
  have s1 : Same H (upd H l (.lst [V.int ((hd : Nat) : Int)])) := (Same.refl H).new nl
  have h1 : upd H l (.lst [V.int ((hd : Nat) : Int)]) l = some (.lst (intsV (pc hd 0))) := upd_same
  show t_p_piece_of_5 K _ [some (.ref rt), some (.ref d), some (.int (hd : Nat)), some (.ref l), none] (upd H l (.lst [V.int ((hd : Nat) : Int)]))
  generalize upd H l (.lst [V.int ((hd : Nat) : Int)]) = H1 at s1 h1 ⊢
  refine ⟨fun m σ' H' => ∃ (i : Nat) (o4 : Option V), m = rs.length - (hd + i) ∧ σ' = [some (.ref rt), some (.ref d), some (.int (hd : Nat)), some (.ref l), o4] ∧ H' l = some (.lst (intsV (pc hd i))) ∧ PTo rs hd i ∧ Same H H',
    ⟨_, 0, none, rfl, rfl, h1, ⟨fun j hj => by rw [show j = 0 by lia]; exact top_stood g top, fun j a b => by lia, fun j z => by lia⟩, s1⟩, ?_⟩
  rintro m σ' H2 ⟨i, o4, rfl, rfl, hl2, P, s2⟩
  have stn := P.st i (Nat.le_refl i)
  have nlt := stood_lt g stn
  obtain ⟨v, r, ev, er, ra⟩ := hA.get nlt
  obtain ⟨p, xs, rfl, hp0⟩ := ra.ref
  have ev' : rvs[((hd + i : Nat) : Int).toNat]? = some (.ref p) := by rw [Int.toNat_natCast]; exact ev
  refine ⟨_, rfl, _, rfl, _, rfl, ixLast (SqL.of hl2) (pc_last hd i) (ixT (s2 _ _ hrt) (by lia) ev' (ixT (s2 _ _ hp0) (by decide) rfl (.inl ⟨rfl, _, rfl, if_not (fun c => ?_) (fun c => ?_)⟩)))⟩
  · have hf : Fall r = true := fall_of (fun z => c (by rw [z])) (stn.2 r er)
    have n1 : hd + i + 1 < rs.length := g.inr (hd + i) (hd + i + 1) r er (fall_leads hf)
    refine ⟨fun σ' H' => ∃ (o4 : Option V), σ' = [some (.ref rt), some (.ref d), some (.int (hd : Nat)), some (.ref l), o4] ∧ H' l = some (.lst (intsV (pc hd (i + 1)))) ∧ PTo rs hd (i + 1) ∧ Same H H', ?_, ?_⟩
    · rintro σ4 H4 ⟨o, rfl, a, b, c'⟩
      exact ⟨rs.length - (hd + (i + 1)), by lia, i + 1, o, rfl, rfl, a, b, c'⟩
    · refine ⟨_, rfl, _, rfl, _, rfl, ixLast (SqL.of hl2) (pc_last hd i) (.inl ⟨_, _, rfl, rfl, rt, hd + i + 1, rvs, rs, rfl, s2 _ _ hrt, hA.imp fun _ _ z => z.mono (.of_same s2), g, n1, ?_⟩)⟩
      show t_p_piece_of_3 K _ [some (.ref rt), some (.ref d), some (.int (hd : Nat)), some (.ref l), some (.int ((Sd rs (hd + i + 1) : Nat) : Int))] H2
      have gg := DGet.k (k := nk (Sd rs (hd + i + 1))) (s2 _ _ hdk)
      refine ⟨_, rfl, _, rfl, d, _, rfl, gg, _, rfl, ?_⟩
      have hv : (valV (keyF hs) (nk (Sd rs (hd + i + 1)))).isSome = decide (Sd rs (hd + i + 1) ∈ hs) := valF hs _
      show if (valV (keyF hs) (nk (Sd rs (hd + i + 1)))).isSome = true then _ else _
      rw [hv]
      refine if_dec (fun z => ?_) (fun z => ?_)
      · refine ⟨_, rfl, _, rfl, (by show 2 ≤ sizeLine; decide), fun pp npp => ?_⟩
        refine q (.ref pp) i (some (Sd rs (hd + i + 1))) _ ⟨pp, l, rfl, upd_same, by rw [upd_ne (ne_of_none hl2 npp)]; exact hl2⟩ ⟨P.st, P.no, P.go, (fun e => by cases e), fun t e => ?_⟩ (s2.new npp)
        cases e
        exact ⟨r, er, hf, rfl, (htop _).mp z⟩
      · have nt : ¬ Top rs (Sd rs (hd + i + 1)) := fun t => z ((htop _).mpr t)
        have e1 := next_one stn er hf nt
        refine ⟨_, rfl, .inl ⟨rfl, _, SqL.of hl2⟩, _, rfl, l, _, _, rfl, rfl, hl2, smallL (by rw [intsV_len, pc_len]; lia), _, rfl, ?_, ?_, fun b u e => by rw [upd_ne (ne_of_none e nl)]; exact s2 b u e⟩
        · rw [upd_same, e1, pc_succ]
          unfold intsV
          rw [List.map_append]; rfl
        · refine ⟨fun j hj => ?_, fun j a b => ?_, fun j hj => ?_⟩
          · rcases Nat.lt_or_ge i j with w | w
            · rw [show hd + j = Sd rs (hd + i + 1) by rw [e1]; lia]
              exact stood_edge g stn ⟨r, hd + i + 1, er, fall_leads hf, rfl⟩
            · exact P.st j w
          · rcases Nat.lt_or_ge i j with w | w
            · rw [show hd + j = Sd rs (hd + i + 1) by rw [e1]; lia]; exact nt
            · exact P.no j a w
          · rcases Nat.lt_or_ge j i with w | w
            · exact P.go j w
            · have : j = i := by lia
              subst this
              exact ⟨r, er, hf, e1⟩
  · obtain ⟨a, rfl⟩ := word_give (str_inj c)
    refine ⟨_, rfl, (by show 2 ≤ sizeLine; decide), fun pp npp => ?_⟩
    exact q (.ref pp) i none _ ⟨pp, l, rfl, upd_same, by rw [upd_ne (ne_of_none hl2 npp)]; exact hl2⟩ ⟨P.st, P.no, P.go, fun _ => ⟨_, er, rfl⟩, (fun t e => by cases e)⟩ (s2.new npp)
theorem r_p_piece {K : PySem.W.Frag} {vs : List V} {H : Hp} {Q : VK} {E : XK} (h : sp_p_piece K vs H Q E) : t_p_piece K { nx := fun _ H' => Q .non H', rt := Q } (start N_p_piece vs) H := by
  obtain ⟨rt, hd, rs, rfl, R, top, q⟩ := h
  have g := let ⟨_, _, _, g⟩ := R; g
  refine ⟨_, rfl, _, rfl, rt, rs, rfl, R, fun l1 ns H1 hn hp hl1 nl1 s1 => ⟨l1, ns, rfl, hl1, hp.imp fun z => Nat.ne_of_lt z, ?_, fun d H2 hd2 nd2 s2 => ⟨_, rfl, rt, d, hd, ns, rs, rfl, (R.same s1).same s2, hd2, hn, top, fun v m e H3 a b s3 => q v m e H3 a b ((s1.trans s2).trans s3)⟩⟩⟩
  have := nodup_lt (hp.imp fun z => Nat.ne_of_lt z) fun x hx => stood_lt g (top_stood g ((hn x).mp hx))
  have := g.few
  lia
end Bg
end
section
set_option Elab.async false
set_option linter.all false
set_option maxRecDepth 100000
set_option maxHeartbeats 4000000
namespace Bg
open PySem L2
theorem inV_nats (n : Nat) (ls : List Nat) : inV (.int (n : Nat)) (intsV ls) = decide (n ∈ ls) := by
  unfold inV intsV
  rw [List.any_map, Bool.eq_iff_iff, List.any_eq_true, decide_eq_true_eq]
  constructor
  · rintro ⟨z, hz, e⟩
    have e' : (((z : Nat) : Int) == ((n : Nat) : Int)) = true := e
    have : z = n := by
      have := eq_of_beq e'
      lia
    rw [← this]; exact hz
  · intro h
    exact ⟨n, h, by show (((n : Nat) : Int) == ((n : Nat) : Int)) = true; simp⟩
theorem flat_nats (ls : List Nat) : (intsV ls).all flatV = true := by
  rw [List.all_eq_true]
  intro v hv
  unfold intsV at hv
  obtain ⟨y, _, rfl⟩ := List.mem_map.mp hv
  rfl
theorem inN {K : PySem.W.Frag} {H : Hp} {p : Addr} {n : Nat} {ls : List Nat} {Q : VK} (hp : H p = some (.lst (intsV ls))) (h : Q (.bl (decide (n ∈ ls))) H) : rIn K false (.int (n : Nat)) (.ref p) H Q := by
  refine ⟨p, _, rfl, .inl (SqL.of hp), rfl, flat_nats ls, ?_⟩
  rw [inV_nats]
  exact h
theorem int_same (K : PySem.W.Frag) (H : Hp) (d : Nat) (z : Int) : EqN K H d (.int z) (.int z) true := by
  have := EqN.flat (K := K) (H := H) (d := d) (x := .int z) (y := .int z) rfl rfl
  simpa [eqV] using this
theorem nats_at {K : PySem.W.Frag} {H : Hp} {ns : List Nat} {d : Nat} {j : Nat} {x y : V} {b : Bool} (hx : (intsV ns)[j]? = some x) (hy : (intsV ns)[j]? = some y) (hb : (List.replicate (intsV ns).length true)[j]? = some b) : EqN K H d x y b := by
  rw [hx] at hy; cases hy
  have : b = true := (List.mem_replicate.mp (List.mem_of_getElem? hb)).2
  subst this
  obtain ⟨n, _, rfl⟩ := ints_at hx
  exact int_same K H d _
theorem nats_ne {K : PySem.W.Frag} {neg : Bool} {H : Hp} {l m : Addr} {ns : List Nat} {Q : VK} (hl : H l = some (.lst (intsV ns))) (hm : H m = some (.lst (intsV ns))) (k : Q (.bl (!neg)) H) : rEqN K neg (.ref l) (.ref m) H Q := by
  refine ⟨l, m, _, _, rfl, rfl, .inl ⟨SqL.of hl, SqL.of hm⟩, .inr ⟨List.replicate (intsV ns).length true, rfl, by simp, fun j x y b hx hy hb => nats_at hx hy hb, ?_⟩⟩
  have : (List.replicate (intsV ns).length true).all id = true := by simp
  rw [this]
  cases neg <;> exact k
theorem eq_pc {K : PySem.W.Frag} {H : Hp} {v u : V} {h m : Nat} {e : Option Nat} {Q : VK} (a : PcA H v h m e) (b : PcA H u h m e) (q : Q (.bl false) H) : rNeU K v u H Q := by
  obtain ⟨p, l, rfl, hp, hl⟩ := a
  obtain ⟨p', l', rfl, hp', hl'⟩ := b
  refine .inl ⟨p, p', _, _, rfl, rfl, .inr ⟨SqT.of hp, SqT.of hp', rfl⟩, .inr ⟨[true, true], rfl, rfl, fun j x y b hx hy hb => ?_, q⟩⟩
  match j, hx, hy, hb with
  | 0, hx, hy, hb =>
    cases hx; cases hy; cases hb
    by_cases n : l = l'
    · subst n; exact .same
    · have := EqN.lists (K := K) (H := H) (d := 3) (es := List.replicate (intsV (pc h m)).length true) n (SqL.of hl) (SqL.of hl') rfl (by simp) fun j x y b hx hy hb => nats_at hx hy hb
      simpa using this
  | 1, hx, hy, hb =>
    cases hx; cases hy; cases hb
    cases e with
    | none =>
      have := EqN.flat (K := K) (H := H) (d := 4) (x := .non) (y := .non) rfl rfl
      simpa [eqV, endV] using this
    | some t => exact int_same K H 4 _
  | n + 2, hx, _, _ => simp at hx
theorem PcA.same {H H' : Hp} {v : V} {h m : Nat} {e : Option Nat} (a : PcA H v h m e) (s : Same H H') : PcA H' v h m e := by
  obtain ⟨p, l, e, a, b⟩ := a
  exact ⟨p, l, e, s _ _ a, s _ _ b⟩
theorem r_right {K : PySem.W.Frag} {vs : List V} {H : Hp} {Q : VK} {E : XK} (h : sp_right K vs H Q E) : t_right K { nx := fun _ H' => Q .non H', rt := Q } (start N_right vs) H := by
  obtain ⟨rt, tl, hd, hs, rs, rfl, R, htl, hmem, top, q⟩ := h
  obtain ⟨rvs, hrt, hA, g⟩ := id R
  have r64 := g.few
  refine ⟨_, rfl, _, rfl, rt, hd, rs, rfl, R, top, fun v m e H1 PA P s1 => ?_⟩
  obtain ⟨p, l, rfl, hp, hl⟩ := PA
  have mlt := stood_lt g (P.st m (Nat.le_refl m))
  show t_right_7 K _ [some (.ref rt), some (.int (hd : Nat)), some (.ref tl), some (.ref p), none, none, none, none] H1
  refine ⟨_, rfl, .ref p, "tuple", true, rfl, .tup_tuple (SqT.of hp), _, rfl, iteF ?_⟩
  refine ⟨_, rfl, _, _, rfl, .inr ⟨_, SqT.of hp, rfl⟩, .inr (.inr (.inl ⟨rfl, _, rfl, if_not (fun c => absurd rfl c) (fun _ => ?_)⟩))⟩
  refine ⟨_, rfl, ixT hp (by decide) rfl ⟨.ref l, "list", true, rfl, .lst_list (SqL.of hl), _, rfl, iteF ?_⟩⟩
  refine ⟨_, rfl, ixT hp (by decide) rfl ⟨(by show 0 ≤ sizeLine; decide), fun l0 n0 => ?_⟩⟩
  have s2 : Same H1 (upd H1 l0 (.lst [])) := (Same.refl H1).new n0
  have h02 : upd H1 l0 (.lst []) l0 = some (.lst []) := upd_same
  generalize upd H1 l0 (.lst []) = H2 at s2 h02 ⊢
  refine .inl ⟨l, l0, _, [], rfl, rfl, .inl ⟨SqL.of (s2 _ _ hl), SqL.of h02⟩, .inl ⟨by rw [intsV_len, pc_len]; simp, _, rfl, iteF ?_⟩⟩
  have S2 := s1.trans s2
  have hp2 := s2 _ _ hp
  have hl2 := s2 _ _ hl
  refine ⟨_, rfl, p, _, rfl, SqT.of hp2, rfl, _, _, rfl, _, _, rfl, rfl, ?_⟩
  show t_right_5 K _ [some (.ref rt), some (.int (hd : Nat)), some (.ref tl), some (.ref p), some (.ref l), some (endV e), none, none] H2
  refine ⟨_, rfl, ixL (SqL.of hl2) (by decide) (show (intsV (pc hd m))[0]? = some (.int (hd : Nat)) from intsV_get (by have := pc_at (h := hd) (m := m) (Nat.zero_le m); simpa using this)) ⟨_, rfl, .inr (.inr (.inl ⟨rfl, _, rfl, if_not (fun c => absurd rfl c) (fun _ => ?_)⟩))⟩⟩
  refine .inl ⟨_, rfl, _, rfl, .inl ⟨l, _, rfl, SqL.of hl2, fun l3 n3 => ⟨l3, rfl, ⟨_, SqL.of upd_same⟩, fun D nD => ?_⟩⟩⟩
  rw [show ((1 : Int)) = ((1 : Nat) : Int) from rfl, cut_drop] at nD ⊢
  have s3 : Same H2 (upd H2 l3 (.lst ((intsV (pc hd m)).drop 1))) := (Same.refl H2).new n3
  have h3 : upd H2 l3 (.lst ((intsV (pc hd m)).drop 1)) l3 = some (.lst ((intsV (pc hd m)).drop 1)) := upd_same
  generalize upd H2 l3 (.lst ((intsV (pc hd m)).drop 1)) = H3 at s3 h3 nD ⊢
  have S3 := S2.trans s3
  refine comp_list (xs := (intsV (pc hd m)).drop 1) (fun i σ' H' => ∃ o, σ' = [some (.ref rt), some (.int (hd : Nat)), some (.ref tl), some (.ref p), some (.ref l), some (endV e), none, none, o] ∧ H' D = some (.lst []) ∧ Same H3 H') ⟨none, rfl, upd_same, (Same.refl H3).new nD⟩ ?_ ?_ ?_
  · rintro i σ' H' _ ⟨_, _, _, s⟩
    exact SqL.of (s _ _ h3)
  · rintro i x σ' H4 hx ⟨o, rfl, hD, s4⟩
    rw [List.getElem?_drop] at hx
    obtain ⟨n, hn, rfl⟩ := ints_at hx
    have il : 1 + i < m + 1 := by have := (List.getElem?_eq_some_iff.mp hn).1; rwa [pc_len] at this
    rw [pc_at (by lia)] at hn
    cases hn
    refine ⟨_, rfl, _, rfl, inN (s4 _ _ (S3 _ _ htl)) ⟨_, rfl, if_dec (fun c => ?_) (fun c => ?_)⟩⟩
    · exact absurd ((hmem _).mp c) (P.no (1 + i) (by lia) (by lia))
    · exact ⟨_, rfl, hD, s4⟩
  · rintro σ' H4 ⟨o, rfl, hD, s4⟩
    refine ⟨(by show 0 ≤ sizeLine; decide), fun l5 n5 => ?_⟩
    have s5 : Same H4 (upd H4 l5 (.lst [])) := (Same.refl H4).new n5
    have h5 : upd H4 l5 (.lst []) l5 = some (.lst []) := upd_same
    generalize upd H4 l5 (.lst []) = H5 at s5 h5 ⊢
    refine .inl ⟨D, l5, [], [], rfl, rfl, .inl ⟨SqL.of (s5 _ _ hD), SqL.of h5⟩, .inr ⟨[], rfl, rfl, fun j a b e h => by simp at h, _, rfl, iteF ?_⟩⟩
    have S5 := (S3.trans s4).trans s5
    have hl5 := s5 _ _ (s4 _ _ (s3 _ _ hl2))
    have hA5 : AllAt (RowAt H5) rvs rs := hA.imp fun _ _ z => z.mono (.of_same S5)
    show t_right_4 K _ [some (.ref rt), some (.int (hd : Nat)), some (.ref tl), some (.ref p), some (.ref l), some (endV e), none, none] H5
    refine ⟨_, rfl, _, rfl, _, rfl, .inl ⟨l, _, rfl, SqL.of hl5, fun l6 n6 => ⟨l, l6, rfl, ⟨_, SqL.of (by rw [upd_ne (ne_of_none hl5 n6)]; exact hl5)⟩, ⟨_, SqL.of upd_same⟩, ?_⟩⟩⟩
    rw [show ((1 : Int)) = ((1 : Nat) : Int) from rfl, cut_drop]
    have s6 : Same H5 (upd H5 l6 (.lst ((intsV (pc hd m)).drop 1))) := (Same.refl H5).new n6
    have h6 : upd H5 l6 (.lst ((intsV (pc hd m)).drop 1)) l6 = some (.lst ((intsV (pc hd m)).drop 1)) := upd_same
    generalize upd H5 l6 (.lst ((intsV (pc hd m)).drop 1)) = H6 at s6 h6 ⊢
    refine for_zipM (xs := intsV (pc hd m)) (ys := (intsV (pc hd m)).drop 1) (by rw [List.length_drop]; exact Nat.sub_le _ _) (fun i σ' H' => ∃ o6 o7, σ' = [some (.ref rt), some (.int (hd : Nat)), some (.ref tl), some (.ref p), some (.ref l), some (endV e), o6, o7] ∧ Same H6 H') ⟨_, _, rfl, Same.refl _⟩ ?_ ?_ ?_
    · rintro i σ' H' _ ⟨_, _, _, s⟩
      exact ⟨SqL.of (s _ _ (s6 _ _ hl5)), SqL.of (s _ _ h6)⟩
    · rintro i x y σ' H7 pp hx hy npp ⟨o6, o7, rfl, s7⟩
      rw [List.getElem?_drop] at hy
      obtain ⟨n, hn, rfl⟩ := ints_at hx
      obtain ⟨n', hn', rfl⟩ := ints_at hy
      have il : 1 + i < m + 1 := by have := (List.getElem?_eq_some_iff.mp hn').1; rwa [pc_len] at this
      rw [pc_at (by lia)] at hn hn'
      cases hn; cases hn'
      obtain ⟨r, er, hf, es⟩ := P.go i (by lia)
      have n1 : hd + i + 1 < rs.length := g.inr (hd + i) (hd + i + 1) r er (fall_leads hf)
      have s8 : Same H7 (upd H7 pp (.tup [.int ((hd + i : Nat) : Int), .int ((hd + (1 + i) : Nat) : Int)])) := (Same.refl H7).new npp
      have h8 : upd H7 pp (.tup [.int ((hd + i : Nat) : Int), .int ((hd + (1 + i) : Nat) : Int)]) pp = some (.tup [.int ((hd + i : Nat) : Int), .int ((hd + (1 + i) : Nat) : Int)]) := upd_same
      generalize upd H7 pp (.tup [.int ((hd + i : Nat) : Int), .int ((hd + (1 + i) : Nat) : Int)]) = H8 at s8 h8 ⊢
      have S8 := ((S5.trans s6).trans s7).trans s8
      obtain ⟨v', r', ev, er', ra⟩ := hA.get (i := hd + i) (by lia)
      rw [er] at er'; cases er'
      obtain ⟨pr, xs, rfl, hp0⟩ := ra.ref
      have ev' : rvs[((hd + i : Nat) : Int).toNat]? = some (.ref pr) := by rw [Int.toNat_natCast]; exact ev
      refine ⟨pp, _, rfl, SqT.of h8, rfl, _, _, rfl, _, _, rfl, rfl, ?_⟩
      refine ⟨_, rfl, _, rfl, ixT (S8 _ _ hrt) (by lia) ev' (ixT (S8 _ _ hp0) (by decide) rfl (.inr (.inr (.inl ⟨rfl, _, rfl, if_dec (fun c => ?_) (fun c => ?_)⟩))))⟩
      · obtain ⟨a, rfl⟩ := word_give (str_inj c)
        cases hf
      · refine ⟨_, rfl, _, rfl, .inl ⟨_, _, rfl, rfl, rt, hd + i + 1, rvs, rs, rfl, S8 _ _ hrt, hA.imp fun _ _ z => z.mono (.of_same S8), g, n1, _, rfl, .inr (.inr (.inl ⟨rfl, _, rfl, if_not (fun c => ?_) (fun _ => ?_)⟩))⟩⟩
        · exact absurd (by rw [es]; exact congrArg V.int (by lia)) c
        · exact ⟨_, _, rfl, s7.trans s8⟩
    · rintro σ' H7 ⟨o6, o7, rfl, s7⟩
      have S7 := (S5.trans s6).trans s7
      have hl7 := s7 _ _ (s6 _ _ hl5)
      obtain ⟨v', r, ev, er, ra⟩ := hA.get (i := hd + m) mlt
      obtain ⟨pr, xs, rfl, hp0⟩ := ra.ref
      have ev' : rvs[((hd + m : Nat) : Int).toNat]? = some (.ref pr) := by rw [Int.toNat_natCast]; exact ev
      have stm := P.st m (Nat.le_refl m)
      cases e with
      | none =>
        obtain ⟨r', hr', he⟩ := P.fin0 rfl
        rw [er] at hr'; cases hr'
        refine ⟨_, rfl, rfl, _, rfl, iteT ?_⟩
        refine ⟨_, rfl, _, rfl, _, rfl, ixLast (SqL.of hl7) (pc_last hd m) (ixT (S7 _ _ hrt) (by lia) ev' (ixT (S7 _ _ hp0) (by decide) rfl (.inr (.inr (.inl ⟨rfl, ?_⟩)))))⟩
        have : decide (V.str (word r) = V.str "give") = true := by
          refine decide_eq_true ?_
          cases r with
          | give a => rfl
          | jump to => have := stm.2 _ er; cases this
          | _ => cases he
        rw [this]
        exact q H7 S7
      | some t =>
        obtain ⟨r', hr', hf, ht, htop⟩ := P.fin1 t rfl
        rw [er] at hr'; cases hr'
        have n1 : hd + m + 1 < rs.length := g.inr (hd + m) (hd + m + 1) r er (fall_leads hf)
        refine ⟨_, rfl, rfl, _, rfl, iteF ?_⟩
        refine ⟨_, rfl, _, rfl, _, rfl, ixLast (SqL.of hl7) (pc_last hd m) (ixT (S7 _ _ hrt) (by lia) ev' (ixT (S7 _ _ hp0) (by decide) rfl (.inr (.inr (.inl ⟨rfl, _, rfl, if_not (fun _ => ?_) (fun c => ?_)⟩)))))⟩
        · refine ⟨_, rfl, _, rfl, inN (S7 _ _ htl) ⟨_, rfl, ?_⟩⟩
          rw [decide_eq_true ((hmem t).mpr htop)]
          refine iteT ⟨_, rfl, _, rfl, _, rfl, ixLast (SqL.of hl7) (pc_last hd m) (.inl ⟨_, _, rfl, rfl, rt, hd + m + 1, rvs, rs, rfl, S7 _ _ hrt, hA.imp fun _ _ z => z.mono (.of_same S7), g, n1, _, rfl, .inr (.inr (.inl ⟨rfl, ?_⟩))⟩)⟩
          have : decide (V.int ((Sd rs (hd + m + 1) : Nat) : Int) = endV (some t)) = true := decide_eq_true (by rw [ht]; rfl)
          rw [this]
          exact q H7 S7
        · obtain ⟨a, rfl⟩ := word_give (str_inj c)
          cases hf
end Bg
end
section
set_option Elab.async false
set_option linter.all false
set_option maxRecDepth 100000
set_option maxHeartbeats 4000000
namespace Bg
open PySem L2
theorem Evr.each {rs : List BRow} {hs ev : List Nat} (v : Evr rs hs ev) : ∀ h ∈ hs, ∃ m e, Piece rs h m e := by
  induction v with
  | nil => intro h m; cases m
  | @snoc hs ev h m e v p ih =>
    intro h' mm
    rcases List.mem_append.mp mm with z | z
    · exact ih h' z
    · rw [List.mem_singleton.mp z]; exact ⟨m, e, p⟩
theorem evr_all {rs : List BRow} (g : RowsGood rs) {hs ev ns : List Nat} (v : Evr rs hs ev) (hp : hs.Pairwise (· < ·)) (hm : ∀ t, t ∈ hs ↔ Top rs t) (hn : ∀ m, m ∈ ns ↔ Stood rs m) (np : ns.Pairwise (· < ·)) : ev = ns := by
  refine nats_one (v.pw hp fun h m => (hm h).mp m) np fun x => ?_
  rw [v.mem, hn]
  constructor
  · rintro ⟨h, _, m, e, p, a, b⟩
    have := p.st (x - h) (by lia)
    rwa [show h + (x - h) = x by lia] at this
  · intro st
    obtain ⟨h, k, e, t, p, a, b⟩ := cover g (fun h t => v.each h ((hm h).mpr t)) st.1
    rw [sd_self st.2] at a b
    exact ⟨h, (hm h).mpr t, k, e, p, a, b⟩
theorem r_law {K : PySem.W.Frag} {vs : List V} {H : Hp} {Q : VK} {E : XK} (h : sp_law K vs H Q E) : t_law K { nx := fun _ H' => Q .non H', rt := Q } (start N_law vs) H := by
  obtain ⟨scr, zs, rfl, hscr, hzs, q⟩ := h
  refine ⟨_, rfl, (by show 3 ≤ sizeLine; decide), fun st hst => ?_⟩
  have S1 : Stt K (upd H st (.lst [.ref scr, .int 0, .int 0])) st 0 := ⟨scr, zs, 0, upd_same, hscr.mono (.of_same ((Same.refl H).new hst)), hzs⟩
  show t_law_10 K _ [some (.ref scr), some (.ref st), none, none, none, none, none, none] (upd H st (.lst [.ref scr, .int 0, .int 0]))
  generalize upd H st (.lst [.ref scr, .int 0, .int 0]) = H1 at S1 ⊢
  refine ⟨_, rfl, st, 14, 0, rfl, S1, by decide, by decide, by decide, fun pp pvs bs ys cs k4 H4 hpp hA ok _ S4 l4 B4 => .inr ⟨_, rfl, pp, rfl, ⟨_, SqT.of hpp⟩, for_tup (xs := pvs) (fun _ σ' H' => ∃ o3 o4 o5 o6 o7, σ' = [some (.ref scr), some (.ref st), some (.ref pp), o3, o4, o5, o6, o7] ∧ Same H4 H') ⟨_, _, _, _, _, rfl, .refl _⟩ ?_ ?_ fun σ' H' _ => q H'⟩⟩
  · rintro j σ' H' _ ⟨_, _, _, _, _, _, s⟩
    exact SqT.of (s _ _ hpp)
  · rintro j x σ' H5 hx ⟨o3, o4, o5, o6, o7, rfl, s5⟩
    obtain ⟨b, hb, hP⟩ := hA.of_v hx
    obtain ⟨a, pa, rt, rvs, rfl, ha, hpa, hrt, hR⟩ := hP.mono (.of_same s5)
    have g := (ok.part b (List.mem_of_getElem? hb)).good
    have r64 := g.few
    have R5 : RtA H5 rt b.rows := ⟨rvs, hrt, hR, g⟩
    show t_law_8 K _ [some (.ref scr), some (.ref st), some (.ref pp), some (.ref a), o4, o5, o6, o7] H5
    refine ⟨_, rfl, ixT ha (by decide) rfl ?_⟩
    show t_law_7 K _ [some (.ref scr), some (.ref st), some (.ref pp), some (.ref a), some (.ref rt), o5, o6, o7] H5
    refine ⟨_, rfl, rt, b.rows, rfl, R5, fun tl hs H6 hm hp htl ntl s6 => ?_⟩
    show t_law_6 K _ [some (.ref scr), some (.ref st), some (.ref pp), some (.ref a), some (.ref rt), some (.ref tl), o6, o7] H6
    refine ⟨(by show 0 ≤ sizeLine; decide), fun le nle => ?_⟩
    have s7 : Same H6 (upd H6 le (.lst [])) := (Same.refl H6).new nle
    have h7 : upd H6 le (.lst []) le = some (.lst (intsV [])) := upd_same
    show t_law_5 K _ [some (.ref scr), some (.ref st), some (.ref pp), some (.ref a), some (.ref rt), some (.ref tl), some (.ref le), o7] _
    generalize upd H6 le (.lst []) = H7 at s7 h7 ⊢
    have S7 := s6.trans s7
    have htl7 := s7 _ _ htl
    refine .inl ⟨_, rfl, tl, rfl, ⟨_, SqL.of htl7⟩, for_list (xs := intsV hs) (fun i σ' H' => ∃ (le : Addr) (ev : List Nat) (o7 : Option V), σ' = [some (.ref scr), some (.ref st), some (.ref pp), some (.ref a), some (.ref rt), some (.ref tl), some (.ref le), o7] ∧ H' le = some (.lst (intsV ev)) ∧ Evr b.rows (hs.take i) ev ∧ ev.length ≤ 100 * i ∧ Same H7 H')
      ⟨le, [], _, rfl, h7, .nil, Nat.zero_le _, Same.refl _⟩ ?_ ?_ ?_⟩
    · rintro i σ' H' _ ⟨_, _, _, _, _, _, _, s⟩
      exact SqL.of (s _ _ htl7)
    · rintro i x σ' H8 hx ⟨le, ev, o7, rfl, h8, V8, evl, s8⟩
      obtain ⟨n, hn, rfl⟩ := ints_at hx
      have S8 := S7.trans s8
      have top : Top b.rows n := (hm n).mp (List.mem_of_getElem? hn)
      have il : i < hs.length := (List.getElem?_eq_some_iff.mp hn).1
      have hl64 := nodup_lt (hp.imp fun z => Nat.ne_of_lt z) fun x hx => stood_lt g (top_stood g ((hm x).mp hx))
      have tk : hs.take (i + 1) = hs.take i ++ [n] := by rw [List.take_succ, hn]; rfl
      show t_law_4 K _ [some (.ref scr), some (.ref st), some (.ref pp), some (.ref a), some (.ref rt), some (.ref tl), some (.ref le), some (.int (n : Nat))] H8
      refine ⟨_, rfl, _, rfl, _, rfl, rt, tl, n, hs, b.rows, rfl, R5.same S8, s8 _ _ htl7, hm, top, fun H9 s9 => ⟨_, rfl, iteF ?_⟩⟩
      have S9 := S8.trans s9
      refine ⟨_, rfl, _, rfl, rt, n, b.rows, rfl, R5.same S9, top, fun v1 m1 e1 H10 a1 p1 s10 => ⟨_, rfl, _, rfl, rt, n, b.rows, rfl, R5.same (S9.trans s10), top, fun v2 m2 e2 H11 a2 p2 s11 => ?_⟩⟩
      obtain ⟨rfl, rfl⟩ := p1.one p2
      refine eq_pc (a1.same s11) a2 ⟨_, rfl, iteF ?_⟩
      have S11 := (S9.trans s10).trans s11
      have T11 := ((s9.trans s10).trans s11)
      show t_law_3 K _ [some (.ref scr), some (.ref st), some (.ref pp), some (.ref a), some (.ref rt), some (.ref tl), some (.ref le), some (.int (n : Nat))] H11
      refine ⟨_, rfl, _, rfl, _, rfl, rt, n, b.rows, rfl, R5.same S11, top, fun v3 m3 e3 H12 a3 p3 s12 => ?_⟩
      obtain ⟨p, l, rfl, hpt, hl⟩ := a3
      obtain ⟨rfl, rfl⟩ := p1.one p3
      have mlt := stood_lt g (p1.st _ (Nat.le_refl _))
      refine ixT hpt (by decide) rfl (.inr (.inr (.inl ⟨le, l, _, _, rfl, rfl, s12 _ _ (T11 _ _ h8), hl, Nat.le_of_lt (smallL (by rw [intsV_len, intsV_len, pc_len]; lia)), fun l2 n2 => ?_⟩)))
      refine ⟨l2, ev ++ pc n m1, _, rfl, ?_, ?_, ?_, ((s8.trans T11).trans s12).new n2⟩
      · rw [upd_same]; unfold intsV; rw [List.map_append]
      · rw [tk]; exact .snoc V8 p1
      · rw [List.length_append, pc_len]; lia
    · rintro σ' H8 ⟨le, ev, o7, rfl, h8, V8, evl, s8⟩
      rw [intsV_len, List.take_length] at V8
      have S8 := S7.trans s8
      have evlt := nodup_lt ((V8.pw hp fun h m => (hm h).mp m).imp fun z => Nat.ne_of_lt z) fun x hx => by
        obtain ⟨h, _, m, e, p, c, d⟩ := (V8.mem x).mp hx
        have := p.st (x - h) (by lia)
        rw [show h + (x - h) = x by lia] at this
        exact stood_lt g this
      show t_law_2 K _ [some (.ref scr), some (.ref st), some (.ref pp), some (.ref a), some (.ref rt), some (.ref tl), some (.ref le), o7] H8
      refine ⟨_, rfl, le, ev.map fun (n : Nat) => (n : Int), rfl, SqL.of (by rw [castV]; exact h8), by rw [List.length_map]; lia, fun l2 ns' n2 perm srt => ?_⟩
      have evnd : ev.Nodup := (V8.pw hp fun h m => (hm h).mp m).imp fun z => Nat.ne_of_lt z
      obtain ⟨ms, e1, e2, e3⟩ := sort_nats (F := ev) (fun x => perm.mem_iff) (perm.nodup_iff.mpr (by unfold List.Nodup; rw [List.pairwise_map]; exact evnd.imp fun h e => h (by lia))) srt
      rw [e1]
      have em : ms = ev := nats_one e2 (V8.pw hp fun h m => (hm h).mp m) e3
      subst em
      have s9 : Same H8 (upd H8 l2 (.lst (intsV ms))) := (Same.refl H8).new n2
      have h9 : upd H8 l2 (.lst (intsV ms)) l2 = some (.lst (intsV ms)) := upd_same
      generalize upd H8 l2 (.lst (intsV ms)) = H9 at s9 h9 ⊢
      have S9 := S8.trans s9
      obtain ⟨rv9, a9, b9, _⟩ := R5.same S9
      refine ⟨_, rfl, rt, rv9, b.rows, rfl, a9, b9, g, fun l3 ns H10 hn hp3 hl3 n3 s10 => ?_⟩
      have en := evr_all g V8 hp hm hn hp3
      subst en
      refine .inl (nats_ne (s10 _ _ h9) hl3 ⟨_, rfl, iteF ?_⟩)
      exact ⟨_, _, _, _, _, rfl, s5.trans (S9.trans s10)⟩
end Bg
end
set_option Elab.async false
set_option linter.all false
set_option maxRecDepth 100000
set_option maxHeartbeats 4000000
namespace Bg
open PySem PySem.Spec PyProof.Rows L2
section
variable {P : Program} {w : World} {K : PySem.W.Frag} {mg : Str → Option Value} {base : Heap}
theorem len_p_sets {vs : List V} {H : Hp} {Q : VK} {E : XK} (h : sp_p_sets K vs H Q E) : vs.length = PS_p_sets.length := by
  first | (obtain ⟨_, _, rfl, _⟩ := h; rfl)
theorem ok_p_sets {f : Addr} {fd : FuncData} (F : Fun K "sets" "sets" s_p_sets f fd) (B : Blt mg)  : FnOk P w K mg base CX0 K_p_sets f fd PS_p_sets (sp_p_sets K) :=
  F.ok sc_p_sets (fun vs H Q E h => len_p_sets h) fun cdv A outer s H vs Q E hr h => ⟨_, d_p_sets B hr, r_p_sets (E := E) h⟩
theorem len_p_goal {vs : List V} {H : Hp} {Q : VK} {E : XK} (h : sp_p_goal K vs H Q E) : vs.length = PS_p_goal.length := by
  first | (obtain ⟨_, _, rfl, _⟩ := h; rfl)
theorem ok_p_goal {f : Addr} {fd : FuncData} (F : Fun K "goal" "goal" s_p_goal f fd) (B : Blt mg)  : FnOk P w K mg base CX0 K_p_goal f fd PS_p_goal (sp_p_goal K) :=
  F.ok sc_p_goal (fun vs H Q E h => len_p_goal h) fun cdv A outer s H vs Q E hr h => ⟨_, d_p_goal B hr, r_p_goal (E := E) h⟩
theorem len_p_leads {vs : List V} {H : Hp} {Q : VK} {E : XK} (h : sp_p_leads K vs H Q E) : vs.length = PS_p_leads.length := by
  first | (obtain ⟨rfl, _⟩ := h; rfl) | (obtain ⟨_, rfl, _⟩ := h; rfl) | (obtain ⟨_, _, rfl, _⟩ := h; rfl) | (obtain ⟨_, _, _, rfl, _⟩ := h; rfl) | (obtain ⟨_, _, _, _, rfl, _⟩ := h; rfl) | (obtain ⟨_, _, _, _, _, rfl, _⟩ := h; rfl) | (obtain ⟨_, _, _, _, _, _, rfl, _⟩ := h; rfl) | (obtain ⟨_, _, _, _, _, _, _, rfl, _⟩ := h; rfl) | (obtain ⟨_, _, _, _, _, _, _, _, rfl, _⟩ := h; rfl) | (obtain ⟨_, _, _, _, _, _, _, _, _, rfl, _⟩ := h; rfl) | (obtain ⟨_, _, _, _, _, _, _, _, _, _, rfl, _⟩ := h; rfl) | (obtain ⟨_, _, _, _, _, _, _, _, _, _, _, rfl, _⟩ := h; rfl) | (obtain ⟨_, _, _, _, _, _, _, _, _, _, _, _, rfl, _⟩ := h; rfl) | (obtain ⟨_, _, _, _, _, _, _, _, _, _, _, _, _, rfl, _⟩ := h; rfl) | (obtain ⟨_, _, _, _, _, _, _, _, _, _, _, _, _, _, rfl, _⟩ := h; rfl) | (obtain ⟨_, _, _, _, _, _, _, _, _, _, _, _, _, _, _, rfl, _⟩ := h; rfl) | (obtain ⟨_, _, _, _, _, _, _, _, _, _, _, _, _, _, _, _, rfl, _⟩ := h; rfl) | (obtain ⟨_, _, _, _, _, _, _, _, _, _, _, _, _, _, _, _, _, rfl, _⟩ := h; rfl) | (obtain ⟨_, _, _, _, _, _, _, _, _, _, _, _, _, _, _, _, _, _, rfl, _⟩ := h; rfl) | (obtain ⟨_, _, _, _, _, _, _, _, _, _, _, _, _, _, _, _, _, _, _, rfl, _⟩ := h; rfl) | (obtain ⟨_, _, _, _, _, _, _, _, _, _, _, _, _, _, _, _, _, _, _, _, rfl, _⟩ := h; rfl) | (obtain ⟨_, _, _, _, _, _, _, _, _, _, _, _, _, _, _, _, _, _, _, _, _, rfl, _⟩ := h; rfl) | (obtain ⟨_, _, _, _, _, _, _, _, _, _, _, _, _, _, _, _, _, _, _, _, _, _, rfl, _⟩ := h; rfl) | (obtain ⟨_, _, _, _, _, _, _, _, _, _, _, _, _, _, _, _, _, _, _, _, _, _, _, rfl, _⟩ := h; rfl) | (obtain ⟨_, _, _, _, _, _, _, _, _, _, _, _, _, _, _, _, _, _, _, _, _, _, _, _, rfl, _⟩ := h; rfl) | (obtain ⟨_, _, _, _, _, _, _, _, _, _, _, _, _, _, _, _, _, _, _, _, _, _, _, _, _, rfl, _⟩ := h; rfl)
theorem ok_p_leads {f : Addr} {fd : FuncData} (F : Fun K "leads" "leads" s_p_leads f fd) (B : Blt mg) (c_p_goal : Callee P w K mg base "goal" PS_p_goal K_p_goal (sp_p_goal K)) : FnOk P w K mg base CX0 K_p_leads f fd PS_p_leads (sp_p_leads K) :=
  F.ok sc_p_leads (fun vs H Q E h => len_p_leads h) fun cdv A outer s H vs Q E hr h => ⟨_, d_p_leads B c_p_goal hr, r_p_leads (E := E) h⟩
theorem len_p_walked {vs : List V} {H : Hp} {Q : VK} {E : XK} (h : sp_p_walked K vs H Q E) : vs.length = PS_p_walked.length := by
  first | (obtain ⟨_, _, _, _, rfl, _⟩ := h; rfl)
theorem ok_p_walked {f : Addr} {fd : FuncData} {dV : Value} (F : FunD K "walked" "walked" s_p_walked dV f fd) (B : Blt mg) (c_p_sets : Callee P w K mg base "sets" PS_p_sets K_p_sets (sp_p_sets K)) (c_p_leads : Callee P w K mg base "leads" PS_p_leads K_p_leads (sp_p_leads K)) : FnOk P w K mg base CX0 K_p_walked f fd PS_p_walked (sp_p_walked K) :=
  F.ok sc_p_walked (fun vs H Q E h => len_p_walked h) fun cdv A outer s H vs Q E hr h => ⟨_, d_p_walked B c_p_sets c_p_leads hr, r_p_walked (E := E) h⟩
theorem len_p_come_to {vs : List V} {H : Hp} {Q : VK} {E : XK} (h : sp_p_come_to K vs H Q E) : vs.length = PS_p_come_to.length := by
  first | (obtain ⟨rfl, _⟩ := h; rfl) | (obtain ⟨_, rfl, _⟩ := h; rfl) | (obtain ⟨_, _, rfl, _⟩ := h; rfl) | (obtain ⟨_, _, _, rfl, _⟩ := h; rfl) | (obtain ⟨_, _, _, _, rfl, _⟩ := h; rfl) | (obtain ⟨_, _, _, _, _, rfl, _⟩ := h; rfl) | (obtain ⟨_, _, _, _, _, _, rfl, _⟩ := h; rfl) | (obtain ⟨_, _, _, _, _, _, _, rfl, _⟩ := h; rfl) | (obtain ⟨_, _, _, _, _, _, _, _, rfl, _⟩ := h; rfl) | (obtain ⟨_, _, _, _, _, _, _, _, _, rfl, _⟩ := h; rfl) | (obtain ⟨_, _, _, _, _, _, _, _, _, _, rfl, _⟩ := h; rfl) | (obtain ⟨_, _, _, _, _, _, _, _, _, _, _, rfl, _⟩ := h; rfl) | (obtain ⟨_, _, _, _, _, _, _, _, _, _, _, _, rfl, _⟩ := h; rfl) | (obtain ⟨_, _, _, _, _, _, _, _, _, _, _, _, _, rfl, _⟩ := h; rfl) | (obtain ⟨_, _, _, _, _, _, _, _, _, _, _, _, _, _, rfl, _⟩ := h; rfl) | (obtain ⟨_, _, _, _, _, _, _, _, _, _, _, _, _, _, _, rfl, _⟩ := h; rfl) | (obtain ⟨_, _, _, _, _, _, _, _, _, _, _, _, _, _, _, _, rfl, _⟩ := h; rfl) | (obtain ⟨_, _, _, _, _, _, _, _, _, _, _, _, _, _, _, _, _, rfl, _⟩ := h; rfl) | (obtain ⟨_, _, _, _, _, _, _, _, _, _, _, _, _, _, _, _, _, _, rfl, _⟩ := h; rfl) | (obtain ⟨_, _, _, _, _, _, _, _, _, _, _, _, _, _, _, _, _, _, _, rfl, _⟩ := h; rfl) | (obtain ⟨_, _, _, _, _, _, _, _, _, _, _, _, _, _, _, _, _, _, _, _, rfl, _⟩ := h; rfl) | (obtain ⟨_, _, _, _, _, _, _, _, _, _, _, _, _, _, _, _, _, _, _, _, _, rfl, _⟩ := h; rfl) | (obtain ⟨_, _, _, _, _, _, _, _, _, _, _, _, _, _, _, _, _, _, _, _, _, _, rfl, _⟩ := h; rfl) | (obtain ⟨_, _, _, _, _, _, _, _, _, _, _, _, _, _, _, _, _, _, _, _, _, _, _, rfl, _⟩ := h; rfl) | (obtain ⟨_, _, _, _, _, _, _, _, _, _, _, _, _, _, _, _, _, _, _, _, _, _, _, _, rfl, _⟩ := h; rfl) | (obtain ⟨_, _, _, _, _, _, _, _, _, _, _, _, _, _, _, _, _, _, _, _, _, _, _, _, _, rfl, _⟩ := h; rfl)
theorem ok_p_come_to {f : Addr} {fd : FuncData} (F : Fun K "come_to" "come_to" s_p_come_to f fd) (B : Blt mg) (c_p_walked_d1 : CalleeD P w K mg base "walked" PS_p_walked K_p_walked [.non] (sp_p_walked K)) : FnOk P w K mg base CX0 K_p_come_to f fd PS_p_come_to (sp_p_come_to K) :=
  F.ok sc_p_come_to (fun vs H Q E h => len_p_come_to h) fun cdv A outer s H vs Q E hr h => ⟨_, d_p_come_to B c_p_walked_d1 hr, r_p_come_to (E := E) h⟩
theorem len_p_stands {vs : List V} {H : Hp} {Q : VK} {E : XK} (h : sp_p_stands K vs H Q E) : vs.length = PS_p_stands.length := by
  first | (obtain ⟨_, _, _, _, rfl, _⟩ := h; rfl)
theorem ok_p_stands {f : Addr} {fd : FuncData} (F : Fun K "stands" "stands" s_p_stands f fd) (B : Blt mg) (c_p_goal : Callee P w K mg base "goal" PS_p_goal K_p_goal (sp_p_goal K)) : FnOk P w K mg base CX0 K_p_stands f fd PS_p_stands (sp_p_stands K) :=
  F.ok sc_p_stands (fun vs H Q E h => len_p_stands h) fun cdv A outer s H vs Q E hr h => ⟨_, d_p_stands B c_p_goal hr, r_p_stands (E := E) h⟩
theorem len_p_led_to {vs : List V} {H : Hp} {Q : VK} {E : XK} (h : sp_p_led_to K vs H Q E) : vs.length = PS_p_led_to.length := by
  first | (obtain ⟨_, _, rfl, _⟩ := h; rfl)
theorem ok_p_led_to {f : Addr} {fd : FuncData} (F : Fun K "led_to" "led_to" s_p_led_to f fd) (B : Blt mg) (c_p_come_to : Callee P w K mg base "come_to" PS_p_come_to K_p_come_to (sp_p_come_to K)) (c_p_stands : Callee P w K mg base "stands" PS_p_stands K_p_stands (sp_p_stands K)) (c_p_goal : Callee P w K mg base "goal" PS_p_goal K_p_goal (sp_p_goal K)) : FnOk P w K mg base CX0 K_p_led_to f fd PS_p_led_to (sp_p_led_to K) :=
  F.ok sc_p_led_to (fun vs H Q E h => len_p_led_to h) fun cdv A outer s H vs Q E hr h => ⟨_, d_p_led_to B c_p_come_to c_p_stands c_p_goal hr, r_p_led_to (E := E) h⟩
theorem len_p_heads {vs : List V} {H : Hp} {Q : VK} {E : XK} (h : sp_p_heads K vs H Q E) : vs.length = PS_p_heads.length := by
  first | (obtain ⟨_, _, rfl, _⟩ := h; rfl)
theorem ok_p_heads {f : Addr} {fd : FuncData} (F : Fun K "heads" "heads" s_p_heads f fd) (B : Blt mg) (c_p_stands : Callee P w K mg base "stands" PS_p_stands K_p_stands (sp_p_stands K)) (c_p_led_to : Callee P w K mg base "led_to" PS_p_led_to K_p_led_to (sp_p_led_to K)) : FnOk P w K mg base CX0 K_p_heads f fd PS_p_heads (sp_p_heads K) :=
  F.ok sc_p_heads (fun vs H Q E h => len_p_heads h) fun cdv A outer s H vs Q E hr h => ⟨_, d_p_heads B c_p_stands c_p_led_to hr, r_p_heads (E := E) h⟩
theorem len_p_as_keys {vs : List V} {H : Hp} {Q : VK} {E : XK} (h : sp_p_as_keys K vs H Q E) : vs.length = PS_p_as_keys.length := by
  first | (obtain ⟨_, _, rfl, _⟩ := h; rfl)
theorem ok_p_as_keys {f : Addr} {fd : FuncData} (F : Fun K "as_keys" "as_keys" s_p_as_keys f fd) (B : Blt mg)  : FnOk P w K mg base CX0 K_p_as_keys f fd PS_p_as_keys (sp_p_as_keys K) :=
  F.ok sc_p_as_keys (fun vs H Q E h => len_p_as_keys h) fun cdv A outer s H vs Q E hr h => ⟨_, d_p_as_keys B hr, r_p_as_keys (E := E) h⟩
theorem len_p_piece_of {vs : List V} {H : Hp} {Q : VK} {E : XK} (h : sp_p_piece_of K vs H Q E) : vs.length = PS_p_piece_of.length := by
  first | (obtain ⟨_, _, _, _, _, rfl, _⟩ := h; rfl)
theorem ok_p_piece_of {f : Addr} {fd : FuncData} (F : Fun K "piece_of" "piece_of" s_p_piece_of f fd) (B : Blt mg) (c_p_stands : Callee P w K mg base "stands" PS_p_stands K_p_stands (sp_p_stands K)) : FnOk P w K mg base CX0 K_p_piece_of f fd PS_p_piece_of (sp_p_piece_of K) :=
  F.ok sc_p_piece_of (fun vs H Q E h => len_p_piece_of h) fun cdv A outer s H vs Q E hr h => ⟨_, d_p_piece_of B c_p_stands hr, r_p_piece_of (E := E) h⟩
theorem len_p_piece {vs : List V} {H : Hp} {Q : VK} {E : XK} (h : sp_p_piece K vs H Q E) : vs.length = PS_p_piece.length := by
  first | (obtain ⟨_, _, _, rfl, _⟩ := h; rfl)
theorem ok_p_piece {f : Addr} {fd : FuncData} (F : Fun K "piece" "piece" s_p_piece f fd) (B : Blt mg) (c_p_heads : Callee P w K mg base "heads" PS_p_heads K_p_heads (sp_p_heads K)) (c_p_as_keys : Callee P w K mg base "as_keys" PS_p_as_keys K_p_as_keys (sp_p_as_keys K)) (c_p_piece_of : Callee P w K mg base "piece_of" PS_p_piece_of K_p_piece_of (sp_p_piece_of K)) : FnOk P w K mg base CX0 K_p_piece f fd PS_p_piece (sp_p_piece K) :=
  F.ok sc_p_piece (fun vs H Q E h => len_p_piece h) fun cdv A outer s H vs Q E hr h => ⟨_, d_p_piece B c_p_heads c_p_as_keys c_p_piece_of hr, r_p_piece (E := E) h⟩
theorem len_goal {vs : List V} {H : Hp} {Q : VK} {E : XK} (h : sp_goal K vs H Q E) : vs.length = PS_goal.length := by
  first | (obtain ⟨_, _, _, _, rfl, _⟩ := h; rfl)
theorem ok_goal {f : Addr} {fd : FuncData} (F : Fun K "_law_goal" "_law_goal" s_goal f fd) (B : Blt mg)  : FnOk P w K mg base CX0 K_goal f fd PS_goal (sp_goal K) :=
  F.ok sc_goal (fun vs H Q E h => len_goal h) fun cdv A outer s H vs Q E hr h => ⟨_, d_goal B hr, r_goal (E := E) h⟩
theorem len_right {vs : List V} {H : Hp} {Q : VK} {E : XK} (h : sp_right K vs H Q E) : vs.length = PS_right.length := by
  first | (obtain ⟨_, _, _, rfl, _⟩ := h; rfl) | (obtain ⟨_, _, _, _, _, rfl, _⟩ := h; rfl) | (obtain ⟨_, _, _, _, _, _, _, _, _, _, _, rfl, _⟩ := h; rfl)
theorem ok_right {f : Addr} {fd : FuncData} (F : Fun K "_law_right" "_law_right" s_right f fd) (B : Blt mg) (c_goal : Callee P w K mg base "_law_goal" PS_goal K_goal (sp_goal K)) (c_p_piece : Callee P w K mg base "piece" PS_p_piece K_p_piece (sp_p_piece K)) : FnOk P w K mg base CX0 K_right f fd PS_right (sp_right K) :=
  F.ok sc_right (fun vs H Q E h => len_right h) fun cdv A outer s H vs Q E hr h => ⟨_, d_right B c_goal c_p_piece hr, r_right (E := E) h⟩
theorem len_draw {vs : List V} {H : Hp} {Q : VK} {E : XK} (h : sp_draw K vs H Q E) : vs.length = PS_draw.length := by
  first | (obtain ⟨_, _, _, rfl, _⟩ := h; rfl)
theorem ok_draw {f : Addr} {fd : FuncData} (F : Fun K "_law_draw" "_law_draw" s_draw f fd) (B : Blt mg)  : FnOk P w K mg base CX0 K_draw f fd PS_draw (sp_draw K) :=
  F.ok sc_draw (fun vs H Q E h => len_draw h) fun cdv A outer s H vs Q E hr h => ⟨_, d_draw B hr, r_draw (E := E) h⟩
theorem len_filled {vs : List V} {H : Hp} {Q : VK} {E : XK} (h : sp_filled K vs H Q E) : vs.length = PS_filled.length := by
  first | (obtain ⟨_, _, _, _, _, _, _, _, _, _, rfl, _⟩ := h; rfl)
theorem ok_filled {f : Addr} {fd : FuncData} (F : Fun K "_law_filled" "_law_filled" s_filled f fd) (B : Blt mg) (c_draw : Callee P w K mg base "_law_draw" PS_draw K_draw (sp_draw K)) : FnOk P w K mg base CX0 K_filled f fd PS_filled (sp_filled K) :=
  F.ok sc_filled (fun vs H Q E h => len_filled h) fun cdv A outer s H vs Q E hr h => ⟨_, d_filled B c_draw hr, r_filled (E := E) h⟩
theorem len_leads {vs : List V} {H : Hp} {Q : VK} {E : XK} (h : sp_leads K vs H Q E) : vs.length = PS_leads.length := by
  first | (obtain ⟨_, _, _, _, _, rfl, _⟩ := h; rfl)
theorem ok_leads {f : Addr} {fd : FuncData} (F : Fun K "_law_leads" "_law_leads" s_leads f fd) (B : Blt mg)  : FnOk P w K mg base CX0 K_leads f fd PS_leads (sp_leads K) :=
  F.ok sc_leads (fun vs H Q E h => len_leads h) fun cdv A outer s H vs Q E hr h => ⟨_, d_leads B hr, r_leads (E := E) h⟩
theorem len_set_names {vs : List V} {H : Hp} {Q : VK} {E : XK} (h : sp_set_names K vs H Q E) : vs.length = PS_set_names.length := by
  first | (obtain ⟨_, _, _, _, _, _, _, _, rfl, _⟩ := h; rfl)
theorem ok_set_names {f : Addr} {fd : FuncData} (F : Fun K "_law_set_names" "_law_set_names" s_set_names f fd) (B : Blt mg) (c_leads : Callee P w K mg base "_law_leads" PS_leads K_leads (sp_leads K)) : FnOk P w K mg base CX0 K_set_names f fd PS_set_names (sp_set_names K) :=
  F.ok sc_set_names (fun vs H Q E h => len_set_names h) fun cdv A outer s H vs Q E hr h => ⟨_, d_set_names B c_leads hr, r_set_names (E := E) h⟩
theorem len_mended {vs : List V} {H : Hp} {Q : VK} {E : XK} (h : sp_mended K vs H Q E) : vs.length = PS_mended.length := by
  first | (obtain ⟨_, _, _, _, _, _, _, rfl, _⟩ := h; rfl)
theorem ok_mended {f : Addr} {fd : FuncData} (F : Fun K "_law_mended" "_law_mended" s_mended f fd) (B : Blt mg)  : FnOk P w K mg base CX0 K_mended f fd PS_mended (sp_mended K) :=
  F.ok sc_mended (fun vs H Q E h => len_mended h) fun cdv A outer s H vs Q E hr h => ⟨_, d_mended B hr, r_mended (E := E) h⟩
theorem len_worth {vs : List V} {H : Hp} {Q : VK} {E : XK} (h : sp_worth K vs H Q E) : vs.length = PS_worth.length := by
  first | (obtain ⟨_, _, rfl, _⟩ := h; rfl)
theorem ok_worth {f : Addr} {fd : FuncData} (F : Fun K "_law_worth" "_law_worth" s_worth f fd) (B : Blt mg) (c_draw : Callee P w K mg base "_law_draw" PS_draw K_draw (sp_draw K)) : FnOk P w K mg base CX0 K_worth f fd PS_worth (sp_worth K) :=
  F.ok sc_worth (fun vs H Q E h => len_worth h) fun cdv A outer s H vs Q E hr h => ⟨_, d_worth B c_draw hr, r_worth (E := E) h⟩
theorem len_rough_row {vs : List V} {H : Hp} {Q : VK} {E : XK} (h : sp_rough_row K vs H Q E) : vs.length = PS_rough_row.length := by
  first | (obtain ⟨_, _, _, _, _, _, _, rfl, _⟩ := h; rfl)
theorem ok_rough_row {f : Addr} {fd : FuncData} (F : Fun K "_law_rough_row" "_law_rough_row" s_rough_row f fd) (B : Blt mg) (c_draw : Callee P w K mg base "_law_draw" PS_draw K_draw (sp_draw K)) (c_worth : Callee P w K mg base "_law_worth" PS_worth K_worth (sp_worth K)) : FnOk P w K mg base CX0 K_rough_row f fd PS_rough_row (sp_rough_row K) :=
  F.ok sc_rough_row (fun vs H Q E h => len_rough_row h) fun cdv A outer s H vs Q E hr h => ⟨_, d_rough_row B c_draw c_worth hr, r_rough_row (E := E) h⟩
theorem len_part {vs : List V} {H : Hp} {Q : VK} {E : XK} (h : sp_part K vs H Q E) : vs.length = PS_part.length := by
  first | (obtain ⟨_, _, _, _, _, _, _, _, _, _, rfl, _⟩ := h; rfl)
theorem ok_part {f : Addr} {fd : FuncData} (F : Fun K "_law_part" "_law_part" s_part f fd) (B : Blt mg) (c_filled : Callee P w K mg base "_law_filled" PS_filled K_filled (sp_filled K)) (c_set_names : Callee P w K mg base "_law_set_names" PS_set_names K_set_names (sp_set_names K)) (c_mended : Callee P w K mg base "_law_mended" PS_mended K_mended (sp_mended K)) (c_rough_row : Callee P w K mg base "_law_rough_row" PS_rough_row K_rough_row (sp_rough_row K)) (c_draw : Callee P w K mg base "_law_draw" PS_draw K_draw (sp_draw K)) : FnOk P w K mg base CX0 K_part f fd PS_part (sp_part K) :=
  F.ok sc_part (fun vs H Q E h => len_part h) fun cdv A outer s H vs Q E hr h => ⟨_, d_part B c_filled c_set_names c_mended c_rough_row c_draw hr, r_part (E := E) h⟩
theorem len_names {vs : List V} {H : Hp} {Q : VK} {E : XK} (h : sp_names K vs H Q E) : vs.length = PS_names.length := by
  first | (obtain ⟨_, _, _, rfl, _⟩ := h; rfl)
theorem ok_names {f : Addr} {fd : FuncData} (F : Fun K "_law_names" "_law_names" s_names f fd) (B : Blt mg) (c_draw : Callee P w K mg base "_law_draw" PS_draw K_draw (sp_draw K)) : FnOk P w K mg base CX0 K_names f fd PS_names (sp_names K) :=
  F.ok sc_names (fun vs H Q E h => len_names h) fun cdv A outer s H vs Q E hr h => ⟨_, d_names B c_draw hr, r_names (E := E) h⟩
theorem len_program {vs : List V} {H : Hp} {Q : VK} {E : XK} (h : sp_program K vs H Q E) : vs.length = PS_program.length := by
  first | (obtain ⟨_, _, _, rfl, _⟩ := h; rfl)
theorem ok_program {f : Addr} {fd : FuncData} (F : Fun K "_law_program" "_law_program" s_program f fd) (B : Blt mg) (c_part : Callee P w K mg base "_law_part" PS_part K_part (sp_part K)) (c_draw : Callee P w K mg base "_law_draw" PS_draw K_draw (sp_draw K)) (c_names : Callee P w K mg base "_law_names" PS_names K_names (sp_names K)) : FnOk P w K mg base CX0 K_program f fd PS_program (sp_program K) :=
  F.ok sc_program (fun vs H Q E h => len_program h) fun cdv A outer s H vs Q E hr h => ⟨_, d_program B c_part c_draw c_names hr, r_program (E := E) h⟩
theorem len_law {vs : List V} {H : Hp} {Q : VK} {E : XK} (h : sp_law K vs H Q E) : vs.length = PS_law.length := by
  first | (obtain ⟨_, _, rfl, _⟩ := h; rfl)
theorem ok_law {f : Addr} {fd : FuncData} (F : Fun K "law" "law" s_law f fd) (B : Blt mg) (c_p_come_to : Callee P w K mg base "come_to" PS_p_come_to K_p_come_to (sp_p_come_to K)) (c_p_piece : Callee P w K mg base "piece" PS_p_piece K_p_piece (sp_p_piece K)) (c_right : Callee P w K mg base "_law_right" PS_right K_right (sp_right K)) (c_p_heads : Callee P w K mg base "heads" PS_p_heads K_p_heads (sp_p_heads K)) (c_program : Callee P w K mg base "_law_program" PS_program K_program (sp_program K)) : FnOk P w K mg base CX0 K_law f fd PS_law (sp_law K) :=
  F.ok sc_law (fun vs H Q E h => len_law h) fun cdv A outer s H vs Q E hr h => ⟨_, d_law B c_p_come_to c_p_piece c_right c_p_heads c_program hr, r_law (E := E) h⟩
end
theorem all_mk {l : PySem.W.OpenLaw} {w : World} {K : PySem.W.Frag} {h : Heap} {mg : Str → Option Value} {fa : Addr} (X : K.In h) (G : h.Ns mainGlobals mg) (hfa : mg "law" = some (.ref fa))
    {od0 an0 : Option Addr} {sl0 : Array (Option Value)} {oc0 kV0 dc0 pm0 cd0 ct0 : Value} {f0 : Addr}
    (a0 : PySem.W.nsIn K mainGlobals "sets" = some (some (.ref f0)))
    (l0 : K.lookup f0 = some ⟨oc0, od0, .func (PySem.W.fnOf "sets" "sets" (defArgs s_p_sets) (defBody s_p_sets) (defScope s_p_sets) .none kV0 dc0 pm0 an0 cd0 ct0), sl0⟩) (c0 : PySem.W.codeIn K cd0 "sets" = true) (k0 : PySem.W.keepIn K (.ref f0) = true)
    {od1 an1 : Option Addr} {sl1 : Array (Option Value)} {oc1 kV1 dc1 pm1 cd1 ct1 : Value} {f1 : Addr}
    (a1 : PySem.W.nsIn K mainGlobals "goal" = some (some (.ref f1)))
    (l1 : K.lookup f1 = some ⟨oc1, od1, .func (PySem.W.fnOf "goal" "goal" (defArgs s_p_goal) (defBody s_p_goal) (defScope s_p_goal) .none kV1 dc1 pm1 an1 cd1 ct1), sl1⟩) (c1 : PySem.W.codeIn K cd1 "goal" = true) (k1 : PySem.W.keepIn K (.ref f1) = true)
    {od2 an2 : Option Addr} {sl2 : Array (Option Value)} {oc2 kV2 dc2 pm2 cd2 ct2 : Value} {f2 : Addr}
    (a2 : PySem.W.nsIn K mainGlobals "leads" = some (some (.ref f2)))
    (l2 : K.lookup f2 = some ⟨oc2, od2, .func (PySem.W.fnOf "leads" "leads" (defArgs s_p_leads) (defBody s_p_leads) (defScope s_p_leads) .none kV2 dc2 pm2 an2 cd2 ct2), sl2⟩) (c2 : PySem.W.codeIn K cd2 "leads" = true) (k2 : PySem.W.keepIn K (.ref f2) = true)
    {od3 an3 : Option Addr} {sl3 : Array (Option Value)} {oc3 kV3 dc3 pm3 cd3 ct3 : Value} {f3 : Addr}
    {T3 : Addr} {ocT3 : Value} {odT3 : Option Addr} {nT3 : Nat} {slT3 : Array (Option Value)}
    (a3 : PySem.W.nsIn K mainGlobals "walked" = some (some (.ref f3)))
    (l3 : K.lookup f3 = some ⟨oc3, od3, .func (PySem.W.fnOf "walked" "walked" (defArgs s_p_walked) (defBody s_p_walked) (defScope s_p_walked) (.ref T3) kV3 dc3 pm3 an3 cd3 ct3), sl3⟩) (c3 : PySem.W.codeIn K cd3 "walked" = true) (k3 : PySem.W.keepIn K (.ref f3) = true)
    (t3 : K.lookup T3 = some ⟨ocT3, odT3, .seq #[Value.none] nT3, slT3⟩)
    {od4 an4 : Option Addr} {sl4 : Array (Option Value)} {oc4 kV4 dc4 pm4 cd4 ct4 : Value} {f4 : Addr}
    (a4 : PySem.W.nsIn K mainGlobals "come_to" = some (some (.ref f4)))
    (l4 : K.lookup f4 = some ⟨oc4, od4, .func (PySem.W.fnOf "come_to" "come_to" (defArgs s_p_come_to) (defBody s_p_come_to) (defScope s_p_come_to) .none kV4 dc4 pm4 an4 cd4 ct4), sl4⟩) (c4 : PySem.W.codeIn K cd4 "come_to" = true) (k4 : PySem.W.keepIn K (.ref f4) = true)
    {od5 an5 : Option Addr} {sl5 : Array (Option Value)} {oc5 kV5 dc5 pm5 cd5 ct5 : Value} {f5 : Addr}
    (a5 : PySem.W.nsIn K mainGlobals "stands" = some (some (.ref f5)))
    (l5 : K.lookup f5 = some ⟨oc5, od5, .func (PySem.W.fnOf "stands" "stands" (defArgs s_p_stands) (defBody s_p_stands) (defScope s_p_stands) .none kV5 dc5 pm5 an5 cd5 ct5), sl5⟩) (c5 : PySem.W.codeIn K cd5 "stands" = true) (k5 : PySem.W.keepIn K (.ref f5) = true)
    {od6 an6 : Option Addr} {sl6 : Array (Option Value)} {oc6 kV6 dc6 pm6 cd6 ct6 : Value} {f6 : Addr}
    (a6 : PySem.W.nsIn K mainGlobals "led_to" = some (some (.ref f6)))
    (l6 : K.lookup f6 = some ⟨oc6, od6, .func (PySem.W.fnOf "led_to" "led_to" (defArgs s_p_led_to) (defBody s_p_led_to) (defScope s_p_led_to) .none kV6 dc6 pm6 an6 cd6 ct6), sl6⟩) (c6 : PySem.W.codeIn K cd6 "led_to" = true) (k6 : PySem.W.keepIn K (.ref f6) = true)
    {od7 an7 : Option Addr} {sl7 : Array (Option Value)} {oc7 kV7 dc7 pm7 cd7 ct7 : Value} {f7 : Addr}
    (a7 : PySem.W.nsIn K mainGlobals "heads" = some (some (.ref f7)))
    (l7 : K.lookup f7 = some ⟨oc7, od7, .func (PySem.W.fnOf "heads" "heads" (defArgs s_p_heads) (defBody s_p_heads) (defScope s_p_heads) .none kV7 dc7 pm7 an7 cd7 ct7), sl7⟩) (c7 : PySem.W.codeIn K cd7 "heads" = true) (k7 : PySem.W.keepIn K (.ref f7) = true)
    {od8 an8 : Option Addr} {sl8 : Array (Option Value)} {oc8 kV8 dc8 pm8 cd8 ct8 : Value} {f8 : Addr}
    (a8 : PySem.W.nsIn K mainGlobals "as_keys" = some (some (.ref f8)))
    (l8 : K.lookup f8 = some ⟨oc8, od8, .func (PySem.W.fnOf "as_keys" "as_keys" (defArgs s_p_as_keys) (defBody s_p_as_keys) (defScope s_p_as_keys) .none kV8 dc8 pm8 an8 cd8 ct8), sl8⟩) (c8 : PySem.W.codeIn K cd8 "as_keys" = true) (k8 : PySem.W.keepIn K (.ref f8) = true)
    {od9 an9 : Option Addr} {sl9 : Array (Option Value)} {oc9 kV9 dc9 pm9 cd9 ct9 : Value} {f9 : Addr}
    (a9 : PySem.W.nsIn K mainGlobals "piece_of" = some (some (.ref f9)))
    (l9 : K.lookup f9 = some ⟨oc9, od9, .func (PySem.W.fnOf "piece_of" "piece_of" (defArgs s_p_piece_of) (defBody s_p_piece_of) (defScope s_p_piece_of) .none kV9 dc9 pm9 an9 cd9 ct9), sl9⟩) (c9 : PySem.W.codeIn K cd9 "piece_of" = true) (k9 : PySem.W.keepIn K (.ref f9) = true)
    {od10 an10 : Option Addr} {sl10 : Array (Option Value)} {oc10 kV10 dc10 pm10 cd10 ct10 : Value} {f10 : Addr}
    (a10 : PySem.W.nsIn K mainGlobals "piece" = some (some (.ref f10)))
    (l10 : K.lookup f10 = some ⟨oc10, od10, .func (PySem.W.fnOf "piece" "piece" (defArgs s_p_piece) (defBody s_p_piece) (defScope s_p_piece) .none kV10 dc10 pm10 an10 cd10 ct10), sl10⟩) (c10 : PySem.W.codeIn K cd10 "piece" = true) (k10 : PySem.W.keepIn K (.ref f10) = true)
    {od11 an11 : Option Addr} {sl11 : Array (Option Value)} {oc11 kV11 dc11 pm11 cd11 ct11 : Value} {f11 : Addr}
    (a11 : PySem.W.nsIn K mainGlobals "_law_goal" = some (some (.ref f11)))
    (l11 : K.lookup f11 = some ⟨oc11, od11, .func (PySem.W.fnOf "_law_goal" "_law_goal" (defArgs s_goal) (defBody s_goal) (defScope s_goal) .none kV11 dc11 pm11 an11 cd11 ct11), sl11⟩) (c11 : PySem.W.codeIn K cd11 "_law_goal" = true) (k11 : PySem.W.keepIn K (.ref f11) = true)
    {od12 an12 : Option Addr} {sl12 : Array (Option Value)} {oc12 kV12 dc12 pm12 cd12 ct12 : Value} {f12 : Addr}
    (a12 : PySem.W.nsIn K mainGlobals "_law_right" = some (some (.ref f12)))
    (l12 : K.lookup f12 = some ⟨oc12, od12, .func (PySem.W.fnOf "_law_right" "_law_right" (defArgs s_right) (defBody s_right) (defScope s_right) .none kV12 dc12 pm12 an12 cd12 ct12), sl12⟩) (c12 : PySem.W.codeIn K cd12 "_law_right" = true) (k12 : PySem.W.keepIn K (.ref f12) = true)
    {od13 an13 : Option Addr} {sl13 : Array (Option Value)} {oc13 kV13 dc13 pm13 cd13 ct13 : Value} {f13 : Addr}
    (a13 : PySem.W.nsIn K mainGlobals "_law_draw" = some (some (.ref f13)))
    (l13 : K.lookup f13 = some ⟨oc13, od13, .func (PySem.W.fnOf "_law_draw" "_law_draw" (defArgs s_draw) (defBody s_draw) (defScope s_draw) .none kV13 dc13 pm13 an13 cd13 ct13), sl13⟩) (c13 : PySem.W.codeIn K cd13 "_law_draw" = true) (k13 : PySem.W.keepIn K (.ref f13) = true)
    {od14 an14 : Option Addr} {sl14 : Array (Option Value)} {oc14 kV14 dc14 pm14 cd14 ct14 : Value} {f14 : Addr}
    (a14 : PySem.W.nsIn K mainGlobals "_law_filled" = some (some (.ref f14)))
    (l14 : K.lookup f14 = some ⟨oc14, od14, .func (PySem.W.fnOf "_law_filled" "_law_filled" (defArgs s_filled) (defBody s_filled) (defScope s_filled) .none kV14 dc14 pm14 an14 cd14 ct14), sl14⟩) (c14 : PySem.W.codeIn K cd14 "_law_filled" = true) (k14 : PySem.W.keepIn K (.ref f14) = true)
    {od15 an15 : Option Addr} {sl15 : Array (Option Value)} {oc15 kV15 dc15 pm15 cd15 ct15 : Value} {f15 : Addr}
    (a15 : PySem.W.nsIn K mainGlobals "_law_leads" = some (some (.ref f15)))
    (l15 : K.lookup f15 = some ⟨oc15, od15, .func (PySem.W.fnOf "_law_leads" "_law_leads" (defArgs s_leads) (defBody s_leads) (defScope s_leads) .none kV15 dc15 pm15 an15 cd15 ct15), sl15⟩) (c15 : PySem.W.codeIn K cd15 "_law_leads" = true) (k15 : PySem.W.keepIn K (.ref f15) = true)
    {od16 an16 : Option Addr} {sl16 : Array (Option Value)} {oc16 kV16 dc16 pm16 cd16 ct16 : Value} {f16 : Addr}
    (a16 : PySem.W.nsIn K mainGlobals "_law_set_names" = some (some (.ref f16)))
    (l16 : K.lookup f16 = some ⟨oc16, od16, .func (PySem.W.fnOf "_law_set_names" "_law_set_names" (defArgs s_set_names) (defBody s_set_names) (defScope s_set_names) .none kV16 dc16 pm16 an16 cd16 ct16), sl16⟩) (c16 : PySem.W.codeIn K cd16 "_law_set_names" = true) (k16 : PySem.W.keepIn K (.ref f16) = true)
    {od17 an17 : Option Addr} {sl17 : Array (Option Value)} {oc17 kV17 dc17 pm17 cd17 ct17 : Value} {f17 : Addr}
    (a17 : PySem.W.nsIn K mainGlobals "_law_mended" = some (some (.ref f17)))
    (l17 : K.lookup f17 = some ⟨oc17, od17, .func (PySem.W.fnOf "_law_mended" "_law_mended" (defArgs s_mended) (defBody s_mended) (defScope s_mended) .none kV17 dc17 pm17 an17 cd17 ct17), sl17⟩) (c17 : PySem.W.codeIn K cd17 "_law_mended" = true) (k17 : PySem.W.keepIn K (.ref f17) = true)
    {od18 an18 : Option Addr} {sl18 : Array (Option Value)} {oc18 kV18 dc18 pm18 cd18 ct18 : Value} {f18 : Addr}
    (a18 : PySem.W.nsIn K mainGlobals "_law_worth" = some (some (.ref f18)))
    (l18 : K.lookup f18 = some ⟨oc18, od18, .func (PySem.W.fnOf "_law_worth" "_law_worth" (defArgs s_worth) (defBody s_worth) (defScope s_worth) .none kV18 dc18 pm18 an18 cd18 ct18), sl18⟩) (c18 : PySem.W.codeIn K cd18 "_law_worth" = true) (k18 : PySem.W.keepIn K (.ref f18) = true)
    {od19 an19 : Option Addr} {sl19 : Array (Option Value)} {oc19 kV19 dc19 pm19 cd19 ct19 : Value} {f19 : Addr}
    (a19 : PySem.W.nsIn K mainGlobals "_law_rough_row" = some (some (.ref f19)))
    (l19 : K.lookup f19 = some ⟨oc19, od19, .func (PySem.W.fnOf "_law_rough_row" "_law_rough_row" (defArgs s_rough_row) (defBody s_rough_row) (defScope s_rough_row) .none kV19 dc19 pm19 an19 cd19 ct19), sl19⟩) (c19 : PySem.W.codeIn K cd19 "_law_rough_row" = true) (k19 : PySem.W.keepIn K (.ref f19) = true)
    {od20 an20 : Option Addr} {sl20 : Array (Option Value)} {oc20 kV20 dc20 pm20 cd20 ct20 : Value} {f20 : Addr}
    (a20 : PySem.W.nsIn K mainGlobals "_law_part" = some (some (.ref f20)))
    (l20 : K.lookup f20 = some ⟨oc20, od20, .func (PySem.W.fnOf "_law_part" "_law_part" (defArgs s_part) (defBody s_part) (defScope s_part) .none kV20 dc20 pm20 an20 cd20 ct20), sl20⟩) (c20 : PySem.W.codeIn K cd20 "_law_part" = true) (k20 : PySem.W.keepIn K (.ref f20) = true)
    {od21 an21 : Option Addr} {sl21 : Array (Option Value)} {oc21 kV21 dc21 pm21 cd21 ct21 : Value} {f21 : Addr}
    (a21 : PySem.W.nsIn K mainGlobals "_law_names" = some (some (.ref f21)))
    (l21 : K.lookup f21 = some ⟨oc21, od21, .func (PySem.W.fnOf "_law_names" "_law_names" (defArgs s_names) (defBody s_names) (defScope s_names) .none kV21 dc21 pm21 an21 cd21 ct21), sl21⟩) (c21 : PySem.W.codeIn K cd21 "_law_names" = true) (k21 : PySem.W.keepIn K (.ref f21) = true)
    {od22 an22 : Option Addr} {sl22 : Array (Option Value)} {oc22 kV22 dc22 pm22 cd22 ct22 : Value} {f22 : Addr}
    (a22 : PySem.W.nsIn K mainGlobals "_law_program" = some (some (.ref f22)))
    (l22 : K.lookup f22 = some ⟨oc22, od22, .func (PySem.W.fnOf "_law_program" "_law_program" (defArgs s_program) (defBody s_program) (defScope s_program) .none kV22 dc22 pm22 an22 cd22 ct22), sl22⟩) (c22 : PySem.W.codeIn K cd22 "_law_program" = true) (k22 : PySem.W.keepIn K (.ref f22) = true)
    {od23 an23 : Option Addr} {sl23 : Array (Option Value)} {oc23 kV23 dc23 pm23 cd23 ct23 : Value} {f23 : Addr}
    (a23 : PySem.W.nsIn K mainGlobals "law" = some (some (.ref f23)))
    (l23 : K.lookup f23 = some ⟨oc23, od23, .func (PySem.W.fnOf "law" "law" (defArgs s_law) (defBody s_law) (defScope s_law) .none kV23 dc23 pm23 an23 cd23 ct23), sl23⟩) (c23 : PySem.W.codeIn K cd23 "law" = true) (k23 : PySem.W.keepIn K (.ref f23) = true)
    (z_len : PySem.W.nsIn K mainGlobals "len" = some none) (z_range : PySem.W.nsIn K mainGlobals "range" = some none) (z_divmod : PySem.W.nsIn K mainGlobals "divmod" = some none) (z_max : PySem.W.nsIn K mainGlobals "max" = some none) (z_min : PySem.W.nsIn K mainGlobals "min" = some none) (z_sum : PySem.W.nsIn K mainGlobals "sum" = some none) (z_all : PySem.W.nsIn K mainGlobals "all" = some none) (z_isinstance : PySem.W.nsIn K mainGlobals "isinstance" = some none) (z_int : PySem.W.nsIn K mainGlobals "int" = some none) (z_bool : PySem.W.nsIn K mainGlobals "bool" = some none) (z_list : PySem.W.nsIn K mainGlobals "list" = some none) (z_tuple : PySem.W.nsIn K mainGlobals "tuple" = some none) (z_enumerate : PySem.W.nsIn K mainGlobals "enumerate" = some none) (z_zip : PySem.W.nsIn K mainGlobals "zip" = some none) (z_sorted : PySem.W.nsIn K mainGlobals "sorted" = some none) (z_set : PySem.W.nsIn K mainGlobals "set" = some none) (z_dict : PySem.W.nsIn K mainGlobals "dict" = some none) (z_str : PySem.W.nsIn K mainGlobals "str" = some none) (z_any : PySem.W.nsIn K mainGlobals "any" = some none) (z_reversed : PySem.W.nsIn K mainGlobals "reversed" = some none) (z_abs : PySem.W.nsIn K mainGlobals "abs" = some none) :
    ∃ fd : FuncData, (∀ (s : Shared) (v : Value), BindsTo s fd ⟨[v], []⟩ [("_law_script", v)]) ∧ ∀ base : Heap, K.In base → base.Ns mainGlobals mg → FnOk l.prog w K mg base CX0 K_law fa fd PS_law (sp_law K) := by
  have e := hfa.symm.trans (PySem.W.mg_of X G a23)
  cases e
  have B : Blt mg := ⟨PySem.W.mg_none_of X G z_len, PySem.W.mg_none_of X G z_range, PySem.W.mg_none_of X G z_divmod, PySem.W.mg_none_of X G z_max, PySem.W.mg_none_of X G z_min, PySem.W.mg_none_of X G z_sum, PySem.W.mg_none_of X G z_all, PySem.W.mg_none_of X G z_isinstance, PySem.W.mg_none_of X G z_int, PySem.W.mg_none_of X G z_bool, PySem.W.mg_none_of X G z_list, PySem.W.mg_none_of X G z_tuple, PySem.W.mg_none_of X G z_enumerate, PySem.W.mg_none_of X G z_zip, PySem.W.mg_none_of X G z_sorted, PySem.W.mg_none_of X G z_set, PySem.W.mg_none_of X G z_dict, PySem.W.mg_none_of X G z_str, PySem.W.mg_none_of X G z_any, PySem.W.mg_none_of X G z_reversed, PySem.W.mg_none_of X G z_abs⟩
  have F0 := fun_mk (st := s_p_sets) l0 c0 k0
  have b0 := F0.binds (ps := PS_p_sets) fun _ _ _ _ _ _ us hl => by (obtain ⟨_, rfl⟩ := le1 (us := us) hl); rfl
  have F1 := fun_mk (st := s_p_goal) l1 c1 k1
  have b1 := F1.binds (ps := PS_p_goal) fun _ _ _ _ _ _ us hl => by (obtain ⟨_, rfl⟩ := le1 (us := us) hl); rfl
  have F2 := fun_mk (st := s_p_leads) l2 c2 k2
  have b2 := F2.binds (ps := PS_p_leads) fun _ _ _ _ _ _ us hl => by (obtain ⟨_, _, rfl⟩ := le2 (us := us) hl); rfl
  have F3 := funD_mk (st := s_p_walked) l3 c3 k3
  have F4 := fun_mk (st := s_p_come_to) l4 c4 k4
  have b4 := F4.binds (ps := PS_p_come_to) fun _ _ _ _ _ _ us hl => by (obtain ⟨_, rfl⟩ := le1 (us := us) hl); rfl
  have F5 := fun_mk (st := s_p_stands) l5 c5 k5
  have b5 := F5.binds (ps := PS_p_stands) fun _ _ _ _ _ _ us hl => by (obtain ⟨_, _, rfl⟩ := le2 (us := us) hl); rfl
  have F6 := fun_mk (st := s_p_led_to) l6 c6 k6
  have b6 := F6.binds (ps := PS_p_led_to) fun _ _ _ _ _ _ us hl => by (obtain ⟨_, rfl⟩ := le1 (us := us) hl); rfl
  have F7 := fun_mk (st := s_p_heads) l7 c7 k7
  have b7 := F7.binds (ps := PS_p_heads) fun _ _ _ _ _ _ us hl => by (obtain ⟨_, rfl⟩ := le1 (us := us) hl); rfl
  have F8 := fun_mk (st := s_p_as_keys) l8 c8 k8
  have b8 := F8.binds (ps := PS_p_as_keys) fun _ _ _ _ _ _ us hl => by (obtain ⟨_, rfl⟩ := le1 (us := us) hl); rfl
  have F9 := fun_mk (st := s_p_piece_of) l9 c9 k9
  have b9 := F9.binds (ps := PS_p_piece_of) fun _ _ _ _ _ _ us hl => by (obtain ⟨_, _, _, rfl⟩ := le3 (us := us) hl); rfl
  have F10 := fun_mk (st := s_p_piece) l10 c10 k10
  have b10 := F10.binds (ps := PS_p_piece) fun _ _ _ _ _ _ us hl => by (obtain ⟨_, _, rfl⟩ := le2 (us := us) hl); rfl
  have F11 := fun_mk (st := s_goal) l11 c11 k11
  have b11 := F11.binds (ps := PS_goal) fun _ _ _ _ _ _ us hl => by (obtain ⟨_, _, rfl⟩ := le2 (us := us) hl); rfl
  have F12 := fun_mk (st := s_right) l12 c12 k12
  have b12 := F12.binds (ps := PS_right) fun _ _ _ _ _ _ us hl => by (obtain ⟨_, _, _, rfl⟩ := le3 (us := us) hl); rfl
  have F13 := fun_mk (st := s_draw) l13 c13 k13
  have b13 := F13.binds (ps := PS_draw) fun _ _ _ _ _ _ us hl => by (obtain ⟨_, _, rfl⟩ := le2 (us := us) hl); rfl
  have F14 := fun_mk (st := s_filled) l14 c14 k14
  have b14 := F14.binds (ps := PS_filled) fun _ _ _ _ _ _ us hl => by (obtain ⟨_, _, _, rfl⟩ := le3 (us := us) hl); rfl
  have F15 := fun_mk (st := s_leads) l15 c15 k15
  have b15 := F15.binds (ps := PS_leads) fun _ _ _ _ _ _ us hl => by (obtain ⟨_, _, rfl⟩ := le2 (us := us) hl); rfl
  have F16 := fun_mk (st := s_set_names) l16 c16 k16
  have b16 := F16.binds (ps := PS_set_names) fun _ _ _ _ _ _ us hl => by (obtain ⟨_, _, _, rfl⟩ := le3 (us := us) hl); rfl
  have F17 := fun_mk (st := s_mended) l17 c17 k17
  have b17 := F17.binds (ps := PS_mended) fun _ _ _ _ _ _ us hl => by (obtain ⟨_, _, _, rfl⟩ := le3 (us := us) hl); rfl
  have F18 := fun_mk (st := s_worth) l18 c18 k18
  have b18 := F18.binds (ps := PS_worth) fun _ _ _ _ _ _ us hl => by (obtain ⟨_, rfl⟩ := le1 (us := us) hl); rfl
  have F19 := fun_mk (st := s_rough_row) l19 c19 k19
  have b19 := F19.binds (ps := PS_rough_row) fun _ _ _ _ _ _ us hl => by (obtain ⟨_, _, _, _, rfl⟩ := le4 (us := us) hl); rfl
  have F20 := fun_mk (st := s_part) l20 c20 k20
  have b20 := F20.binds (ps := PS_part) fun _ _ _ _ _ _ us hl => by (obtain ⟨_, _, _, _, _, _, rfl⟩ := le6 (us := us) hl); rfl
  have F21 := fun_mk (st := s_names) l21 c21 k21
  have b21 := F21.binds (ps := PS_names) fun _ _ _ _ _ _ us hl => by (obtain ⟨_, _, rfl⟩ := le2 (us := us) hl); rfl
  have F22 := fun_mk (st := s_program) l22 c22 k22
  have b22 := F22.binds (ps := PS_program) fun _ _ _ _ _ _ us hl => by (obtain ⟨_, _, rfl⟩ := le2 (us := us) hl); rfl
  have F23 := fun_mk (st := s_law) l23 c23 k23
  refine ⟨PySem.W.fnOf "law" "law" (defArgs s_law) (defBody s_law) (defScope s_law) .none kV23 dc23 pm23 an23 cd23 ct23, fun s v => .of_eq rfl, fun base _ _ => ?_⟩
  have c_p_sets : Callee l.prog w K mg base "sets" PS_p_sets K_p_sets (sp_p_sets K) := ⟨⟨_, _, PySem.W.mg_of X G a0, k0, b0, ok_p_sets F0 B⟩⟩
  have c_p_goal : Callee l.prog w K mg base "goal" PS_p_goal K_p_goal (sp_p_goal K) := ⟨⟨_, _, PySem.W.mg_of X G a1, k1, b1, ok_p_goal F1 B⟩⟩
  have c_p_leads : Callee l.prog w K mg base "leads" PS_p_leads K_p_leads (sp_p_leads K) := ⟨⟨_, _, PySem.W.mg_of X G a2, k2, b2, ok_p_leads F2 B c_p_goal⟩⟩
  have b3_1 : Binds K _ PS_p_walked [Value.none] := fun s us X hl => by (obtain ⟨_, rfl⟩ := le1 (us := us) (show us.length = 1 from by rw [List.length_append] at hl; exact Nat.succ.inj hl)); exact PySem.W.binds_K (fd := PySem.W.fnOf "walked" "walked" (defArgs s_p_walked) (defBody s_p_walked) (defScope s_p_walked) (.ref T3) kV3 dc3 pm3 an3 cd3 ct3) X rfl t3 rfl rfl rfl
  have c_p_walked_d1 : CalleeD l.prog w K mg base "walked" PS_p_walked K_p_walked [.non] (sp_p_walked K) := ⟨⟨_, _, _, PySem.W.mg_of X G a3, k3, b3_1, .cons rfl .nil, ok_p_walked F3 B c_p_sets c_p_leads⟩⟩
  have c_p_come_to : Callee l.prog w K mg base "come_to" PS_p_come_to K_p_come_to (sp_p_come_to K) := ⟨⟨_, _, PySem.W.mg_of X G a4, k4, b4, ok_p_come_to F4 B c_p_walked_d1⟩⟩
  have c_p_stands : Callee l.prog w K mg base "stands" PS_p_stands K_p_stands (sp_p_stands K) := ⟨⟨_, _, PySem.W.mg_of X G a5, k5, b5, ok_p_stands F5 B c_p_goal⟩⟩
  have c_p_led_to : Callee l.prog w K mg base "led_to" PS_p_led_to K_p_led_to (sp_p_led_to K) := ⟨⟨_, _, PySem.W.mg_of X G a6, k6, b6, ok_p_led_to F6 B c_p_come_to c_p_stands c_p_goal⟩⟩
  have c_p_heads : Callee l.prog w K mg base "heads" PS_p_heads K_p_heads (sp_p_heads K) := ⟨⟨_, _, PySem.W.mg_of X G a7, k7, b7, ok_p_heads F7 B c_p_stands c_p_led_to⟩⟩
  have c_p_as_keys : Callee l.prog w K mg base "as_keys" PS_p_as_keys K_p_as_keys (sp_p_as_keys K) := ⟨⟨_, _, PySem.W.mg_of X G a8, k8, b8, ok_p_as_keys F8 B⟩⟩
  have c_p_piece_of : Callee l.prog w K mg base "piece_of" PS_p_piece_of K_p_piece_of (sp_p_piece_of K) := ⟨⟨_, _, PySem.W.mg_of X G a9, k9, b9, ok_p_piece_of F9 B c_p_stands⟩⟩
  have c_p_piece : Callee l.prog w K mg base "piece" PS_p_piece K_p_piece (sp_p_piece K) := ⟨⟨_, _, PySem.W.mg_of X G a10, k10, b10, ok_p_piece F10 B c_p_heads c_p_as_keys c_p_piece_of⟩⟩
  have c_goal : Callee l.prog w K mg base "_law_goal" PS_goal K_goal (sp_goal K) := ⟨⟨_, _, PySem.W.mg_of X G a11, k11, b11, ok_goal F11 B⟩⟩
  have c_right : Callee l.prog w K mg base "_law_right" PS_right K_right (sp_right K) := ⟨⟨_, _, PySem.W.mg_of X G a12, k12, b12, ok_right F12 B c_goal c_p_piece⟩⟩
  have c_draw : Callee l.prog w K mg base "_law_draw" PS_draw K_draw (sp_draw K) := ⟨⟨_, _, PySem.W.mg_of X G a13, k13, b13, ok_draw F13 B⟩⟩
  have c_filled : Callee l.prog w K mg base "_law_filled" PS_filled K_filled (sp_filled K) := ⟨⟨_, _, PySem.W.mg_of X G a14, k14, b14, ok_filled F14 B c_draw⟩⟩
  have c_leads : Callee l.prog w K mg base "_law_leads" PS_leads K_leads (sp_leads K) := ⟨⟨_, _, PySem.W.mg_of X G a15, k15, b15, ok_leads F15 B⟩⟩
  have c_set_names : Callee l.prog w K mg base "_law_set_names" PS_set_names K_set_names (sp_set_names K) := ⟨⟨_, _, PySem.W.mg_of X G a16, k16, b16, ok_set_names F16 B c_leads⟩⟩
  have c_mended : Callee l.prog w K mg base "_law_mended" PS_mended K_mended (sp_mended K) := ⟨⟨_, _, PySem.W.mg_of X G a17, k17, b17, ok_mended F17 B⟩⟩
  have c_worth : Callee l.prog w K mg base "_law_worth" PS_worth K_worth (sp_worth K) := ⟨⟨_, _, PySem.W.mg_of X G a18, k18, b18, ok_worth F18 B c_draw⟩⟩
  have c_rough_row : Callee l.prog w K mg base "_law_rough_row" PS_rough_row K_rough_row (sp_rough_row K) := ⟨⟨_, _, PySem.W.mg_of X G a19, k19, b19, ok_rough_row F19 B c_draw c_worth⟩⟩
  have c_part : Callee l.prog w K mg base "_law_part" PS_part K_part (sp_part K) := ⟨⟨_, _, PySem.W.mg_of X G a20, k20, b20, ok_part F20 B c_filled c_set_names c_mended c_rough_row c_draw⟩⟩
  have c_names : Callee l.prog w K mg base "_law_names" PS_names K_names (sp_names K) := ⟨⟨_, _, PySem.W.mg_of X G a21, k21, b21, ok_names F21 B c_draw⟩⟩
  have c_program : Callee l.prog w K mg base "_law_program" PS_program K_program (sp_program K) := ⟨⟨_, _, PySem.W.mg_of X G a22, k22, b22, ok_program F22 B c_part c_draw c_names⟩⟩
  exact ok_law F23 B c_p_come_to c_p_piece c_right c_p_heads c_program
theorem scr_of {K : PySem.W.Frag} {H : Hp} {a : Addr} {ns : List Int} (o : Only H) (h : SqL K H a (ns.map V.int)) : ScrAt K H a ns := by
  rcases h with (h | h) | h
  · rcases o a with z | ⟨ob, xs, z⟩ <;> rw [h] at z <;> cases z
  · exact .inl h
  · exact .inr h
theorem walk {l : PySem.W.OpenLaw} {q : Program} {loose : List Str} {XP : (Str → Option Value) → Heap → Prop} {YP : World → Heap → Prop} {d : DefRec} {K : Params → PySem.W.Frag} (hn : l.most = some 63) (hdf : d.params.defaults = [])
    (hY : ∀ (w : World) (h : Heap), YP w h → (K w.params).In h)
    (F : ∀ (w : World) (mg : Str → Option Value) (fa : Addr) (h : Heap), (K w.params).In h → h.Ns mainGlobals mg → mg d.name = some (.ref fa) →
      ∃ fd : FuncData, (∀ (s : Shared) (u : Value), BindsTo s fd ⟨[u], []⟩ [("_law_script", u)]) ∧ ∀ base : Heap, (K w.params).In base → base.Ns mainGlobals mg → FnOk l.prog w (K w.params) mg base CX0 K_law fa fd PS_law (sp_law (K w.params))) :
    PySem.W.WalkO q loose XP YP l.row.toRowW d [] (fun f vs => PySem.call f vs) :=
  L2.walk_of (n := 63) (k := K_law) (x := "_law_script") (CX := fun _ => CX0) (sp := fun w => sp_law (K w.params)) hn (by decide) hdf ⟨rfl, by decide, by decide⟩ hY F (fun _ _ a ns hl hO hS => ⟨a, ns, rfl, scr_of hO hS, hl, fun _ => rfl⟩) fun _ _ _ _ _ z => z
end Bg
open PySem PySem.W PyProof.Rows
set_option maxRecDepth 100000 in
set_option maxHeartbeats 0 in
theorem PySem.Challenge.cw_beltgarth_k73_pieces_holds : PySem.Challenge.rw_beltgarth_k73_pieces.Holds := by
  w_on; o_law; k_head; (case hw => w_witness2)
  k_fill
  refine Bg.walk (l := PySem.Challenge.rw_beltgarth_k73_pieces) rfl rfl (fun w h Y => PySem.W.kIn_of Y) ?F
  case F =>
    intro w mg fa h KX G hmg
    refine' Bg.all_mk KX G hmg ?a0 ?l0 ?c0 ?k0 ?a1 ?l1 ?c1 ?k1 ?a2 ?l2 ?c2 ?k2 ?a3 ?l3 ?c3 ?k3 ?t3 ?a4 ?l4 ?c4 ?k4 ?a5 ?l5 ?c5 ?k5 ?a6 ?l6 ?c6 ?k6 ?a7 ?l7 ?c7 ?k7 ?a8 ?l8 ?c8 ?k8 ?a9 ?l9 ?c9 ?k9 ?a10 ?l10 ?c10 ?k10 ?a11 ?l11 ?c11 ?k11 ?a12 ?l12 ?c12 ?k12 ?a13 ?l13 ?c13 ?k13 ?a14 ?l14 ?c14 ?k14 ?a15 ?l15 ?c15 ?k15 ?a16 ?l16 ?c16 ?k16 ?a17 ?l17 ?c17 ?k17 ?a18 ?l18 ?c18 ?k18 ?a19 ?l19 ?c19 ?k19 ?a20 ?l20 ?c20 ?k20 ?a21 ?l21 ?c21 ?k21 ?a22 ?l22 ?c22 ?k22 ?a23 ?l23 ?c23 ?k23 ?z_len ?z_range ?z_divmod ?z_max ?z_min ?z_sum ?z_all ?z_isinstance ?z_int ?z_bool ?z_list ?z_tuple ?z_enumerate ?z_zip ?z_sorted ?z_set ?z_dict ?z_str ?z_any ?z_reversed ?z_abs
    (case a0 => k_is)
    (case l0 => k_is)
    (case c0 => k_is)
    (case k0 => k_is)
    (case a1 => k_is)
    (case l1 => k_is)
    (case c1 => k_is)
    (case k1 => k_is)
    (case a2 => k_is)
    (case l2 => k_is)
    (case c2 => k_is)
    (case k2 => k_is)
    (case a3 => k_is)
    (case l3 => k_is)
    (case c3 => k_is)
    (case k3 => k_is)
    (case t3 => k_is)
    (case a4 => k_is)
    (case l4 => k_is)
    (case c4 => k_is)
    (case k4 => k_is)
    (case a5 => k_is)
    (case l5 => k_is)
    (case c5 => k_is)
    (case k5 => k_is)
    (case a6 => k_is)
    (case l6 => k_is)
    (case c6 => k_is)
    (case k6 => k_is)
    (case a7 => k_is)
    (case l7 => k_is)
    (case c7 => k_is)
    (case k7 => k_is)
    (case a8 => k_is)
    (case l8 => k_is)
    (case c8 => k_is)
    (case k8 => k_is)
    (case a9 => k_is)
    (case l9 => k_is)
    (case c9 => k_is)
    (case k9 => k_is)
    (case a10 => k_is)
    (case l10 => k_is)
    (case c10 => k_is)
    (case k10 => k_is)
    (case a11 => k_is)
    (case l11 => k_is)
    (case c11 => k_is)
    (case k11 => k_is)
    (case a12 => k_is)
    (case l12 => k_is)
    (case c12 => k_is)
    (case k12 => k_is)
    (case a13 => k_is)
    (case l13 => k_is)
    (case c13 => k_is)
    (case k13 => k_is)
    (case a14 => k_is)
    (case l14 => k_is)
    (case c14 => k_is)
    (case k14 => k_is)
    (case a15 => k_is)
    (case l15 => k_is)
    (case c15 => k_is)
    (case k15 => k_is)
    (case a16 => k_is)
    (case l16 => k_is)
    (case c16 => k_is)
    (case k16 => k_is)
    (case a17 => k_is)
    (case l17 => k_is)
    (case c17 => k_is)
    (case k17 => k_is)
    (case a18 => k_is)
    (case l18 => k_is)
    (case c18 => k_is)
    (case k18 => k_is)
    (case a19 => k_is)
    (case l19 => k_is)
    (case c19 => k_is)
    (case k19 => k_is)
    (case a20 => k_is)
    (case l20 => k_is)
    (case c20 => k_is)
    (case k20 => k_is)
    (case a21 => k_is)
    (case l21 => k_is)
    (case c21 => k_is)
    (case k21 => k_is)
    (case a22 => k_is)
    (case l22 => k_is)
    (case c22 => k_is)
    (case k22 => k_is)
    (case a23 => k_is)
    (case l23 => k_is)
    (case c23 => k_is)
    (case k23 => k_is)
    (case z_len => k_is)
    (case z_range => k_is)
    (case z_divmod => k_is)
    (case z_max => k_is)
    (case z_min => k_is)
    (case z_sum => k_is)
    (case z_all => k_is)
    (case z_isinstance => k_is)
    (case z_int => k_is)
    (case z_bool => k_is)
    (case z_list => k_is)
    (case z_tuple => k_is)
    (case z_enumerate => k_is)
    (case z_zip => k_is)
    (case z_sorted => k_is)
    (case z_set => k_is)
    (case z_dict => k_is)
    (case z_str => k_is)
    (case z_any => k_is)
    (case z_reversed => k_is)
    (case z_abs => k_is)
