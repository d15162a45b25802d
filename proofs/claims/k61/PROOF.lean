import PyProof.Rows.All
import Wide.All
import OpenK.AllK
import Wide.FinOn
import Lean
import PyProof.EqAt
import PyProof.EqKinds
import PyProof.TupleCall
import PyProof.SetKind
import PyProof.Rows.SetFrom
import PyProof.FactsAll.set
import PyProof.DictIter
import PyProof.DictWalks
import PyProof.WalksMore
import PyProof.MakeMany
import PyProof.FactsAll.subtypes_4
import KE.KDictSum
import KE.KRevIter
import PyProof.TupleOps
import PyProof.FactsAll.tuple
import PySem.Challenge.RW_beltgarth_k61_wanted_and_crowded
section
set_option linter.all false
namespace Bg
theorem ls0 {α : Type} {P : List α → Prop} {us : List α} (h : us.length = 0) (k : P []) : P us := by cases us with | nil => exact k | cons a r => cases h
theorem ls1 {α : Type} {P : List α → Prop} {us : List α} (h : us.length = 1) (k : ∀ x0, P [x0]) : P us := by cases us with | nil => cases h | cons a r => exact ls0 (P := fun r => P (a :: r)) (Nat.succ.inj h) (k a)
theorem ls2 {α : Type} {P : List α → Prop} {us : List α} (h : us.length = 2) (k : ∀ x0 x1, P [x0, x1]) : P us := by cases us with | nil => cases h | cons a r => exact ls1 (P := fun r => P (a :: r)) (Nat.succ.inj h) (k a)
theorem ls3 {α : Type} {P : List α → Prop} {us : List α} (h : us.length = 3) (k : ∀ x0 x1 x2, P [x0, x1, x2]) : P us := by cases us with | nil => cases h | cons a r => exact ls2 (P := fun r => P (a :: r)) (Nat.succ.inj h) (k a)
theorem ls4 {α : Type} {P : List α → Prop} {us : List α} (h : us.length = 4) (k : ∀ x0 x1 x2 x3, P [x0, x1, x2, x3]) : P us := by cases us with | nil => cases h | cons a r => exact ls3 (P := fun r => P (a :: r)) (Nat.succ.inj h) (k a)
theorem le2 {α : Type} {us : List α} (h : us.length = 2) : ∃ x0 x1, us = [x0, x1] := ls2 (P := fun us => ∃ x0 x1, us = [x0, x1]) h fun x0 x1 => ⟨x0, x1, rfl⟩
theorem le3 {α : Type} {us : List α} (h : us.length = 3) : ∃ x0 x1 x2, us = [x0, x1, x2] := ls3 (P := fun us => ∃ x0 x1 x2, us = [x0, x1, x2]) h fun x0 x1 x2 => ⟨x0, x1, x2, rfl⟩
theorem le4 {α : Type} {us : List α} (h : us.length = 4) : ∃ x0 x1 x2 x3, us = [x0, x1, x2, x3] := ls4 (P := fun us => ∃ x0 x1 x2 x3, us = [x0, x1, x2, x3]) h fun x0 x1 x2 x3 => ⟨x0, x1, x2, x3, rfl⟩
end Bg
end
section
set_option Elab.async false
set_option linter.all false
set_option maxRecDepth 100000
namespace L2
open PySem PySem.Spec PyProof.Rows
abbrev Key := Sum Int Str
def keyIs : Key → Value → Bool
  | .inl k, v => Value.isInt k v
  | .inr x, v => Value.isStrOf x v
def keyH (w : World) : Key → Int
  | .inl k => hashInt k
  | .inr x => hashStr w x
theorem keyIs_shape : ∀ {k : Key} {v : Value}, keyIs k v = true → (∃ i t, k = Sum.inl i ∧ v = Value.int i t) ∨ (∃ x t, k = Sum.inr x ∧ v = Value.str x t)
  | .inl i, v, h => by
    obtain ⟨t, e⟩ := Value.isInt_shape (k := i) (v := v) h
    exact .inl ⟨i, t, rfl, e⟩
  | .inr x, v, h => by
    obtain ⟨t, e⟩ := Value.isStrOf_shape (x := x) (v := v) h
    exact .inr ⟨x, t, rfl, e⟩
theorem key_ll (a b : Int) : decide ((Sum.inl a : Key) = Sum.inl b) = (a == b) := by
  by_cases e : a = b
  · subst e; simp
  · have h : ¬ (Sum.inl a : Key) = Sum.inl b := fun q => e (Sum.inl.inj q)
    rw [decide_eq_false h]
    exact (beq_eq_false_iff_ne.mpr e).symm
theorem key_rr (a b : Str) : decide ((Sum.inr a : Key) = Sum.inr b) = decide (a = b) := by
  by_cases e : a = b
  · subst e; simp
  · have h : ¬ (Sum.inr a : Key) = Sum.inr b := fun q => e (Sum.inr.inj q)
    rw [decide_eq_false h, decide_eq_false e]
theorem key_lr (a : Int) (b : Str) : decide ((Sum.inl a : Key) = Sum.inr b) = false := decide_eq_false (fun q => nomatch q)
theorem key_rl (a : Str) (b : Int) : decide ((Sum.inr a : Key) = Sum.inl b) = false := decide_eq_false (fun q => nomatch q)
def mixKind (prog : Program) (w : World) : PySem.KeyKind prog w Key where
  is := keyIs
  hash := keyH w
  inj := fun v a b ha hb => by
    rcases keyIs_shape ha with ⟨i, t, rfl, rfl⟩ | ⟨x, t, rfl, rfl⟩
    · rcases keyIs_shape hb with ⟨j, u, rfl, e⟩ | ⟨y, u, rfl, e⟩
      · injection e with e1 _; rw [e1]
      · exact nomatch e
    · rcases keyIs_shape hb with ⟨j, u, rfl, e⟩ | ⟨y, u, rfl, e⟩
      · exact nomatch e
      · injection e with e1 _; rw [e1]
  byValue := fun k v h => by
    rcases keyIs_shape h with ⟨i, t, rfl, rfl⟩ | ⟨x, t, rfl, rfl⟩ <;> rfl
  pyHash := fun hv h => by
    rcases keyIs_shape hv with ⟨i, t, rfl, rfl⟩ | ⟨x, t, rfl, rfl⟩
    · exact wpAny_pyHash_int h
    · exact wpAny_pyHash_str h
  eqBool := fun hu hv h => by
    rcases keyIs_shape hu with ⟨i, t, rfl, rfl⟩ | ⟨x, t, rfl, rfl⟩
    · rcases keyIs_shape hv with ⟨j, u, rfl, rfl⟩ | ⟨y, u, rfl, rfl⟩
      · rw [key_ll] at h; exact wpAny_eqBool_int h
      · rw [key_lr] at h; exact SeqAt.EqAt.int_str i t y u _ _ _ _ h
    · rcases keyIs_shape hv with ⟨j, u, rfl, rfl⟩ | ⟨y, u, rfl, rfl⟩
      · rw [key_rl] at h; exact SeqAt.EqAt.str_int x t j u _ _ _ _ h
      · rw [key_rr] at h; exact wpAny_eqBool_str h
  «strs» := fun k x t v h => by
    rcases keyIs_shape h with ⟨i, u, rfl, e⟩ | ⟨y, u, rfl, e⟩
    · exact nomatch e
    · injection e with e1 _
      subst e1
      cases v <;> rfl
end L2
namespace L2
open PySem PySem.Spec PyProof.Rows
inductive V where
  | non | bl (b : Bool) | int (i : Int) | str (x : Str) | byt (b : Array UInt8) | flt (b : UInt64) | ref (a : Addr) | ty (n : String)
  deriving DecidableEq
def RelV : V → Value → Prop
  | .non, u => u = Value.none
  | .bl b, u => u = Value.bool b
  | .int i, u => ∃ t, u = Value.int i t
  | .str x, u => ∃ t, u = Value.str x t
  | .byt b, u => ∃ t, u = Value.bytes b t
  | .flt b, u => ∃ t, u = Value.float b t
  | .ref a, u => u = Value.ref a
  | .ty n, u => u = Value.type n
abbrev Vals : List V → List Value → Prop := Paired RelV
theorem Vals.length {xs : List V} {us : List Value} (r : Vals xs us) : xs.length = us.length := Paired.length r
theorem Vals.get : ∀ {xs : List V} {us : List Value} {i : Nat} {x : V}, Vals xs us → xs[i]? = some x → ∃ u, us[i]? = some u ∧ RelV x u
  | _, _, _, _, .nil, e => by simp at e
  | _, _, 0, _, .cons r _, e => by simp at e; subst e; exact ⟨_, rfl, r⟩
  | _, _, i + 1, x, .cons _ t, e => by
    obtain ⟨u, h1, h2⟩ := Vals.get (i := i) (x := x) t (by simpa using e)
    exact ⟨u, by simpa using h1, h2⟩
theorem Vals.set {x : V} {u : Value} (r : RelV x u) : ∀ {xs : List V} {us : List Value} (i : Nat), Vals xs us → Vals (xs.set i x) (us.set i u)
  | _, _, _, .nil => .nil
  | _, _, 0, .cons _ t => .cons r t
  | _, _, i + 1, .cons q t => .cons q (Vals.set r i t)
theorem Vals.append : ∀ {xs ys : List V} {us ws : List Value}, Vals xs us → Vals ys ws → Vals (xs ++ ys) (us ++ ws)
  | _, _, _, _, .nil, s => s
  | _, _, _, _, .cons r t, s => .cons r (Vals.append t s)
theorem Vals.take : ∀ {xs : List V} {us : List Value} (n : Nat), Vals xs us → Vals (xs.take n) (us.take n)
  | _, _, 0, _ => .nil
  | _, _, _ + 1, .nil => .nil
  | _, _, n + 1, .cons r t => .cons r (Vals.take n t)
theorem Vals.drop : ∀ {xs : List V} {us : List Value} (n : Nat), Vals xs us → Vals (xs.drop n) (us.drop n)
  | _, _, 0, r => r
  | _, _, _ + 1, .nil => .nil
  | _, _, n + 1, .cons _ t => Vals.drop n t
def RelO : Option V → Option Value → Prop
  | some v, some u => RelV v u
  | none, none => True
  | _, _ => False
def KV {κ : Type} : List (κ × V) → List (κ × Value) → Prop := Paired fun (p : κ × V) (q : κ × Value) => p.1 = q.1 ∧ RelV p.2 q.2
def kV : Key → V
  | .inl i => .int i
  | .inr x => .str x
inductive HO where
  /-- a list -/
  | lst (xs : List V)
  /-- a tuple (never changes) -/
  | tup (xs : List V)
  /-- a dict whose keys are ints and texts; one whose keys are tuples of ints and texts (the empty one is both) -/
  | dK (kvs : List (Key × V)) | dT (kvs : List (List Key × V))
  /-- a set of ints: its members, its size -/
  | set (S : Int → Bool) (n : Nat)
  /-- an instance of the class at C, its dict at dx, its attributes -/
  | ins (C dx : Addr) (fs : List (Str × V))
  /-- the dict of the instance at x -/
  | own (x : Addr)
  /-- the dict of an exception -/
  | xd (fs : List (Str × V))
  /-- a bound method, f of x -/
  | met (f x : Addr)
  /-- a range object lo, lo + 1, .. below hi -/
  | rng (lo hi : Int)
  /-- a thing that is known to the object (the script; a dict while a loop walks it): read, never written while it is so -/
  | frz (o : Obj) (u : HO)
  /-- a code object's table -/
  | tbl (ps : Array Value)
  /-- any other thing, by what is true of its one object (a def of one's own: SetO a S n := HO.ext fun h => ..) -/
  | ext (φ : Heap → Prop)
abbrev Hp := Addr → Option HO
def upd (H : Hp) (a : Addr) (o : HO) : Hp := fun b => if b = a then some o else H b
theorem upd_same {H : Hp} {a : Addr} {o : HO} : upd H a o a = some o := by unfold upd; rw [if_pos rfl]
theorem upd_ne {H : Hp} {a b : Addr} {o : HO} (h : b ≠ a) : upd H a o b = H b := by unfold upd; rw [if_neg h]
theorem ne_of {H : Hp} {a b : Addr} {o u : HO} (h : H a = some o) (h' : H b = some u) (d : o ≠ u) : a ≠ b := by
  intro e; subst e; rw [h] at h'; exact d (Option.some.inj h')
theorem ne_of_none {H : Hp} {a b : Addr} {o : HO} (h : H a = some o) (h' : H b = none) : a ≠ b := by
  intro e; subst e; rw [h] at h'; cases h'
def IsTupN (h : Heap) (a : Addr) (items : Array Value) : Prop := ∃ o, h.get? a = some o ∧ (o.cls = .type "tuple" ∧ o.dict = none) ∧ ∃ n, o.data = .seq items n
theorem IsTupN.tup {h : Heap} {a : Addr} {items : Array Value} (x : IsTupN h a items) : IsTup h a items := let ⟨o, e, c, n⟩ := x; ⟨o, e, c.1, n⟩
theorem IsTupN.lt {h : Heap} {a : Addr} {items : Array Value} (x : IsTupN h a items) : a < h.objs.size := let ⟨_, e, _⟩ := x; Heap.lt_size e
theorem IsTupN.new (h : Heap) (items : Array Value) : IsTupN (h.push { cls := .type "tuple", data := .seq items }) h.objs.size items := ⟨_, Heap.get?_push_size _ rfl, ⟨rfl, rfl⟩, _, rfl⟩
section
variable (P : Program) (w : World)
def ObjOk (H : Hp) (h : Heap) (a : Addr) : HO → Prop
  | .lst xs => xs.length ≤ sizeLine ∧ ∃ (its : List Value) (n : Nat), Vals xs its ∧ h.get? a = some { cls := .type "list", data := .seq its.toArray n }
  | .tup xs => xs.length ≤ sizeLine ∧ ∃ its : List Value, Vals xs its ∧ IsTupN h a its.toArray
  | .dK kvs => kvs.length ≤ sizeLine ∧ (a == sysModules) = false ∧ ∃ vs, KV kvs vs ∧ h.DictOf (mixKind P w) a vs
  | .dT kvs => kvs.length ≤ sizeLine ∧ (a == sysModules) = false ∧ ∃ xs : List (List Key × Addr × Value),
      Paired (fun (p : List Key × V) (q : List Key × Addr × Value) => p.1 = q.1 ∧ H q.2.1 = some (.tup (p.1.map kV)) ∧ RelV p.2 q.2.2) kvs xs ∧
      ∃ o es ep, h.get? a = some o ∧ o.ExactDict ∧ o.data = .dict es ep ∧ es.toList = xs.map (entryOfKey (tupleKind (mixKind P w))) ∧ (xs.map (·.1)).Nodup
  | .set S n => h.SetOf (intKind P w) a S n
  | .ins C dx fs => H dx = some (.own a) ∧ fs.length ≤ 1000 ∧ dx ≠ a ∧ h.get? a = some (PySem.W.instObj C dx) ∧
      ∃ mA, h.Ns1 dx mA ∧ (∀ f, RelO (fs.lookup f) (mA f)) ∧ PySem.Within mA (fs.map (·.1))
  | .own _ => ∃ o, h.get? a = some o
  | .xd fs => ∃ mA, h.Ns1 a mA ∧ ∀ f, RelO (fs.lookup f) (mA f)
  | .rng lo hi => ∃ t u v, h.get? a = some { cls := .type "range", data := .fields #[.int lo t, .int hi u, .int 1 v] }
  | .frz o u => h.get? a = some o ∧ ObjOk H h a u
  | .tbl ps => h.get? a = some { cls := .none, data := .fields ps }
  | .met f x => h.get? a = some (PySem.W.methodObj (.ref f) (.ref x))
  | .ext φ => φ h ∧ (∃ o, h.get? a = some o) ∧ ∀ h1 h2 : Heap, φ h1 → (∀ o, h1.get? a = some o → h2.get? a = some o) → φ h2
def HOk (H : Hp) (h : Heap) : Prop := ∀ a o, H a = some o → ObjOk P w H h a o
end
section
variable {P : Program} {w : World} {H H' : Hp} {h h' : Heap} {a : Addr} {o : HO}
theorem ObjOk.lt (x : ObjOk P w H h a o) : a < h.objs.size := by
  cases o with
  | lst xs => obtain ⟨_, _, _, _, e⟩ := x; exact Heap.lt_size e
  | tup xs => obtain ⟨_, _, _, p⟩ := x; exact p.lt
  | dK kvs => obtain ⟨_, _, _, _, o, _, _, e, _⟩ := x; exact Heap.lt_size e
  | dT kvs => obtain ⟨_, _, _, _, o, _, _, e, _⟩ := x; exact Heap.lt_size e
  | set S n => obtain ⟨o, _, _, _, e, _⟩ := x; exact Heap.lt_size e
  | ins C dx fs => obtain ⟨_, _, _, e, _⟩ := x; exact Heap.lt_size e
  | own y => obtain ⟨_, e⟩ := x; exact Heap.lt_size e
  | xd fs => obtain ⟨_, ⟨_, _, _, e, _⟩, _⟩ := x; exact Heap.lt_size e
  | rng lo hi => obtain ⟨_, _, _, e⟩ := x; exact Heap.lt_size e
  | frz ob u => obtain ⟨e, _⟩ := x; exact Heap.lt_size e
  | tbl ps => exact Heap.lt_size (show h.get? a = some _ from x)
  | met f y => exact Heap.lt_size (show h.get? a = some _ from x)
  | ext φ => obtain ⟨_, ⟨_, e⟩, _⟩ := x; exact Heap.lt_size e
theorem Paired.mapP {α β : Type} {F G : α → β → Prop} : ∀ {l₁ : List α} {l₂ : List β}, Paired F l₁ l₂ → (∀ a b, F a b → G a b) → Paired G l₁ l₂
  | _, _, .nil, _ => .nil
  | _, _, .cons r t, f => .cons (f _ _ r) (Paired.mapP t f)
theorem ObjOk.stay (x : ObjOk P w H h a o) (k : ∀ b u, (b = a ∨ H b = some (.own a)) → h.get? b = some u → h'.get? b = some u)
    (ho : ∀ b, H b = some (.own a) → H' b = some (.own a)) (ht : ∀ b xs, H b = some (.tup xs) → H' b = some (.tup xs)) : ObjOk P w H' h' a o := by
  induction o with
  | lst xs => obtain ⟨z, its, n, r, e⟩ := x; exact ⟨z, its, n, r, k _ _ (.inl rfl) e⟩
  | tup xs => obtain ⟨z, its, r, ob, e, c⟩ := x; exact ⟨z, its, r, ob, k _ _ (.inl rfl) e, c⟩
  | dK kvs => obtain ⟨z, y, vs, r, ob, es, ep, e, c⟩ := x; exact ⟨z, y, vs, r, ob, es, ep, k _ _ (.inl rfl) e, c⟩
  | dT kvs =>
    obtain ⟨z, y, xs, r, ob, es, ep, e, c⟩ := x
    exact ⟨z, y, xs, Paired.mapP r fun p q z => ⟨z.1, ht _ _ z.2.1, z.2.2⟩, ob, es, ep, k _ _ (.inl rfl) e, c⟩
  | set S n => obtain ⟨ob, es, ep, t, e, c⟩ := x; exact ⟨ob, es, ep, t, k _ _ (.inl rfl) e, c⟩
  | ins C dx fs =>
    obtain ⟨d, z, ne, e, mA, ⟨od, es, ep, e2, c⟩, r⟩ := x
    exact ⟨ho _ d, z, ne, k _ _ (.inl rfl) e, mA, ⟨od, es, ep, k _ _ (.inr d) e2, c⟩, r⟩
  | own y => obtain ⟨ob, e⟩ := x; exact ⟨ob, k _ _ (.inl rfl) e⟩
  | xd fs => obtain ⟨mA, ⟨od, es, ep, e, c⟩, r⟩ := x; exact ⟨mA, ⟨od, es, ep, k _ _ (.inl rfl) e, c⟩, r⟩
  | rng lo hi => obtain ⟨t, u, v, e⟩ := x; exact ⟨t, u, v, k _ _ (.inl rfl) e⟩
  | frz ob u ih => obtain ⟨e, q⟩ := x; exact ⟨k _ _ (.inl rfl) e, ih q⟩
  | tbl ps =>
    have e : h.get? a = some { cls := .none, data := .fields ps } := x
    show h'.get? a = some { cls := .none, data := .fields ps }
    exact k a _ (.inl rfl) e
  | met f y =>
    have e : h.get? a = some (PySem.W.methodObj (.ref f) (.ref y)) := x
    show h'.get? a = some (PySem.W.methodObj (.ref f) (.ref y))
    exact k a _ (.inl rfl) e
  | ext φ => obtain ⟨p, ⟨o, e⟩, st⟩ := x; exact ⟨st _ _ p fun o q => k _ _ (.inl rfl) q, ⟨o, k _ _ (.inl rfl) e⟩, st⟩
theorem HOk.lt (x : HOk P w H h) (e : H a = some o) : a < h.objs.size := (x a o e).lt
theorem HOk.fresh (x : HOk P w H h) (e : h.objs.size ≤ a) : H a = none := by
  cases q : H a with
  | none => rfl
  | some u => exact absurd (Nat.lt_of_lt_of_le (x.lt q) e) (Nat.lt_irrefl _)
theorem HOk.kept (x : HOk P w H h) (k : ∀ b u, h.get? b = some u → h'.get? b = some u) : HOk P w H h' := fun a o e =>
  (x a o e).stay (fun b u _ q => k b u q) (fun _ q => q) fun _ _ q => q
theorem HOk.laid (x : HOk P w H h) (k : ∀ b u, h.get? b = some u → h'.get? b = some u) (hp : h.objs.size ≤ a) (new : ObjOk P w (upd H a o) h' a o) : HOk P w (upd H a o) h' := fun b u e => by
  have hn := x.fresh hp
  by_cases hb : b = a
  · subst hb; rw [upd_same] at e; cases e; exact new
  · rw [upd_ne hb] at e
    exact (x b u e).stay (fun c v _ q => k c v q) (fun c q => by rw [upd_ne (ne_of_none q hn)]; exact q) fun c xs q => by rw [upd_ne (ne_of_none q hn)]; exact q
end
def Rd (H : Hp) (a : Addr) (u : HO) : Prop := H a = some u ∨ ∃ o, H a = some (.frz o u)
theorem Rd.ok {P : Program} {w : World} {H : Hp} {h : Heap} {a : Addr} {u : HO} (r : Rd H a u) (x : HOk P w H h) : ObjOk P w H h a u := by
  rcases r with r | ⟨o, r⟩
  · exact x a u r
  · obtain ⟨_, q⟩ := x a _ r
    exact q
def Mut : Option HO → Prop
  | some (.lst _) => True
  | some (.dK _) => True
  | some (.dT _) => True
  | some (.set _ _) => True
  | some (.ins _ _ _) => True
  | some (.ext _) => True
  | _ => False
section
variable {P : Program} {w : World} {H : Hp} {h h' : Heap} {x e : Addr} {o' : HO}
theorem HOk.write (ok : HOk P w H h) (mu : Mut (H x)) (he : e = x ∨ H e = some (.own x)) (k : ∀ b u, b ≠ e → h.get? b = some u → h'.get? b = some u) (heo : ∃ u, h'.get? e = some u)
    (new : ObjOk P w (upd H x o') h' x o') : HOk P w (upd H x o') h' := fun b u q => by
  have nown : ∀ c y, H c = some (.own y) → c ≠ x := fun c y r z => by subst z; rw [r] at mu; exact mu
  have ntup : ∀ c xs, H c = some (.tup xs) → c ≠ x := fun c xs r z => by subst z; rw [r] at mu; exact mu
  by_cases hb : b = x
  · subst hb; rw [upd_same] at q; cases q; exact new
  · rw [upd_ne hb] at q
    by_cases hbe : b = e
    · have q' : H b = some (.own x) := by
        rcases he with z | z
        · exact absurd (hbe.trans z) hb
        · rw [hbe]; exact z
      rw [q] at q'; cases q'
      obtain ⟨v, hv⟩ := heo
      exact ⟨v, by rw [hbe]; exact hv⟩
    · refine (ok b u q).stay (fun c v hc r => k c v ?_ r) (fun c r => by rw [upd_ne (nown c b r)]; exact r) fun c xs r => by rw [upd_ne (ntup c xs r)]; exact r
      rcases hc with rfl | hc
      · exact hbe
      · rintro rfl
        rcases he with z | z
        · exact nown c b hc z
        · rw [hc] at z; cases z; exact hb rfl
end
structure Un (fs ex : List Addr) (H H' : Hp) (h h' : Heap) : Prop where
  keep : ∀ b o, h.get? b = some o → H b = none → b ∉ fs → b ∉ ex → h'.get? b = some o
  slot : ∀ b o, h.get? b = some o → H b = none → b ∈ fs → b ∉ ex → ∃ sl, h'.get? b = some { o with slots := sl }
  free : ∀ b o, h.get? b = some o → H b = none → b ∉ ex → H' b = none
  there : ∀ b o, h.get? b = some o → b ∉ ex → ∃ o', h'.get? b = some o'
  tups : ∀ b xs, H b = some (.tup xs) → H' b = some (.tup xs)
  frzs : ∀ b o u, H b = some (.frz o u) → H' b = some (.frz o u)
  tbls : ∀ b ps, H b = some (.tbl ps) → ∃ more, H' b = some (.tbl (ps ++ more))
section
variable {fs fs' ex ex' : List Addr} {H H1 H2 : Hp} {h h1 h2 h' : Heap} {a x e : Addr} {o : HO}
theorem Un.any (u : Un fs ex H H1 h h1) {b : Addr} {ob : Obj} (q : h.get? b = some ob) (n : H b = none) (hx : b ∉ ex) : ∃ sl, h1.get? b = some { ob with slots := sl } := by
  by_cases hb : b ∈ fs
  · exact u.slot b ob q n hb hx
  · exact ⟨ob.slots, u.keep b ob q n hb hx⟩
theorem Un.kept (k : ∀ b u, h.get? b = some u → h'.get? b = some u) : Un fs ex H H h h' :=
  ⟨fun b ob q _ _ _ => k b ob q, fun b ob q _ _ _ => ⟨ob.slots, k b ob q⟩, fun _ _ _ n _ => n, fun b ob q _ => ⟨ob, k b ob q⟩, fun _ _ q => q, fun _ _ _ q => q, fun _ ps q => ⟨#[], by rw [q]; simp⟩⟩
theorem Un.refl : Un fs ex H H h h := Un.kept fun _ _ q => q
theorem Un.laid (k : ∀ b u, h.get? b = some u → h'.get? b = some u) (hp : h.objs.size ≤ a) (hn : H a = none) : Un fs ex H (upd H a o) h h' where
  keep := fun b u q _ _ _ => k b u q
  slot := fun b u q _ _ _ => ⟨u.slots, k b u q⟩
  free := fun b u q n _ => by rw [upd_ne (Nat.ne_of_lt (Nat.lt_of_lt_of_le (Heap.lt_size q) hp))]; exact n
  there := fun b u q _ => ⟨u, k b u q⟩
  tups := fun b xs q => by rw [upd_ne (ne_of_none q hn)]; exact q
  frzs := fun b u xs q => by rw [upd_ne (ne_of_none q hn)]; exact q
  tbls := fun b ps q => ⟨#[], by rw [upd_ne (ne_of_none q hn), q]; simp⟩
theorem Un.write (mu : Mut (H x)) (he : e = x ∨ H e = some (.own x)) (k : ∀ b u, b ≠ e → h.get? b = some u → h'.get? b = some u) (heo : ∃ u, h'.get? e = some u) : Un fs ex H (upd H x o) h h' := by
  have hx : ∀ b, H b = none → b ≠ x := fun b n z => by subst z; rw [n] at mu; exact mu
  have hb : ∀ b, H b = none → b ≠ e := fun b n z => by
    subst z
    rcases he with r | r
    · exact hx b n r
    · rw [n] at r; cases r
  have hm : ∀ b u, H b = some u → ¬ Mut (some u) → b ≠ x := fun b u q nm z => by subst z; rw [q] at mu; exact nm mu
  refine ⟨fun b u q n _ _ => k b u (hb b n) q, fun b u q n _ _ => ⟨u.slots, k b u (hb b n) q⟩, fun b u q n _ => by rw [upd_ne (hx b n)]; exact n, fun b u q _ => ?_,
    fun b xs q => by rw [upd_ne (hm b _ q fun z => z)]; exact q, fun b u xs q => by rw [upd_ne (hm b _ q fun z => z)]; exact q, fun b ps q => ⟨#[], by rw [upd_ne (hm b _ q fun z => z), q]; simp⟩⟩
  by_cases hbe : b = e
  · subst hbe; exact heo
  · exact ⟨u, k b u hbe q⟩
end
def trk (h : Heap) (H : Hp) : List Addr := (List.range h.objs.size).filter fun a => (H a).isSome
def hidT (h : Heap) (H : Hp) : Heap := PySem.W.hideAll h (trk h H)
theorem hidT_size (h : Heap) (H : Hp) : (hidT h H).objs.size = h.objs.size := PySem.W.hideAll_size _ _
theorem hidT_get {h : Heap} {H : Hp} {b : Addr} {o : Obj} (e : h.get? b = some o) (n : H b = none) : (hidT h H).get? b = some o :=
  PySem.W.hideAll_get _ e fun hm => by
    have q : (H b).isSome = true := (List.mem_filter.mp hm).2
    rw [n] at q; simp at q
theorem of_hidT {h : Heap} {H : Hp} {b : Addr} {o : Obj} (e : (hidT h H).get? b = some o) : h.get? b = some o ∧ H b = none := by
  have e' : h.get? b = some o := PySem.W.of_hideAll (trk h H) e
  refine ⟨e', ?_⟩
  cases q : H b with
  | none => rfl
  | some x =>
    have hm : b ∈ trk h H := List.mem_filter.mpr ⟨List.mem_range.mpr (Heap.lt_size e'), by simp [q]⟩
    have z : (hidT h H).get? b = none := PySem.W.hideAll_none (trk h H) hm
    rw [z] at e; cases e
end L2
namespace L2
open PySem PySem.Spec PyProof.Rows
structure Mod (K : PySem.W.Frag) (mg : Str → Option Value) (base : Heap) : Prop where
  kin : K.In base
  glob : base.Ns mainGlobals mg
  blt : ∃ mb, base.Ns builtinsNs mb ∧ ∀ x : Str, x ≠ "__name__" → mb x = bootBuiltins x
  nolimit : base.NoLimit
structure Cx where
  prog : Program
  w : World
  K : PySem.W.Frag
  mg : Str → Option Value
  base : Heap
  A : Around
  N : List Str
  s₀ : Shared
  H₀ : Hp
  env : Env
  outer : List Env
  stack : List Env
  ex : List Addr
  fn : Str → Bool
  calm : Bool
  pn : List (Addr × Obj)
  xe : Value → Shared → Prop
def frs (l : List Env) : List Addr := l.filterMap (·.frame)
abbrev Cx.fs (X : Cx) : List Addr := frs X.outer
def Vis (sc : Scope) (x : Str) : Prop := sc.names.lookup x = some .local ∨ sc.names.lookup x = some .cell ∨ sc.names.lookup x = some .free
def Loc (sc : Scope) (x : Str) : Prop := sc.names.lookup x = some .local ∨ sc.names.lookup x = some .cell
def Look (env : Env) (h : Heap) (m : Str → Option Value) (x : Str) (u : Value) : Prop :=
  (env.kindOf x = some .local ∧ m x = some u) ∨ ((env.kindOf x = some .cell ∨ env.kindOf x = some .free) ∧ ∃ c, env.cells.lookup x = some c ∧ h.IsCell c (some u))
structure Cx.Ok (X : Cx) : Prop where
  mod : Mod X.K X.mg X.base
  kind : X.env.scope.kind = .function
  glob : X.env.globals = mainGlobals
  blt : X.env.builtins = builtinsNs
  above : X.s₀.heap.objs.size ≤ X.env.locals
  inj : ∀ x y c, X.env.cells.lookup x = some c → X.env.cells.lookup y = some c → x = y
  has : ∀ x, (X.env.kindOf x = some .cell ∨ X.env.kindOf x = some .free) → ∃ c, X.env.cells.lookup x = some c
  cab : ∀ x c, X.fn x = true → X.env.cells.lookup x = some c → X.s₀.heap.objs.size ≤ c
  hd : X.calm = true → X.A.handled = none
  frames : X.A.frames = some X.stack
  stk : X.stack = X.outer ∨ (X.stack = X.env :: X.outer ∧ X.env.frame = some X.env.locals)
  exf : ∀ b ∈ X.ex, b ≠ X.env.locals ∧ ∀ x c, X.env.cells.lookup x = some c → c ≠ b
  bs : ∀ b o, X.base.get? b = some o → X.s₀.heap.get? b = some o ∧ X.H₀ b = none
  bsz : X.base.objs.size ≤ X.s₀.heap.objs.size
  noex : ∀ b o, X.base.get? b = some o → b ∉ X.ex
  exfs : ∀ b ∈ X.ex, b ∉ X.fs
  funs : X.s₀.heap.FunFrames X.base X.outer
  frf : ∀ b ∈ X.fs, X.H₀ b = none
structure Inv (X : Cx) (pins : List (Addr × Obj)) (σ : List (Option V)) (H : Hp) (s : Shared) : Prop where
  ok : X.Ok
  os : s.os = X.s₀.os
  bare : AllBare s.gens
  base : Un X.fs X.ex X.H₀ H X.s₀.heap s.heap
  loc : ∃ m, s.heap.Ns X.env.locals m ∧ ∀ (i : Nat) (x : Str) (v : V), X.N[i]? = some x → σ[i]? = some (some v) → Vis X.env.scope x → ∃ u, RelV v u ∧ Look X.env s.heap m x u
  cell : ∀ x c, X.env.cells.lookup x = some c → ∃ v, s.heap.IsCell c v
  free : H X.env.locals = none
  freeC : ∀ x c, X.env.cells.lookup x = some c → H c = none
  pin : ∀ p ∈ X.pn ++ pins, s.heap.get? p.1 = some p.2 ∧ H p.1 = none ∧ p.1 ≠ X.env.locals ∧ p.1 ∉ X.fs ∧ ∀ v, p.2.data ≠ .cell v
  hok : HOk X.prog X.w H s.heap
  len : σ.length = X.N.length
section
variable {X : Cx} {pins : List (Addr × Obj)} {σ : List (Option V)} {H H' : Hp} {s : Shared} {h' : Heap}
theorem Cx.Ok.nofr (ok : X.Ok) {b : Addr} {o : Obj} (e : X.base.get? b = some o) : b ∉ X.fs := fun hb => by
  have := (ok.funs.mem hb).1
  rw [e] at this; cases this
theorem Inv.bs (I : Inv X pins σ H s) : ∀ b o, X.base.get? b = some o → s.heap.get? b = some o ∧ H b = none := fun b o e =>
  ⟨I.base.keep b o (I.ok.bs b o e).1 (I.ok.bs b o e).2 (I.ok.nofr e) (I.ok.noex b o e), I.base.free b o (I.ok.bs b o e).1 (I.ok.bs b o e).2 (I.ok.noex b o e)⟩
theorem Inv.bk (I : Inv X pins σ H s) : ∀ b o, X.base.get? b = some o → s.heap.get? b = some o := fun b o e => (I.bs b o e).1
theorem Inv.mod (I : Inv X pins σ H s) : Mod X.K X.mg X.base := I.ok.mod
theorem Inv.kIn (I : Inv X pins σ H s) : X.K.In s.heap := I.ok.mod.kin.keeps I.bk
theorem Inv.lt (I : Inv X pins σ H s) : X.env.locals < s.heap.objs.size := let ⟨_, hn, _⟩ := I.loc; hn.lt
theorem Inv.sz (I : Inv X pins σ H s) : X.s₀.heap.objs.size ≤ s.heap.objs.size := Nat.le_trans I.ok.above (Nat.le_of_lt I.lt)
theorem Inv.nofs (I : Inv X pins σ H s) {a : Addr} (h : s.heap.objs.size ≤ a) : a ∉ X.fs := fun hb => by
  obtain ⟨_, o, ho, _⟩ := I.ok.funs.mem hb
  exact absurd (Nat.lt_of_lt_of_le (Heap.lt_size ho) (Nat.le_trans I.sz h)) (Nat.lt_irrefl _)
theorem Inv.cne (I : Inv X pins σ H s) : ∀ x c, X.env.cells.lookup x = some c → c ≠ X.env.locals := fun x c e z => by
  obtain ⟨v, o, ho, hd⟩ := I.cell x c e
  obtain ⟨m, ⟨o', es, ep, ho', hd', _⟩, _⟩ := I.loc
  rw [z, ho'] at ho; cases ho; rw [hd'] at hd; cases hd
theorem Inv.funs (I : Inv X pins σ H s) : s.heap.FunFrames X.base X.outer := by
  have all : ∀ (l : List Env), (∀ b ∈ frs l, b ∈ X.fs) → X.s₀.heap.FunFrames X.base l → s.heap.FunFrames X.base l := by
    intro l
    induction l with
    | nil => intro _ _; trivial
    | cons env r ih =>
      intro hs hl
      obtain ⟨hk, ⟨L, o, hf, hn, ho, hd⟩, hr⟩ := hl
      have hL : L ∈ X.fs := hs L (by unfold frs; rw [List.filterMap_cons, hf]; exact List.mem_cons_self)
      obtain ⟨sl, e⟩ := I.base.slot L o ho (I.ok.frf L hL) hL fun z => I.ok.exfs L z hL
      exact ⟨hk, ⟨L, _, hf, hn, e, hd⟩, ih (fun b hb => hs b (by unfold frs; rw [List.filterMap_cons, hf]; exact List.mem_cons_of_mem _ hb)) hr⟩
  exact all X.outer (fun _ hb => hb) I.ok.funs
theorem Inv.stack (I : Inv X pins σ H s) : s.heap.FunFrames X.base X.stack := by
  rcases I.ok.stk with e | ⟨e, hf⟩
  · rw [e]; exact I.funs
  · rw [e]
    obtain ⟨m, hn, _⟩ := I.loc
    refine .cons (by rw [I.ok.kind]; decide) hf hn ?_ I.funs
    exact Heap.get?_none_of_le (Nat.le_trans I.ok.bsz I.ok.above)
theorem Inv.stkSub (I : Inv X pins σ H s) : ∀ b ∈ frs X.stack, b ∈ X.env.locals :: X.fs := fun b hb => by
  rcases I.ok.stk with e | ⟨e, hf⟩
  · rw [e] at hb; exact List.mem_cons_of_mem _ hb
  · rw [e] at hb
    unfold frs at hb
    rw [List.filterMap_cons, hf] at hb
    exact hb
theorem Inv.stkFree (I : Inv X pins σ H s) : ∀ b ∈ frs X.stack, H b = none := fun b hb => by
  rcases List.mem_cons.mp (I.stkSub b hb) with e | hb
  · rw [e]; exact I.free
  · obtain ⟨_, o, ho, _⟩ := I.ok.funs.mem hb
    exact I.base.free b o ho (I.ok.frf b hb) fun z => I.ok.exfs b z hb
theorem Inv.step {g' : Array GenState} {t' : Nat} {d' : Drawn} {ch : List Addr} (I : Inv X pins σ H s)
    (hch : ∀ b ∈ ch, (b ∈ X.ex ∨ X.s₀.heap.objs.size ≤ b) ∧ b ≠ X.env.locals ∧ (∀ x c, X.env.cells.lookup x = some c → c ≠ b) ∧ ∀ p ∈ X.pn ++ pins, p.1 ≠ b)
    (keep : ∀ b o, b ≠ X.env.locals → b ∉ X.fs → b ∉ ch → s.heap.get? b = some o → H b = none → h'.get? b = some o)
    (slot : ∀ b o, b ≠ X.env.locals → b ∈ X.fs → b ∉ ch → s.heap.get? b = some o → H b = none → ∃ sl, h'.get? b = some { o with slots := sl }) (free : ∀ b o, b ∉ ch → s.heap.get? b = some o → H b = none → H' b = none)
    (there : ∀ b o, b ∉ ch → s.heap.get? b = some o → ∃ o', h'.get? b = some o')
    (tups : ∀ b xs, H b = some (.tup xs) → H' b = some (.tup xs)) (frzs : ∀ b o u, H b = some (.frz o u) → H' b = some (.frz o u)) (tbls : ∀ b ps, H b = some (.tbl ps) → ∃ more, H' b = some (.tbl (ps ++ more)))
    (ns : ∀ m, s.heap.Ns X.env.locals m → h'.Ns X.env.locals m) (hok : HOk X.prog X.w H' h') (hg : AllBare g') :
    Inv X pins σ H' { s with heap := h', gens := g', drawn := d', toks := t' } := by
  have neL : ∀ b o, X.s₀.heap.get? b = some o → b ≠ X.env.locals := fun b o e => Nat.ne_of_lt (Nat.lt_of_lt_of_le (Heap.lt_size e) I.ok.above)
  have neC : ∀ b o, X.s₀.heap.get? b = some o → b ∉ X.ex → b ∉ ch := fun b o e hx hb => by
    rcases (hch b hb).1 with z | z
    · exact hx z
    · exact absurd (Nat.lt_of_lt_of_le (Heap.lt_size e) z) (Nat.lt_irrefl _)
  have cellK : ∀ x c, X.env.cells.lookup x = some c → ∀ v, s.heap.IsCell c v → h'.IsCell c v := fun x c e v ⟨o, ho, hd⟩ => by
    have nch : c ∉ ch := fun z => (hch c z).2.2.1 x c e rfl
    by_cases hc : c ∈ X.fs
    · obtain ⟨sl, q⟩ := slot c o (I.cne x c e) hc nch ho (I.freeC x c e)
      exact ⟨_, q, hd⟩
    · exact ⟨o, keep c o (I.cne x c e) hc nch ho (I.freeC x c e), hd⟩
  refine ⟨I.ok, I.os, hg, ⟨fun b o e n hb hx => ?_, fun b o e n hb hx => ?_, fun b o e n hx => ?_, fun b o e hx => ?_, fun b xs e => tups b xs (I.base.tups b xs e), fun b o xs e => frzs b o xs (I.base.frzs b o xs e), fun b ps e => ?_⟩, ?_, fun x c e => ?_, ?_, fun x c e => ?_, fun p hp => ?_, hok, I.len⟩
  · exact keep b o (neL b o e) hb (neC b o e hx) (I.base.keep b o e n hb hx) (I.base.free b o e n hx)
  · obtain ⟨sl, e1⟩ := I.base.slot b o e n hb hx
    obtain ⟨sl', e2⟩ := slot b _ (neL b o e) hb (neC b o e hx) e1 (I.base.free b o e n hx)
    exact ⟨sl', e2⟩
  · obtain ⟨o', e1⟩ := I.base.there b o e hx
    exact free b o' (neC b o e hx) e1 (I.base.free b o e n hx)
  · obtain ⟨o', e1⟩ := I.base.there b o e hx
    exact there b o' (neC b o e hx) e1
  · obtain ⟨m1, e1⟩ := I.base.tbls b ps e
    obtain ⟨m2, e2⟩ := tbls b _ e1
    exact ⟨m1 ++ m2, by rw [e2, Array.append_assoc]⟩
  · obtain ⟨m, hn, hl⟩ := I.loc
    refine ⟨m, ns m hn, fun i x v e1 e2 e3 => ?_⟩
    obtain ⟨u, r, l⟩ := hl i x v e1 e2 e3
    refine ⟨u, r, ?_⟩
    rcases l with l | ⟨k, c, e, z⟩
    · exact .inl l
    · exact .inr ⟨k, c, e, cellK x c e _ z⟩
  · obtain ⟨v, z⟩ := I.cell x c e
    exact ⟨v, cellK x c e v z⟩
  · obtain ⟨m, ⟨o, _, _, ho, _⟩, _⟩ := I.loc
    exact free _ o (fun z => (hch _ z).2.1 rfl) ho I.free
  · obtain ⟨v, o, ho, hd⟩ := I.cell x c e
    exact free c o (fun z => (hch c z).2.2.1 x c e rfl) ho (I.freeC x c e)
  · obtain ⟨e, n, ne, nf, d⟩ := I.pin p hp
    have nch : p.1 ∉ ch := fun z => (hch p.1 z).2.2.2 p hp rfl
    exact ⟨keep p.1 p.2 ne nf nch e n, free p.1 p.2 nch e n, ne, nf, d⟩
theorem Inv.un {t' : Nat} (I : Inv X pins σ H s) (u : Un X.fs [] H H' s.heap h') (hok : HOk X.prog X.w H' h') : Inv X pins σ H' { s with heap := h', toks := t' } := by
  obtain ⟨m, ⟨o, es, ep, ho, r⟩, _⟩ := id I.loc
  obtain ⟨sl, hL⟩ := u.any ho I.free (by simp)
  exact I.step (g' := s.gens) (d' := s.drawn) (ch := []) (fun _ z => nomatch z) (fun b o _ hb _ e n => u.keep b o e n hb (by simp)) (fun b o _ hb _ e n => u.slot b o e n hb (by simp)) (fun b o _ e n => u.free b o e n (by simp)) (fun b o _ e => u.there b o e (by simp)) u.tups u.frzs u.tbls (fun m' hm => by
    obtain ⟨o', es', ep', ho', r'⟩ := hm
    rw [ho] at ho'; cases ho'
    exact ⟨_, es', ep', hL, r'⟩) hok I.bare
theorem Inv.call {g' : Array GenState} {t' : Nat} {d' : Drawn} {ch : List Addr} (I : Inv X pins σ H s) (u : Un (frs X.stack) ch H H' s.heap h') (hok : HOk X.prog X.w H' h') (hg : AllBare g')
    (hch : ∀ b ∈ ch, (b ∈ X.ex ∨ X.s₀.heap.objs.size ≤ b) ∧ b ≠ X.env.locals ∧ (∀ x c, X.env.cells.lookup x = some c → c ≠ b) ∧ ∀ p ∈ X.pn ++ pins, p.1 ≠ b) :
    Inv X pins σ H' { s with heap := h', gens := g', drawn := d', toks := t' } := by
  obtain ⟨m, ⟨o, es, ep, ho, r⟩, _⟩ := id I.loc
  obtain ⟨sl, hL⟩ := u.any ho I.free fun z => (hch _ z).2.1 rfl
  exact I.step (ch := ch) hch (fun b o hL hb hc e n => u.keep b o e n (fun z => (List.mem_cons.mp (I.stkSub b z)).elim hL hb) hc) (fun b o _ _ hc e n => u.any e n hc) (fun b o hc e n => u.free b o e n hc) (fun b o hc e => u.there b o e hc) u.tups u.frzs u.tbls (fun m' hm => by
    obtain ⟨o', es', ep', ho', r'⟩ := hm
    rw [ho] at ho'; cases ho'
    exact ⟨_, es', ep', hL, r'⟩) hok hg
theorem Inv.turned {t' : Nat} {it : Addr} (I : Inv X pins σ H s) (k : ∀ b o, b ≠ it → s.heap.get? b = some o → h'.get? b = some o) (hn : H it = none) (hL : it ≠ X.env.locals)
    (h1 : it ∈ X.ex ∨ X.s₀.heap.objs.size ≤ it) (h2 : ∀ x c, X.env.cells.lookup x = some c → c ≠ it) (h3 : ∀ p ∈ X.pn ++ pins, p.1 ≠ it) : Inv X pins σ H { s with heap := h', toks := t' } := by
  have nit : ∀ b u, H b = some u → b ≠ it := fun b u e z => by rw [z, hn] at e; cases e
  refine I.step (g' := s.gens) (d' := s.drawn) (ch := [it]) (fun b hb => ?_) (fun b o _ _ hc e _ => k b o (fun z => hc (by simp [z])) e) (fun b o _ _ hc e _ => ⟨o.slots, k b o (fun z => hc (by simp [z])) e⟩) (fun _ _ _ _ n => n)
    (fun b o hc e => ⟨o, k b o (fun z => hc (by simp [z])) e⟩) (fun _ _ e => e) (fun _ _ _ e => e) (fun b ps e => ⟨#[], by rw [e]; simp⟩) (fun m hm => ?_) (fun b u e => ?_) I.bare
  · have e : b = it := by simpa using hb
    subst e
    exact ⟨h1, hL, h2, h3⟩
  · obtain ⟨o, es, ep, ho, r⟩ := hm
    exact ⟨o, es, ep, k _ o (Ne.symm hL) ho, r⟩
  · refine (I.hok b u e).stay (fun c v hc q => k c v ?_ q) (fun _ q => q) fun _ _ q => q
    rcases hc with z | z
    · rw [z]; exact nit b u e
    · exact nit c _ z
theorem Inv.tok (I : Inv X pins σ H s) (t : Nat) : Inv X pins σ H { s with toks := t } := I.un (h' := s.heap) (t' := t) Un.refl I.hok
theorem Inv.kept {t' : Nat} (I : Inv X pins σ H s) (k : ∀ b u, s.heap.get? b = some u → h'.get? b = some u) : Inv X pins σ H { s with heap := h', toks := t' } := I.un (Un.kept k) (I.hok.kept k)
theorem Inv.laid {a : Addr} {o : HO} {t' : Nat} (I : Inv X pins σ H s) (k : ∀ b u, s.heap.get? b = some u → h'.get? b = some u) (hp : s.heap.objs.size ≤ a) (new : ObjOk X.prog X.w (upd H a o) h' a o) :
    Inv X pins σ (upd H a o) { s with heap := h', toks := t' } := I.un (Un.laid k hp (I.hok.fresh hp)) (I.hok.laid k hp new)
theorem Inv.write {x e : Addr} {o : HO} {t' : Nat} (I : Inv X pins σ H s) (mu : Mut (H x)) (he : e = x ∨ H e = some (.own x)) (k : ∀ b u, b ≠ e → s.heap.get? b = some u → h'.get? b = some u) (heo : ∃ u, h'.get? e = some u)
    (new : ObjOk X.prog X.w (upd H x o) h' x o) : Inv X pins σ (upd H x o) { s with heap := h', toks := t' } := I.un (Un.write mu he k heo) (I.hok.write mu he k heo new)
theorem Inv.pins_of {pins' : List (Addr × Obj)} (I : Inv X pins σ H s) (h : ∀ p ∈ pins', s.heap.get? p.1 = some p.2 ∧ H p.1 = none ∧ p.1 ≠ X.env.locals ∧ p.1 ∉ X.fs ∧ ∀ v, p.2.data ≠ .cell v) : Inv X pins' σ H s :=
  ⟨I.ok, I.os, I.bare, I.base, I.loc, I.cell, I.free, I.freeC, fun p hp => (List.mem_append.mp hp).elim (fun z => I.pin p (List.mem_append_left _ z)) (h p), I.hok, I.len⟩
theorem nodup_ix {N : List Str} (hN : N.Nodup) {i j : Nat} {x : Str} (a : N[i]? = some x) (b : N[j]? = some x) : i = j := by
  obtain ⟨h1, e1⟩ := List.getElem?_eq_some_iff.mp a
  obtain ⟨h2, e2⟩ := List.getElem?_eq_some_iff.mp b
  exact (List.getElem_inj hN).mp (e1.trans e2.symm)
theorem store_ok2 {M : Model} {A : Around} {E : Value → Shared → Prop} {i : Nat} {x : Str} {v : V} {u : Value} {Q : Unit → Shared → Prop} (I : Inv X pins σ H s) (hN : X.N.Nodup) (hi : X.N[i]? = some x) (hx : Loc X.env.scope x) (r : RelV v u)
    (h : ∀ s', Inv X pins (σ.set i (some v)) H s' → (∃ a, Heap.SameBut a s.heap s'.heap ∧ (a = X.env.locals ∨ X.env.cells.lookup x = some a)) → Q () s') (hf : X.fn x = true ∨ X.env.scope.names.lookup x = some .local := by first | exact .inl rfl | exact .inr rfl | assumption) : wpAny M A (storeName X.env x u) Q E s := by
  obtain ⟨m, hn, hl⟩ := id I.loc
  have hcls : (X.env.scope.kind == .class || (X.env.scope.kind == .module && X.env.locals != X.env.globals)) = false := by rw [I.ok.kind]; rfl
  have hiσ : i < σ.length := by rw [I.len]; exact (List.getElem?_eq_some_iff.mp hi).1
  have cne := I.cne
  have tracked : ∀ {a : Addr} {h' : Heap}, (∃ o, s.heap.get? a = some o ∧ H a = none) → Heap.SameBut a s.heap h' → HOk X.prog X.w H h' := fun {a h'} ha hs b ob e => by
    obtain ⟨_, _, hfree⟩ := ha
    refine (I.hok b ob e).stay (fun c w' hc q => (hs.2 c ?_).trans q) (fun _ q => q) fun _ _ q => q
    rintro rfl
    rcases hc with rfl | hc
    · rw [hfree] at e; cases e
    · rw [hfree] at hc; cases hc
  rcases hx with hk | hk
  · refine wpAny_storeName_local hk hn (fun h' hn' hs => ?_) hcls
    obtain ⟨oL, _, _, hoL, _⟩ := id hn
    refine h _ ⟨I.ok, I.os, I.bare, ⟨fun b o e n hb hx => ?_, fun b o e n hb hx => ?_, I.base.free, fun b o e hx => ?_, I.base.tups, I.base.frzs, I.base.tbls⟩, ⟨_, hn', fun j y v' e1 e2 e3 => ?_⟩, fun y c e => ?_, I.free, I.freeC, fun p hp => ?_, tracked ⟨oL, hoL, I.free⟩ hs, by simpa using I.len⟩ ⟨_, hs, .inl rfl⟩
    · exact (hs.2 b (Nat.ne_of_lt (Nat.lt_of_lt_of_le (Heap.lt_size e) I.ok.above))).trans (I.base.keep b o e n hb hx)
    · obtain ⟨sl, e1⟩ := I.base.slot b o e n hb hx
      exact ⟨sl, (hs.2 b (Nat.ne_of_lt (Nat.lt_of_lt_of_le (Heap.lt_size e) I.ok.above))).trans e1⟩
    · obtain ⟨o', e1⟩ := I.base.there b o e hx
      exact ⟨o', (hs.2 b (Nat.ne_of_lt (Nat.lt_of_lt_of_le (Heap.lt_size e) I.ok.above))).trans e1⟩
    · by_cases hj : j = i
      · subst hj
        rw [hi] at e1; cases e1
        rw [List.getElem?_set_self hiσ] at e2
        cases e2
        exact ⟨u, r, .inl ⟨hk, by simp⟩⟩
      · rw [List.getElem?_set_ne (Ne.symm hj)] at e2
        obtain ⟨u', r', q⟩ := hl j y v' e1 e2 e3
        refine ⟨u', r', ?_⟩
        rcases q with ⟨k, e⟩ | ⟨k, c, e, z⟩
        · refine .inl ⟨k, ?_⟩
          have : y ≠ x := fun e => hj (nodup_ix hN e1 (e ▸ hi))
          simp [this, e]
        · exact .inr ⟨k, c, e, z.sameBut hs (cne y c e)⟩
    · obtain ⟨w', z⟩ := I.cell y c e
      exact ⟨w', z.sameBut hs (cne y c e)⟩
    · obtain ⟨e, n, ne, nf, d⟩ := I.pin p hp
      exact ⟨(hs.2 p.1 ne).trans e, n, ne, nf, d⟩
  · have hfn : X.fn x = true := by
      rcases hf with z | z
      · exact z
      · rw [z] at hk; cases hk
    obtain ⟨c, hc⟩ := I.ok.has x (.inl hk)
    obtain ⟨w', z⟩ := I.cell x c hc
    refine wpAny_storeName_cell I.ok.kind hk hc z (fun h' hc' hs => ?_)
    obtain ⟨oc, hoc, hocd⟩ := id z
    refine h { s with heap := h' } ⟨I.ok, I.os, I.bare, ⟨fun b o e n hb hx => ?_, fun b o e n hb hx => ?_, I.base.free, fun b o e hx => ?_, I.base.tups, I.base.frzs, I.base.tbls⟩, ⟨m, hn.sameBut hs (Ne.symm (cne x c hc)), fun j y v' e1 e2 e3 => ?_⟩, fun y c' e => ?_, I.free, I.freeC, fun p hp => ?_, tracked ⟨oc, hoc, I.freeC x c hc⟩ hs, by simpa using I.len⟩ ⟨c, hs, .inr hc⟩
    · exact (hs.2 b (Nat.ne_of_lt (Nat.lt_of_lt_of_le (Heap.lt_size e) (I.ok.cab x c hfn hc)))).trans (I.base.keep b o e n hb hx)
    · obtain ⟨sl, e1⟩ := I.base.slot b o e n hb hx
      exact ⟨sl, (hs.2 b (Nat.ne_of_lt (Nat.lt_of_lt_of_le (Heap.lt_size e) (I.ok.cab x c hfn hc)))).trans e1⟩
    · obtain ⟨o', e1⟩ := I.base.there b o e hx
      exact ⟨o', (hs.2 b (Nat.ne_of_lt (Nat.lt_of_lt_of_le (Heap.lt_size e) (I.ok.cab x c hfn hc)))).trans e1⟩
    · by_cases hj : j = i
      · subst hj
        rw [hi] at e1; cases e1
        rw [List.getElem?_set_self hiσ] at e2
        cases e2
        exact ⟨u, r, .inr ⟨.inl hk, c, hc, hc'⟩⟩
      · rw [List.getElem?_set_ne (Ne.symm hj)] at e2
        obtain ⟨u', r', q⟩ := hl j y v' e1 e2 e3
        refine ⟨u', r', ?_⟩
        rcases q with q | ⟨k, c', e, z'⟩
        · exact .inl q
        · refine .inr ⟨k, c', e, z'.sameBut hs ?_⟩
          rintro rfl
          exact hj (nodup_ix hN e1 (I.ok.inj _ _ _ e hc ▸ hi))
    · by_cases hcc : c' = c
      · subst hcc; exact ⟨_, hc'⟩
      · obtain ⟨w2, z2⟩ := I.cell y c' e
        exact ⟨w2, z2.sameBut hs hcc⟩
    · obtain ⟨e, n, ne, nf, d⟩ := I.pin p hp
      refine ⟨(hs.2 p.1 ?_).trans e, n, ne, nf, d⟩
      intro q
      rw [q, hoc] at e
      have q' : oc = p.2 := Option.some.inj e
      exact d w' (by rw [← q']; exact hocd)
theorem store_ok {M : Model} {A : Around} {E : Value → Shared → Prop} {i : Nat} {x : Str} {v : V} {u : Value} {Q : Unit → Shared → Prop} (I : Inv X pins σ H s) (hN : X.N.Nodup) (hi : X.N[i]? = some x) (hx : Loc X.env.scope x) (r : RelV v u)
    (h : ∀ s', Inv X pins (σ.set i (some v)) H s' → Q () s') (hf : X.fn x = true ∨ X.env.scope.names.lookup x = some .local := by first | exact .inl rfl | exact .inr rfl | assumption) : wpAny M A (storeName X.env x u) Q E s :=
  store_ok2 I hN hi hx r (fun s' I' _ => h s' I') hf
theorem Inv.call' {s' : Shared} {ch : List Addr} (I : Inv X pins σ H s) (ho : s'.os = s.os) (u : Un (frs X.stack) ch H H' s.heap s'.heap) (hok : HOk X.prog X.w H' s'.heap) (hg : AllBare s'.gens)
    (hch : ∀ b ∈ ch, (b ∈ X.ex ∨ X.s₀.heap.objs.size ≤ b) ∧ b ≠ X.env.locals ∧ (∀ x c, X.env.cells.lookup x = some c → c ≠ b) ∧ ∀ p ∈ X.pn ++ pins, p.1 ≠ b) : Inv X pins σ H' s' := by
  obtain ⟨h', g', d', t', o'⟩ := s'
  have e : o' = s.os := ho
  subst e
  exact I.call (g' := g') (t' := t') (d' := d') u hok hg hch
end
abbrev XK := Value → Option Addr → Hp → Prop
abbrev St := List (Option V)
abbrev VK := V → Hp → Prop
abbrev TE := St → Hp → VK → Prop
abbrev TT := St → Hp → (Bool → Hp → Prop) → Prop
abbrev TA := St → Hp → (List V → Hp → Prop) → Prop
structure Ends where
  nx : St → Hp → Prop
  rt : VK
  bk : St → Hp → Prop := fun _ _ => False
  ct : St → Hp → Prop := fun _ _ => False
abbrev TS := Ends → St → Hp → Prop
def EP (X : Cx) (pins : List (Addr × Obj)) (σ : St) (Q : VK) (u : Value) (s' : Shared) : Prop := ∃ v H', Inv X pins σ H' s' ∧ RelV v u ∧ Q v H'
def TP (X : Cx) (pins : List (Addr × Obj)) (σ : St) (Q : Bool → Hp → Prop) (b : Bool) (s' : Shared) : Prop := ∃ H', Inv X pins σ H' s' ∧ Q b H'
def AP (X : Cx) (pins : List (Addr × Obj)) (σ : St) (Q : List V → Hp → Prop) (us : List Value) (s' : Shared) : Prop := ∃ vs H', Inv X pins σ H' s' ∧ Vals vs us ∧ Q vs H'
def SP (X : Cx) (pins : List (Addr × Obj)) (D : Ends) (f : Flow) (s' : Shared) : Prop :=
  match f with
  | .next => ∃ σ' H', Inv X pins σ' H' s' ∧ D.nx σ' H'
  | .brk => ∃ σ' H', Inv X pins σ' H' s' ∧ D.bk σ' H'
  | .cont => ∃ σ' H', Inv X pins σ' H' s' ∧ D.ct σ' H'
  | .ret u => ∃ v σ' H', Inv X pins σ' H' s' ∧ RelV v u ∧ D.rt v H'
def PE (X : Cx) (e : Expr) (t : TE) : Prop :=
  ∀ (pins : List (Addr × Obj)) (s : Shared) (σ : St) (H : Hp) (Q : VK), Inv X pins σ H s → t σ H Q → wpAny (model X.prog X.w) X.A (eval e X.env) (EP X pins σ Q) X.xe s
def PT (X : Cx) (e : Expr) (t : TT) : Prop :=
  ∀ (pins : List (Addr × Obj)) (s : Shared) (σ : St) (H : Hp) (Q : Bool → Hp → Prop), Inv X pins σ H s → t σ H Q → wpAny (model X.prog X.w) X.A (isTrue e X.env (eval e X.env)) (TP X pins σ Q) X.xe s
def PW (X : Cx) (e : Expr) (t : TT) : Prop :=
  ∀ (whole : Sem Value) (pins : List (Addr × Obj)) (s : Shared) (σ : St) (H : Hp) (Q : Bool → Hp → Prop), Inv X pins σ H s → t σ H Q → wpAny (model X.prog X.w) X.A (isTrue e X.env whole) (TP X pins σ Q) X.xe s
theorem PW.pt {X : Cx} {e : Expr} {t : TT} (h : PW X e t) : PT X e t := h _
def PA (X : Cx) (es : List Expr) (t : TA) : Prop :=
  ∀ (pos : Pos) (pins : List (Addr × Obj)) (s : Shared) (σ : St) (H : Hp) (Q : List V → Hp → Prop), Inv X pins σ H s → t σ H Q → wpAny (model X.prog X.w) X.A (spliced (backTo pos (starEach es X.env))) (AP X pins σ Q) X.xe s
def PS (X : Cx) (st : Stmt) (t : TS) : Prop :=
  ∀ (pins : List (Addr × Obj)) (s : Shared) (σ : St) (H : Hp) (D : Ends), Inv X pins σ H s → t D σ H → wpAny (model X.prog X.w) X.A (exec st X.env) (SP X pins D) X.xe s
def PSs (X : Cx) (st : List Stmt) (t : TS) : Prop :=
  ∀ (pins : List (Addr × Obj)) (s : Shared) (σ : St) (H : Hp) (D : Ends), Inv X pins σ H s → t D σ H → wpAny (model X.prog X.w) X.A (execs st X.env) (SP X pins D) X.xe s
theorem thn {α : Type} {t : Sem α} {Q Q' : α → Shared → Prop} {M : Model} {A : Around} {E : Value → Shared → Prop} {s : Shared} (h : wpAny M A t Q E s) (hQ : ∀ a s, Q a s → Q' a s) : wpAny M A t Q' E s := wpAny_mono h hQ fun _ _ x => x
end L2
namespace L2
open PySem PySem.Spec PyProof.Rows
section
variable {X : Cx}
def tVar (i : Nat) : TE := fun σ H Q => ∃ v, σ[i]? = some (some v) ∧ Q v H
def tC (v : V) : TE := fun _ H Q => Q v H
theorem pe_var {i : Nat} {x : Str} {pos : Pos} (hN : X.N[i]? = some x) (hv : Vis X.env.scope x) (hd : (x == ("__debug__" : Str)) = false := by decide) (hcd : (x == ("__classdict__" : Str)) = false := by decide) : PE X (.Name x pos) (tVar i) := by
  intro pins s σ H Q I h
  obtain ⟨v, e, h⟩ := h
  obtain ⟨m, hn, hl⟩ := I.loc
  obtain ⟨u, r, l⟩ := hl i x v hN e hv
  have fin : EP X pins σ Q u s := ⟨v, H, I, r, h⟩
  rcases l with ⟨hk, hm⟩ | ⟨hk, c, hc, hcell⟩
  · exact wpAny_Name (wpAny_loadName_local I.ok.kind hk hn hm fin) hd
  · rcases hk with hk | hk
    · exact wpAny_Name (wpAny_loadName_cell I.ok.kind hk hc hcell fin) hd
    · exact wpAny_Name (wpAny_loadName_free I.ok.kind hk hc hcell fin hcd) hd
theorem pe_int {i j pos} : PE X (.Constant (.int i) j pos) (tC (.int i)) := fun _ _ _ H _ I h => wpAny_Constant_int ⟨.int i, H, I.tok _, ⟨_, rfl⟩, h⟩
theorem pe_bl {b j pos} : PE X (.Constant (.bool b) j pos) (tC (.bl b)) := fun _ _ _ H _ I h => Constant_bool ⟨.bl b, H, I, rfl, h⟩
theorem pe_non {j pos} : PE X (.Constant .none j pos) (tC .non) := fun _ _ _ H _ I h => Constant_none ⟨.non, H, I, rfl, h⟩
theorem pe_str {x j pos} : PE X (.Constant (.str x) j pos) (tC (.str x)) := fun _ _ _ H _ I h => Calls.Constant_str ⟨.str x, H, I.tok _, ⟨_, rfl⟩, h⟩
def Gl (X : Cx) (x : Str) : Prop := X.env.kindOf x = some .globalImplicit
theorem ld_glob {E : Value → Shared → Prop} {pins : List (Addr × Obj)} {s : Shared} {σ : St} {H : Hp} {x : Str} {u : Value} {pos : Pos} {Q : Value → Shared → Prop} (I : Inv X pins σ H s) (hg : Gl X x) (hm : X.mg x = some u) (h : Q u s)
    (hd : (x == ("__debug__" : Str)) = false := by decide) : wpAny (model X.prog X.w) X.A (eval (.Name x pos) X.env) Q E s :=
  Calls.Name_function_global I.ok.kind hg (Calls.loadGlobal_global (by rw [I.ok.glob]; exact I.mod.glob.keeps I.bk) hm h) hd
theorem ld_blt {E : Value → Shared → Prop} {pins : List (Addr × Obj)} {s : Shared} {σ : St} {H : Hp} {x : Str} {u : Value} {pos : Pos} {Q : Value → Shared → Prop} (I : Inv X pins σ H s) (hg : Gl X x) (hm : X.mg x = none) (hv : bootBuiltins x = some u) (h : Q u s)
    (hn : x ≠ "__name__" := by decide) (hd : (x == ("__debug__" : Str)) = false := by decide) : wpAny (model X.prog X.w) X.A (eval (.Name x pos) X.env) Q E s := by
  obtain ⟨mb, h1, h2⟩ := I.mod.blt
  exact Calls.Name_function_global I.ok.kind hg (Calls.loadGlobal_builtin (by rw [I.ok.glob]; exact I.mod.glob.keeps I.bk) hm (by rw [I.ok.blt]; exact h1.keeps I.bk) ((h2 x hn).trans hv) h) hd
theorem pe_bltn {x : Str} {v : V} {u : Value} {pos : Pos} (hg : Gl X x) (hm : X.mg x = none) (hv : bootBuiltins x = some u) (r : RelV v u) (hn : x ≠ "__name__" := by decide) (hd : (x == ("__debug__" : Str)) = false := by decide) : PE X (.Name x pos) (tC v) :=
  fun _ _ _ H _ I h => ld_blt I hg hm hv ⟨v, H, I, r, h⟩ hn hd
variable {a b : Expr} {ta tb : TE} {pos : Pos}
def tB (t : TE) : TT := fun σ H Q => t σ H fun x H1 => ∃ c, x = .bl c ∧ Q c H1
theorem pt_val {e : Expr} {t : TE} (h : PE X e t) (he : ∀ whole, isTrue e X.env whole = (do let v ← whole; standAt e.pos; holding [v] (truthy v)) := by intro _; rfl) : PT X e (tB t) := by
  intro pins s σ H Q I hw
  refine isTrue_plain (thn (h pins s σ H _ I hw) fun v s1 ⟨x, H1, I1, r1, q1⟩ => ?_) (he _)
  obtain ⟨d, rfl, q⟩ := q1
  cases r1
  exact wpAny_truthy_bool ⟨H1, I1, q⟩
variable {tA tB' : TT} {rest : List Expr}
def tAnd (t u : TT) : TT := fun σ H Q => t σ H fun c H1 => if c = true then u σ H1 Q else Q false H1
def tOr (t u : TT) : TT := fun σ H Q => t σ H fun c H1 => if c = true then Q true H1 else u σ H1 Q
def tNot (t : TT) : TT := fun σ H Q => t σ H fun c H1 => Q (!c) H1
theorem pw_and1 (ha : PT X a tA) : PW X (.BoolOp .And [a] pos) tA := by
  intro wh pins s σ H Q I h
  refine isTrue_and (thn (ha pins s σ H Q I h) fun c s1 e => ?_)
  cases c with
  | true => exact isTrue_and_nil e
  | false => exact e
theorem pw_or1 (ha : PT X a tA) : PW X (.BoolOp .Or [a] pos) tA := by
  intro wh pins s σ H Q I h
  refine isTrue_or (thn (ha pins s σ H Q I h) fun c s1 e => ?_)
  cases c with
  | false => exact isTrue_or_nil e
  | true => exact e
theorem pw_and (ha : PT X a tA) (hb : PW X (.BoolOp .And (b :: rest) pos) tB') : PW X (.BoolOp .And (a :: b :: rest) pos) (tAnd tA tB') := by
  intro wh pins s σ H Q I h
  refine isTrue_and (thn (ha pins s σ H _ I h) fun c s1 ⟨H1, I1, q1⟩ => ?_)
  cases c with
  | true => exact hb wh pins s1 σ H1 Q I1 q1
  | false => exact ⟨H1, I1, q1⟩
theorem pw_or (ha : PT X a tA) (hb : PW X (.BoolOp .Or (b :: rest) pos) tB') : PW X (.BoolOp .Or (a :: b :: rest) pos) (tOr tA tB') := by
  intro wh pins s σ H Q I h
  refine isTrue_or (thn (ha pins s σ H _ I h) fun c s1 ⟨H1, I1, q1⟩ => ?_)
  cases c with
  | true => exact ⟨H1, I1, q1⟩
  | false => exact hb wh pins s1 σ H1 Q I1 q1
theorem pt_not (ha : PT X a tA) : PT X (.UnaryOp .Not a pos) (tNot tA) := by
  intro pins s σ H Q I h
  exact isTrue_not (ha pins s σ H (fun c H1 => Q (!c) H1) I h)
end
end L2
namespace L2
open PySem PySem.Spec PyProof.Rows
def SqL (K : PySem.W.Frag) (H : Hp) (a : Addr) (xs : List V) : Prop :=
  Rd H a (.lst xs) ∨
    ∃ (o : Obj) (its : Array Value) (n : Nat), K.lookup a = some o ∧ o.cls = .type "list" ∧ o.dict = none ∧ o.data = .seq its n ∧ its.size ≤ sizeLine ∧ Vals xs its.toList
def SqT (K : PySem.W.Frag) (H : Hp) (a : Addr) (xs : List V) : Prop :=
  Rd H a (.tup xs) ∨
    ∃ (o : Obj) (its : Array Value) (n : Nat), K.lookup a = some o ∧ o.cls = .type "tuple" ∧ o.data = .seq its n ∧ its.size ≤ sizeLine ∧ Vals xs its.toList
def absV : Value → Option V
  | .none => some .non
  | .bool b => some (.bl b)
  | .int i _ => some (.int i)
  | .str x _ => some (.str x)
  | .bytes b _ => some (.byt b)
  | .float b _ => some (.flt b)
  | .ref a => some (.ref a)
  | .type n => some (.ty n)
  | _ => none
theorem RelV.abs {x : V} {u : Value} (r : RelV x u) : absV u = some x := by
  cases x with
  | non => cases r; rfl
  | bl _ => cases r; rfl
  | int _ => obtain ⟨t, rfl⟩ := r; rfl
  | str _ => obtain ⟨t, rfl⟩ := r; rfl
  | byt _ => obtain ⟨t, rfl⟩ := r; rfl
  | flt _ => obtain ⟨t, rfl⟩ := r; rfl
  | ref _ => cases r; rfl
  | ty _ => cases r; rfl
theorem RelV.inj {x y : V} {u : Value} (r : RelV x u) (q : RelV y u) : x = y := Option.some.inj (r.abs.symm.trans q.abs)
theorem Vals.inj : ∀ {xs ys : List V} {us : List Value}, Vals xs us → Vals ys us → xs = ys
  | _, _, _, .nil, .nil => rfl
  | _, _, _, .cons r t, .cons r' t' => by rw [r.inj r', Vals.inj t t']
section
variable {X : Cx} {pins : List (Addr × Obj)} {σ : St} {H : Hp} {s : Shared} {a : Addr} {xs ys : List V}
theorem SqL.of {K : PySem.W.Frag} (h : H a = some (.lst xs)) : SqL K H a xs := .inl (.inl h)
theorem SqT.of {K : PySem.W.Frag} (h : H a = some (.tup xs)) : SqT K H a xs := .inl (.inl h)
theorem Inv.list (I : Inv X pins σ H s) (h : SqL X.K H a xs) : ∃ its : List Value, Vals xs its ∧ PlainL s.heap a its.toArray ∧ xs.length ≤ sizeLine := by
  rcases h with h | ⟨o, its, n, hk, hc, hd, hs, hz, r⟩
  · obtain ⟨z, its, n, r, e⟩ := h.ok I.hok
    exact ⟨its, r, ⟨_, n, e, rfl, rfl, rfl⟩, z⟩
  · refine ⟨its.toList, r, ⟨o, n, I.kIn a o hk, hc, hd, by simpa using hs⟩, ?_⟩
    have e := r.length
    simp only [Array.length_toList] at e
    lia
theorem Inv.tuple (I : Inv X pins σ H s) (h : SqT X.K H a xs) : ∃ its : List Value, Vals xs its ∧ IsTup s.heap a its.toArray ∧ xs.length ≤ sizeLine := by
  rcases h with h | ⟨o, its, n, hk, hc, hs, hz, r⟩
  · obtain ⟨z, its, r, p⟩ := h.ok I.hok
    exact ⟨its, r, p.tup, z⟩
  · refine ⟨its.toList, r, ⟨o, I.kIn a o hk, hc, n, by simpa using hs⟩, ?_⟩
    have e := r.length
    simp only [Array.length_toList] at e
    lia
theorem Inv.list_inj (I : Inv X pins σ H s) (h : SqL X.K H a xs) (h' : SqL X.K H a ys) : xs = ys := by
  obtain ⟨its, r, ⟨o, n, e, _, _, d⟩, _⟩ := I.list h
  obtain ⟨its', r', ⟨o', n', e', _, _, d'⟩, _⟩ := I.list h'
  rw [e] at e'; cases e'
  rw [d] at d'
  injection d' with d1 _
  have : its = its' := by simpa using congrArg Array.toList d1
  subst this
  exact r.inj r'
theorem Inv.tuple_inj (I : Inv X pins σ H s) (h : SqT X.K H a xs) (h' : SqT X.K H a ys) : xs = ys := by
  obtain ⟨its, r, ⟨o, e, _, n, d⟩, _⟩ := I.tuple h
  obtain ⟨its', r', ⟨o', e', _, n', d'⟩, _⟩ := I.tuple h'
  rw [e] at e'; cases e'
  rw [d] at d'
  injection d' with d1 _
  have : its = its' := by simpa using congrArg Array.toList d1
  subst this
  exact r.inj r'
end
abbrev Cx.wish (X : Cx) (E : Value → Shared → Prop) : Cx := { X with xe := E }
abbrev Cx.nox (X : Cx) : Cx := X.wish fun _ _ => False
theorem Cx.Ok.wish {X : Cx} (ok : X.Ok) (E : Value → Shared → Prop) : (X.wish E).Ok :=
  ⟨ok.mod, ok.kind, ok.glob, ok.blt, ok.above, ok.inj, ok.has, ok.cab, ok.hd, ok.frames, ok.stk, ok.exf, ok.bs, ok.bsz, ok.noex, ok.exfs, ok.funs, ok.frf⟩
theorem Cx.Ok.unwish {X : Cx} {E : Value → Shared → Prop} (ok : (X.wish E).Ok) : X.Ok :=
  ⟨ok.mod, ok.kind, ok.glob, ok.blt, ok.above, ok.inj, ok.has, ok.cab, ok.hd, ok.frames, ok.stk, ok.exf, ok.bs, ok.bsz, ok.noex, ok.exfs, ok.funs, ok.frf⟩
section
variable {X : Cx} {pins : List (Addr × Obj)} {σ : St} {H : Hp} {s : Shared} {E : Value → Shared → Prop}
theorem Inv.wish (I : Inv X pins σ H s) (E : Value → Shared → Prop) : Inv (X.wish E) pins σ H s := ⟨I.ok.wish E, I.os, I.bare, I.base, I.loc, I.cell, I.free, I.freeC, I.pin, I.hok, I.len⟩
theorem Inv.unwish (I : Inv (X.wish E) pins σ H s) : Inv X pins σ H s := ⟨I.ok.unwish, I.os, I.bare, I.base, I.loc, I.cell, I.free, I.freeC, I.pin, I.hok, I.len⟩
theorem SP.unwish {D : Ends} {f : Flow} {s' : Shared} (h : SP (X.wish E) pins D f s') : SP X pins D f s' := by
  cases f with
  | next => obtain ⟨σ', H', I, q⟩ := h; exact ⟨σ', H', I.unwish, q⟩
  | brk => obtain ⟨σ', H', I, q⟩ := h; exact ⟨σ', H', I.unwish, q⟩
  | cont => obtain ⟨σ', H', I, q⟩ := h; exact ⟨σ', H', I.unwish, q⟩
  | ret u => obtain ⟨v, σ', H', I, r, q⟩ := h; exact ⟨v, σ', H', I.unwish, r, q⟩
theorem PSs.nox {st : List Stmt} {t : TS} (h : PSs X.nox st t) : PSs X st t := fun pins s σ H D I hw =>
  wpAny_mono (h pins s σ H D (I.wish _) hw) (fun _ _ q => q.unwish) fun _ _ z => False.elim z
end
section
variable {X : Cx} {st : Stmt} {rest : List Stmt} {t u : TS} {e : Expr} {te : TE} {pos : Pos}
def tNext : TS := fun D σ H => D.nx σ H
def tSeq (t u : TS) : TS := fun D σ H => t { D with nx := u D } σ H
theorem pss_nil : PSs X [] tNext := fun _ _ σ H _ I h => wpAny_execs_nil ⟨σ, H, I, h⟩
theorem pss_cons (h1 : PS X st t) (h2 : PSs X rest u) : PSs X (st :: rest) (tSeq t u) := by
  intro pins s σ H D I h
  refine wpAny_execs_cons (thn (h1 pins s σ H { D with nx := u D } I h) fun f s1 q => ?_)
  cases f with
  | next =>
    obtain ⟨σ', H', I', q⟩ := q
    exact h2 pins s1 σ' H' D I' q
  | ret v => exact q
  | brk => exact q
  | cont => exact q
theorem pss_one (h1 : PS X st t) : PSs X [st] t := by
  intro pins s σ H D I h
  refine wpAny_execs_cons (thn (h1 pins s σ H D I h) fun f s1 q => ?_)
  cases f with
  | next => exact wpAny_execs_nil q
  | ret v => exact q
  | brk => exact q
  | cont => exact q
theorem Inv.quiet {pins : List (Addr × Obj)} {σ : St} {H : Hp} {s : Shared} (I : Inv X pins σ H s) : interactive X.env = false := by simp [interactive, I.ok.kind]
def tDrop (te : TE) : TS := fun D σ H => te σ H fun _ H1 => D.nx σ H1
theorem ps_expr (he : PE X e te) (hs : swapsWith e none pos.line X.env = pure false := by rfl) : PS X (.Expr e pos) (tDrop te) := by
  intro pins s σ H D I h
  exact wpAny_Expr_any (thn (he pins s σ H _ I h) fun v s1 ⟨x, H1, I1, r1, q1⟩ => ⟨σ, H1, I1, q1⟩) I.quiet hs
def tRet (te : TE) : TS := fun D σ H => te σ H D.rt
theorem ps_ret (he : PE X e te) : PS X (.Return (some e) pos) (tRet te) := by
  intro pins s σ H D I h
  exact wpAny_Return_some (thn (he pins s σ H _ I h) fun v s1 ⟨x, H1, I1, r1, q1⟩ => ⟨x, σ, H1, I1, r1, q1⟩)
def tIfS (c : TT) (t u : TS) : TS := fun D σ H => c σ H fun b H1 => if b = true then t D σ H1 else u D σ H1
theorem ps_if {c : Expr} {a b : List Stmt} {tc : TT} (hc : PT X c tc) (ha : PSs X a t) (hb : PSs X b u) : PS X (.If c a b pos) (tIfS tc t u) := by
  intro pins s σ H D I h
  refine wpAny_If (thn (hc pins s σ H _ I h) fun d s1 ⟨H1, I1, q1⟩ => ?_)
  cases d with
  | true => exact ha pins s1 σ H1 D I1 q1
  | false => exact hb pins s1 σ H1 D I1 q1
end
abbrev TG := V → St → Hp → (St → Hp → Prop) → Prop
abbrev TGs := List V → St → Hp → (St → Hp → Prop) → Prop
def PG (X : Cx) (target : Expr) (t : TG) : Prop :=
  ∀ (pins : List (Addr × Obj)) (s : Shared) (σ : St) (H : Hp) (v : V) (u : Value) (Q : St → Hp → Prop), Inv X pins σ H s → RelV v u → t v σ H Q →
    wpAny (model X.prog X.w) X.A (assign target X.env u) (fun _ s' => ∃ σ' H', Inv X pins σ' H' s' ∧ Q σ' H') X.xe s
def PGs (X : Cx) (ts : List Expr) (t : TGs) : Prop :=
  ∀ (pins : List (Addr × Obj)) (s : Shared) (σ : St) (H : Hp) (vs : List V) (us : List Value) (Q : St → Hp → Prop), Inv X pins σ H s → Vals vs us → t vs σ H Q →
    wpAny (model X.prog X.w) X.A (assignInOrder ((assignEach ts X.env).map (·.2)) us) (fun _ s' => ∃ σ' H', Inv X pins σ' H' s' ∧ Q σ' H') X.xe s
abbrev TSet := V → V → V → Hp → (Hp → Prop) → Prop
def PSet (X : Cx) (t : TSet) : Prop :=
  ∀ (pins : List (Addr × Obj)) (s : Shared) (σ : St) (H : Hp) (o i v : V) (ov iv u : Value) (Q : Hp → Prop), Inv X pins σ H s → RelV o ov → RelV i iv → RelV v u → t o i v H Q →
    wpAny (model X.prog X.w) X.A (setItem ov iv u) (fun _ s' => ∃ H', Inv X pins σ H' s' ∧ Q H') X.xe s
section
variable {X : Cx} {pos : Pos}
def gName (i : Nat) : TG := fun v σ H Q => Q (σ.set i (some v)) H
theorem pg_name {i : Nat} {x : Str} (hN : X.N.Nodup) (hi : X.N[i]? = some x) (hx : Loc X.env.scope x) (hf : X.fn x = true ∨ X.env.scope.names.lookup x = some .local := by first | exact .inl rfl | exact .inr rfl | assumption) : PG X (.Name x pos) (gName i) := by
  intro pins s σ H v u Q I r h
  exact wpAny_assign_Name (store_ok I hN hi hx r (fun s' I' => ⟨_, H, I', h⟩) hf)
def gNil : TGs := fun vs σ H Q => vs = [] ∧ Q σ H
def gCons (t : TG) (u : TGs) : TGs := fun vs σ H Q => ∃ v r, vs = v :: r ∧ t v σ H fun σ' H' => u r σ' H' Q
theorem pgs_nil : PGs X [] gNil := by
  intro pins s σ H vs us Q I r h
  obtain ⟨e, h⟩ := h
  subst e
  cases r
  exact assignInOrder_nil ⟨σ, H, I, h⟩
theorem pgs_cons {e : Expr} {es : List Expr} {t : TG} {u : TGs} (h1 : PG X e t) (h2 : PGs X es u)
    (hs : (assignEach (e :: es) X.env).map (·.2) = assign e X.env :: (assignEach es X.env).map (·.2) := by rfl) : PGs X (e :: es) (gCons t u) := by
  intro pins s σ H vs us Q I r h
  obtain ⟨v, vr, e1, h⟩ := h
  subst e1
  cases r with
  | cons r rr =>
    rw [hs]
    refine assignInOrder_cons (thn (h1 pins s σ H _ _ _ I r h) fun _ s1 ⟨σ1, H1, I1, q1⟩ => ?_)
    exact h2 pins s1 σ1 H1 _ _ Q I1 rr q1
def gTup (K : PySem.W.Frag) (n : Nat) (t : TGs) : TG := fun v σ H Q => ∃ a xs, v = .ref a ∧ SqT K H a xs ∧ xs.length = n ∧ t xs σ H Q
theorem pg_tup {es : List Expr} {k : Nat} {t : TGs} {n : Nat} (hc : X.calm = true) (h : PGs X es t)
    (hn : (assignEach es X.env).length = n := by rfl) (hst : (assignEach es X.env).findIdx? (·.1) = none := by rfl) : PG X (.Tuple es k pos) (gTup X.K n t) := by
  intro pins s σ H v u Q I r hw
  obtain ⟨a, xs, e1, hq, hl, hw⟩ := hw
  subst e1
  cases r
  obtain ⟨its, rv, ht, hz⟩ := I.tuple hq
  refine assign_Tuple_tuple (I.ok.hd hc) ht (by simp [hn, ← hl, rv.length]) hst fun h' hx => ?_
  have I1 : Inv X pins σ H { s with heap := h' } := I.kept (t' := s.toks) fun b o e => hx b o (Nat.ne_of_lt (Heap.lt_size e)) e
  exact h pins _ σ H xs _ Q I1 (by simpa using rv) hw
def gSub (to ti : TE) (t : TSet) : TG := fun v σ H Q => to σ H fun o H1 => ti σ H1 fun i H2 => t o i v H2 fun H3 => Q σ H3
theorem pg_sub {o i : Expr} {to ti : TE} {t : TSet} (ho : PE X o to) (hi : PE X i ti) (hs : PSet X t)
    (ha : ∀ v, assign (.Subscript o i pos) X.env v = (do
      let ov ← holding [v] (eval o X.env)
      let iv ← holding [v, ov] (eval i X.env)
      standAt pos
      holding [v, ov, iv] (setItem ov iv v)
      release [v, ov, iv] []) := by intro _; rfl) : PG X (.Subscript o i pos) (gSub to ti t) := by
  intro pins s σ H v u Q I r h
  rw [ha]
  refine wpAny_bind (wpAny_holding (thn (ho pins s σ H _ I h) fun ov s1 ⟨x, H1, I1, r1, q1⟩ => ?_))
  refine wpAny_bind (wpAny_holding (thn (hi pins s1 σ H1 _ I1 q1) fun iv s2 ⟨y, H2, I2, r2, q2⟩ => ?_))
  refine wpAny_bind (wpAny_standAt (wpAny_bind (wpAny_holding (thn (hs pins s2 σ H2 x y v ov iv u _ I2 r1 r2 r q2) fun _ s3 ⟨H3, I3, q3⟩ => ?_))))
  exact wpAny_release ⟨σ, H3, I3, q3⟩
def tAsg (te : TE) (g : TG) : TS := fun D σ H => te σ H fun x H1 => g x σ H1 D.nx
theorem ps_asg {tg e : Expr} {te : TE} {g : TG} (he : PE X e te) (hg : PG X tg g) (hs : swapsWithSole [tg] e pos.line X.env = pure false := by rfl) (hw : swappedStores [tg] e X.env = pure none := by rfl)
    (h1 : (assignEach [tg] X.env).map (·.2) = [assign tg X.env] := by rfl) : PS X (.Assign [tg] e pos) (tAsg te g) := by
  intro pins s σ H D I h
  refine wpAny_Assign_stores (thn (he pins s σ H _ I h) fun v s1 ⟨x, H1, I1, r1, q1⟩ => ?_) hs hw
  rw [h1]
  exact thn (hg pins s1 σ H1 x v _ I1 r1 q1) fun _ s2 q => q
theorem ps_set {i : Nat} {x : Str} {e : Expr} {te : TE} {pos' : Pos} (hN : X.N.Nodup) (hi : X.N[i]? = some x) (hx : Loc X.env.scope x) (he : PE X e te) (hs : swapsWith e (some (.Name x pos')) pos.line X.env = pure false := by rfl) (hf : X.fn x = true ∨ X.env.scope.names.lookup x = some .local := by first | exact .inl rfl | exact .inr rfl | assumption) :
    PS X (.Assign [.Name x pos'] e pos) (tAsg te (gName i)) := by
  intro pins s σ H D I h
  refine wpAny_Assign_Name (thn (he pins s σ H _ I h) fun v s1 ⟨y, H1, I1, r1, q1⟩ => ?_) hs
  exact store_ok I1 hN hi hx r1 (fun s2 I2 => ⟨_, H1, I2, q1⟩) hf
end
section
variable {X : Cx} {pos : Pos}
end
structure It where
  go : Nat → Hp → Prop
  yld : Nat → Hp → V → Hp → Prop
  stop : Nat → Hp → Prop
def FpOk (X : Cx) (pins : List (Addr × Obj)) (H : Hp) (b : Addr) : Prop :=
  H b = none ∧ b ≠ X.env.locals ∧ b ∉ X.fs ∧ (b ∈ X.ex ∨ X.s₀.heap.objs.size ≤ b) ∧ (∀ x c, X.env.cells.lookup x = some c → c ≠ b) ∧ ∀ p ∈ X.pn ++ pins, p.1 ≠ b
theorem Inv.fpOk {X : Cx} {pins : List (Addr × Obj)} {σ : St} {H H' : Hp} {s : Shared} {b : Addr} (I : Inv X pins σ H s) (hb : s.heap.objs.size ≤ b) (hn : H' b = none) : FpOk X pins H' b := by
  refine ⟨hn, Nat.ne_of_gt (Nat.lt_of_lt_of_le I.lt hb), I.nofs hb, .inr (Nat.le_trans I.sz hb), fun x c e z => ?_, fun p hp z => ?_⟩
  · obtain ⟨v, q⟩ := I.cell x c e
    exact absurd (Nat.lt_of_lt_of_le q.lt (by rw [z]; exact hb)) (Nat.lt_irrefl _)
  · exact absurd (Nat.lt_of_lt_of_le (Heap.lt_size (I.pin p hp).1) (by rw [z]; exact hb)) (Nat.lt_irrefl _)
structure Turn (P : Program) (w : World) (K : PySem.W.Frag) (tg : Expr) (J : It) (fp : List Addr) (it : Addr) (tn : Nat → Heap → Prop) : Prop where
  mem : it ∈ fp
  obj : ∀ i h, tn i h → ∀ b ∈ fp, ∃ o, h.get? b = some o ∧ ∀ v, o.data ≠ .cell v
  keep : ∀ i h h', tn i h → (∀ b ∈ fp, ∀ o, h.get? b = some o → h'.get? b = some o) → tn i h'
  item : ∀ (X : Cx), X.prog = P → X.w = w → X.K = K → X.calm = true → ∀ (i : Nat) (pins : List (Addr × Obj)) (s : Shared) (σ : St) (H : Hp) (E : Value → Shared → Prop), Inv X pins σ H s → (∀ b ∈ fp, FpOk X pins H b) → tn i s.heap → J.go i H →
    wpAny (model P w) X.A (pyNext (.ref it)) (fun r s1 => ∃ u, r = some u ∧
      wpAny (model P w) X.A (letOwnedTupleGo tg (.ref it) u) (fun _ s2 => ∃ x H', Inv X pins σ H' s2 ∧ RelV x u ∧ J.yld i H x H' ∧ tn (i + 1) s2.heap ∧ ∀ b ∈ fp, H' b = none) E s1) E s
  done : ∀ (X : Cx), X.prog = P → X.w = w → X.K = K → X.calm = true → ∀ (i : Nat) (pins : List (Addr × Obj)) (s : Shared) (σ : St) (H : Hp) (E : Value → Shared → Prop), Inv X pins σ H s → (∀ b ∈ fp, FpOk X pins H b) → tn i s.heap → J.stop i H →
    wpAny (model P w) X.A (pyNext (.ref it)) (fun r s1 => r = none ∧ Inv X pins σ H s1) E s
  self : ∀ (A : Around) (i : Nat) (s : Shared) (Q : Value → Shared → Prop) (E : Value → Shared → Prop), tn i s.heap → Q (.ref it) s → wpAny (model P w) A (pyIter (.ref it)) Q E s
abbrev TI := St → Hp → (It → Hp → Prop) → Prop
def PIE (X : Cx) (pins : List (Addr × Obj)) (σ : St) (tg : Expr) (R : It → Hp → Prop) (itv : Value) (s2 : Shared) : Prop :=
  ∃ (it : Addr) (fp : List Addr) (tn : Nat → Heap → Prop) (J : It) (H' : Hp), itv = .ref it ∧ Inv X pins σ H' s2 ∧ Turn X.prog X.w X.K tg J fp it tn ∧ tn 0 s2.heap ∧ (∀ b ∈ fp, FpOk X pins H' b) ∧ R J H'
def PI (X : Cx) (tg iter : Expr) (wi : TI) : Prop :=
  ∀ (pins : List (Addr × Obj)) (s : Shared) (σ : St) (H : Hp) (R : It → Hp → Prop), Inv X pins σ H s → wi σ H R →
    wpAny (model X.prog X.w) X.A (eval iter X.env) (fun v s1 => wpAny (model X.prog X.w) X.A (pyIter v) (PIE X pins σ tg R) X.xe s1) X.xe s
theorem go_of {M : Model} {A : Around} {E : Value → Shared → Prop} {s : Shared} {tg : Expr} {it : Addr} {u : Value} {o : Obj} {n : String} {vs : Array Value} {Q : Unit → Shared → Prop} (ho : s.heap.get? it = some o) (hc : o.cls = .type n) (hd : o.data = .fields vs)
    (hn : ["enumerate", "zip", "dict_itemiterator", "dict_reverseitemiterator", "odict_iterator", "itertools.zip_longest", "itertools.pairwise"].contains n = false) (hQ : Q () s) : wpAny M A (letOwnedTupleGo tg (.ref it) u) Q E s := by
  unfold letOwnedTupleGo
  cases tg <;> first
    | exact wpAny_pure hQ
    | (cases u <;> first
        | exact wpAny_pure hQ
        | (refine wpAny_bind (wpAny_load ho ?_)
           rw [hc, hd]
           show wpAny M A (if (["enumerate", "zip", "dict_itemiterator", "dict_reverseitemiterator", "odict_iterator", "itertools.zip_longest", "itertools.pairwise"].contains n && vs[0]? == some (rawInt _)) = true then _ else _) Q E s
           rw [if_neg (by intro h; rw [hn, Bool.false_and] at h; cases h)]
           exact wpAny_pure hQ))
def Itl (K : PySem.W.Frag) (a : Addr) : It :=
  ⟨fun i H => ∃ xs x, SqL K H a xs ∧ xs[i]? = some x, fun i H x H' => H' = H ∧ ∀ xs, SqL K H a xs → xs[i]? = some x, fun i H => ∃ xs, SqL K H a xs ∧ xs.length ≤ i⟩
def Itt (K : PySem.W.Frag) (a : Addr) : It :=
  ⟨fun i H => ∃ xs x, SqT K H a xs ∧ xs[i]? = some x, fun i H x H' => H' = H ∧ ∀ xs, SqT K H a xs → xs[i]? = some x, fun i H => ∃ xs, SqT K H a xs ∧ xs.length ≤ i⟩
def Itr (lo : Int) (n : Nat) : It := ⟨fun i _ => i < n, fun i H x H' => H' = H ∧ x = .int (lo + i), fun i _ => n ≤ i⟩
theorem turn_list {P : Program} {w : World} {K : PySem.W.Frag} {tg : Expr} (a it : Addr) : Turn P w K tg (Itl K a) [it] it (fun i h => h.IsListIter it a i) where
  mem := by simp
  obj := fun i h st b hb => by
    have e : b = it := by simpa using hb
    subst e
    obtain ⟨o, e, c, d⟩ := st
    exact ⟨o, e, fun v z => by rw [d] at z; cases z⟩
  keep := fun i h h' st k => st.at fun o e => k it (by simp) o e
  item := by
    intro X hP hw hK hc i pins s σ H E I hf st hg
    subst hP hw hK
    obtain ⟨xs, x, hq, hx⟩ := hg
    obtain ⟨its, rv, p, hz⟩ := I.list hq
    obtain ⟨u, hu, ru⟩ := rv.get hx
    obtain ⟨f0, f1, f2, f3, f4, f5⟩ := hf it (by simp)
    refine wpAny_pyNext_list_item st p.isList (x := u) (by simpa using hu) fun h' st' sb => ?_
    have I1 : Inv X pins σ H { s with heap := h' } := I.turned (t' := s.toks) (fun b o hb e => (sb.2 b hb).trans e) f0 f1 f3 f4 f5
    obtain ⟨o, e, c, d⟩ := id st'
    exact ⟨u, rfl, go_of (s := { s with heap := h' }) e c d (by decide) ⟨x, H, I1, ru, ⟨rfl, fun ys hy => by rw [I.list_inj hy hq]; exact hx⟩, st', fun b hb => (hf b hb).1⟩⟩
  done := by
    intro X hP hw hK hc i pins s σ H E I hf st hg
    subst hP hw hK
    obtain ⟨xs, hq, hx⟩ := hg
    obtain ⟨its, rv, p, hz⟩ := I.list hq
    obtain ⟨f0, f1, f2, f3, f4, f5⟩ := hf it (by simp)
    have hl := rv.length
    exact wpAny_pyNext_list_end (I.ok.hd hc) st p.isList (by simp; lia) fun h' eb => ⟨rfl, I.turned (t' := s.toks) (fun b o hb e => eb b o hb e) f0 f1 f3 f4 f5⟩
  self := fun _ _ _ _ _ st h => wpAny_pyIter_listiter st h
theorem turn_tuple {P : Program} {w : World} {K : PySem.W.Frag} {tg : Expr} (a it : Addr) : Turn P w K tg (Itt K a) [it] it (fun i h => h.IsTupleIter it a i) where
  mem := by simp
  obj := fun i h st b hb => by
    have e : b = it := by simpa using hb
    subst e
    obtain ⟨o, e, c, d⟩ := st
    exact ⟨o, e, fun v z => by rw [d] at z; cases z⟩
  keep := fun i h h' st k => st.at fun o e => k it (by simp) o e
  item := by
    intro X hP hw hK hc i pins s σ H E I hf st hg
    subst hP hw hK
    obtain ⟨xs, x, hq, hx⟩ := hg
    obtain ⟨its, rv, p, hz⟩ := I.tuple hq
    obtain ⟨u, hu, ru⟩ := rv.get hx
    obtain ⟨f0, f1, f2, f3, f4, f5⟩ := hf it (by simp)
    refine wpAny_pyNext_tuple_item st (show s.heap.IsTuple a its.toArray from p) (x := u) (by simpa using hu) fun h' st' sb => ?_
    have I1 : Inv X pins σ H { s with heap := h' } := I.turned (t' := s.toks) (fun b o hb e => (sb.2 b hb).trans e) f0 f1 f3 f4 f5
    obtain ⟨o, e, c, d⟩ := id st'
    exact ⟨u, rfl, go_of (s := { s with heap := h' }) e c d (by decide) ⟨x, H, I1, ru, ⟨rfl, fun ys hy => by rw [I.tuple_inj hy hq]; exact hx⟩, st', fun b hb => (hf b hb).1⟩⟩
  done := by
    intro X hP hw hK hc i pins s σ H E I hf st hg
    subst hP hw hK
    obtain ⟨xs, hq, hx⟩ := hg
    obtain ⟨its, rv, p, hz⟩ := I.tuple hq
    obtain ⟨f0, f1, f2, f3, f4, f5⟩ := hf it (by simp)
    have hl := rv.length
    exact wpAny_pyNext_tuple_end (I.ok.hd hc) st (show s.heap.IsTuple a its.toArray from p) (by simp; lia) fun h' eb => ⟨rfl, I.turned (t' := s.toks) (fun b o hb e => eb b o hb e) f0 f1 f3 f4 f5⟩
  self := fun _ _ _ _ _ st h => wpAny_pyIter_tupleiter st h
theorem turn_range {P : Program} {w : World} {K : PySem.W.Frag} {tg : Expr} (it : Addr) (lo : Int) (n : Nat) : Turn P w K tg (Itr lo n) [it] it (fun i h => IsRangeIter h it (lo + (i : Nat) * 1) ((n : Int) - (i : Nat)) 1) where
  mem := by simp
  obj := fun i h st b hb => by
    have e : b = it := by simpa using hb
    subst e
    exact ⟨_, st, fun v z => by
      have z' : Data.fields _ = Data.cell v := z
      cases z'⟩
  keep := fun i h h' st k => k it (by simp) _ st
  item := by
    intro X hP hw hK hc i pins s σ H E I hf st hg
    subst hP hw hK
    obtain ⟨f0, f1, f2, f3, f4, f5⟩ := hf it (by simp)
    have W := Walks.range (prog := X.prog) (w := X.w) (I.ok.hd hc) it lo 1 n
    refine W.item i s _ _ hg st fun v h' tk hv st' kk => ?_
    obtain ⟨t, rfl⟩ := hv
    have I1 : Inv X pins σ H { s with heap := h', toks := tk } := I.turned (fun b o hb e => kk b o (by simpa using hb) e) f0 f1 f3 f4 f5
    refine ⟨_, rfl, go_of (s := { s with heap := h', toks := tk }) (n := "range_iterator") st' rfl rfl (by decide) ⟨.int (lo + i), H, I1, ⟨t, ?_⟩, ⟨rfl, rfl⟩, st', fun b hb => (hf b hb).1⟩⟩
    rw [Int.mul_one]
  done := by
    intro X hP hw hK hc i pins s σ H E I hf st hg
    subst hP hw hK
    obtain ⟨f0, f1, f2, f3, f4, f5⟩ := hf it (by simp)
    exact wpAny_pyNext_range_end (I.ok.hd hc) st (by have : n ≤ i := hg; lia) fun h' eb => ⟨rfl, I.turned (t' := s.toks) (fun b o hb e => eb b o hb e) f0 f1 f3 f4 f5⟩
  self := fun _ _ _ _ _ st h => wpAny_pyIter_rangeiter st h
end L2
namespace L2
open PySem PySem.Spec PyProof.Rows
section
variable {X : Cx} {tg : Expr}
def iList (K : PySem.W.Frag) (tl : TE) : TI := fun σ H R => tl σ H fun x H1 => ∃ a, x = .ref a ∧ (∃ xs, SqL K H1 a xs) ∧ R (Itl K a) H1
def iTup (K : PySem.W.Frag) (tl : TE) : TI := fun σ H R => tl σ H fun x H1 => ∃ a, x = .ref a ∧ (∃ xs, SqT K H1 a xs) ∧ R (Itt K a) H1
theorem pi_list {l : Expr} {tl : TE} (hl : PE X l tl) : PI X tg l (iList X.K tl) := by
  intro pins s σ H R I h
  refine thn (hl pins s σ H _ I h) fun v s1 ⟨x, H1, I1, r1, q1⟩ => ?_
  obtain ⟨a, e, ⟨xs, hq⟩, q⟩ := q1
  subst e
  cases r1
  obtain ⟨its, rv, p, hz⟩ := I1.list hq
  refine wpAny_pyIter_list p.isList ?_
  refine ⟨s1.heap.objs.size, [s1.heap.objs.size], _, _, H1, rfl, I1.kept (t' := s1.toks) fun b o e => Heap.get?_push_of_some _ e, turn_list a _, ⟨_, Heap.get?_push_size _ rfl, rfl, rfl⟩, fun b hb => ?_, q⟩
  have e : b = s1.heap.objs.size := by simpa using hb
  subst e
  exact I1.fpOk (Nat.le_refl _) (I1.hok.fresh (Nat.le_refl _))
theorem pi_tup {l : Expr} {tl : TE} (hl : PE X l tl) : PI X tg l (iTup X.K tl) := by
  intro pins s σ H R I h
  refine thn (hl pins s σ H _ I h) fun v s1 ⟨x, H1, I1, r1, q1⟩ => ?_
  obtain ⟨a, e, ⟨xs, hq⟩, q⟩ := q1
  subst e
  cases r1
  obtain ⟨its, rv, p, hz⟩ := I1.tuple hq
  refine wpAny_pyIter_tuple (show s1.heap.IsTuple a its.toArray from p) ?_
  refine ⟨s1.heap.objs.size, [s1.heap.objs.size], _, _, H1, rfl, I1.kept (t' := s1.toks) fun b o e => Heap.get?_push_of_some _ e, turn_tuple a _, ⟨_, Heap.get?_push_size _ rfl, rfl, rfl⟩, fun b hb => ?_, q⟩
  have e : b = s1.heap.objs.size := by simpa using hb
  subst e
  exact I1.fpOk (Nat.le_refl _) (I1.hok.fresh (Nat.le_refl _))
theorem range_it {pins : List (Addr × Obj)} {σ : St} {H : Hp} {s : Shared} {R : It → Hp → Prop} {E : Value → Shared → Prop} {lo hi : Int} {t u v : Tok} {tk : Nat} (I : Inv X pins σ H s) (h1 : -(2 ^ 62) ≤ lo) (h2 : lo < 2 ^ 62) (h3 : -(2 ^ 62) ≤ hi) (h4 : hi < 2 ^ 62)
    (q : R (Itr lo (hi - lo).toNat) H) : wpAny (model X.prog X.w) X.A (pyIter (.ref s.heap.objs.size)) (PIE X pins σ tg R) E { s with heap := s.heap.push { cls := .type "range", data := .fields #[.int lo t, .int hi u, .int 1 v] }, toks := tk } := by
  refine wpAny_pyIter_range (IsRange.new ..) (small_one h1 h2 h3 h4) ?_
  have I1 : Inv X pins σ H { s with heap := s.heap.push { cls := .type "range", data := .fields #[.int lo t, .int hi u, .int 1 v] }, toks := tk } := I.kept fun b o e => Heap.get?_push_of_some _ e
  refine ⟨(s.heap.push { cls := .type "range", data := .fields #[.int lo t, .int hi u, .int 1 v] }).objs.size, [(s.heap.push { cls := .type "range", data := .fields #[.int lo t, .int hi u, .int 1 v] }).objs.size], _, _, H, rfl,
    I1.kept (t' := tk) fun b o e => Heap.get?_push_of_some _ e, turn_range _ lo (hi - lo).toNat, ?_, fun b hb => ?_, q⟩
  · have e1 : lo + ((0 : Nat) : Int) * 1 = lo := by simp
    have e2 : (((hi - lo).toNat : Nat) : Int) - ((0 : Nat) : Int) = Builtin.Range.rangeSize lo hi 1 := by rw [rangeSize_one]; split <;> lia
    show IsRangeIter _ _ (lo + ((0 : Nat) : Int) * 1) ((((hi - lo).toNat : Nat) : Int) - ((0 : Nat) : Int)) 1
    rw [e1, e2]
    exact Heap.get?_push_size _ rfl
  · have e : b = (s.heap.push { cls := .type "range", data := .fields #[.int lo t, .int hi u, .int 1 v] }).objs.size := by simpa using hb
    subst e
    exact I1.fpOk (Nat.le_refl _) (I1.hok.fresh (Nat.le_refl _))
def iRng1 (ta : TA) : TI := fun σ H R => ta σ H fun vs H1 => ∃ j : Int, vs = [.int j] ∧ -(2 ^ 62) ≤ j ∧ j < 2 ^ 62 ∧ R (Itr 0 j.toNat) H1
theorem pi_range1 {a : Expr} {ta : TA} {p pos : Pos} (hg : Gl X "range") (hm : X.mg "range" = none) (ha : PA X [a] ta) (hs : starEach [a] X.env = [(false, eval a X.env)] := by rfl) : PI X tg (.Call (.Name "range" p) [a] [] pos) (iRng1 ta) := by
  intro pins s σ H R I h
  refine Call_ (ld_blt I hg hm boot_range (PyProof.Rows.callWith_type1 (thn (ha pos pins s σ H _ I h) fun us s1 ⟨vs, H1, I1, r1, q1⟩ => ?_) hs rfl))
  obtain ⟨j, e, q1, q2, q⟩ := q1
  subst e
  cases r1 with
  | cons r rr =>
    cases rr
    obtain ⟨t, rfl⟩ := r
    exact call_range_1 (range_it I1 (by lia) (by lia) q1 q2 (by simpa using q))
def tFor (wi : TI) (g : TG) (tb : TS) : TS := fun D σ H => wi σ H fun J H1 => ∃ W : Nat → Nat → St → Hp → Prop, (∃ m, W 0 m σ H1) ∧ ∀ i m σ H, W i m σ H →
  (J.stop i H ∧ D.nx σ H) ∨ (J.go i H ∧ ∃ N : St → Hp → Prop, (∀ σ' H', N σ' H' → ∃ m', m' < m ∧ W (i + 1) m' σ' H') ∧ ∀ x H', J.yld i H x H' → g x σ H' fun σ2 H2 => tb { D with nx := N, ct := N, bk := D.nx } σ2 H2)
def pinsAt (fp : List Addr) (h : Heap) : List (Addr × Obj) := fp.filterMap fun b => (h.get? b).map fun o => (b, o)
theorem mem_pinsAt {fp : List Addr} {h : Heap} {b : Addr} {o : Obj} (hb : b ∈ fp) (e : h.get? b = some o) : (b, o) ∈ pinsAt fp h := List.mem_filterMap.mpr ⟨b, hb, by rw [e]; rfl⟩
theorem of_pinsAt {fp : List Addr} {h : Heap} {p : Addr × Obj} (hp : p ∈ pinsAt fp h) : p.1 ∈ fp ∧ h.get? p.1 = some p.2 := by
  obtain ⟨b, hb, e⟩ := List.mem_filterMap.mp hp
  cases q : h.get? b with
  | none => rw [q] at e; cases e
  | some o =>
    rw [q] at e
    have e' : (b, o) = p := Option.some.inj e
    subst e'
    exact ⟨hb, q⟩
theorem Inv.pinned {pins : List (Addr × Obj)} {σ : St} {H : Hp} {s : Shared} {fp : List Addr} (I : Inv X pins σ H s) (hf : ∀ b ∈ fp, FpOk X pins H b) (ho : ∀ b ∈ fp, ∃ o, s.heap.get? b = some o ∧ ∀ v, o.data ≠ .cell v) : Inv X (pins ++ pinsAt fp s.heap) σ H s :=
  I.pins_of fun p hp => (List.mem_append.mp hp).elim (fun z => I.pin p (List.mem_append_right _ z)) fun z => by
    obtain ⟨hb, e⟩ := of_pinsAt z
    obtain ⟨f0, f1, f2, _⟩ := hf p.1 hb
    obtain ⟨o, e', d⟩ := ho p.1 hb
    rw [e] at e'; cases e'
    exact ⟨e, f0, f1, f2, d⟩
theorem Inv.unpinned {pins pl : List (Addr × Obj)} {σ : St} {H : Hp} {s : Shared} (I : Inv X (pins ++ pl) σ H s) : Inv X pins σ H s := I.pins_of fun p hp => I.pin p (List.mem_append_right _ (List.mem_append_left _ hp))
theorem ps_for {iter : Expr} {body : List Stmt} {wi : TI} {g : TG} {tb : TS} {pos : Pos} (hp : PassesOwn (model X.prog X.w) X.A X.env X.xe) (hc : X.calm = true) (hi : PI X tg iter wi) (hg : PG X tg g) (hb : PSs X body tb)
    (hs : ∀ x, foldedSetIterable iter X.env x = pure x := by intro _; rfl) : PS X (.For tg iter body [] pos) (tFor wi g tb) := by
  intro pins s σ H D I h
  refine wpAny_For (thn (hi pins s σ H _ I h) fun v s1 h1 => thn h1 fun itv s2 h2 => ?_) hs
  obtain ⟨it, fp, tn, J, H2, e, I2, T, st2, f2, W, ⟨m0, w0⟩, turn⟩ := h2
  subst e
  have stat : ∀ {H' : Hp}, (∀ b ∈ fp, H' b = none) → ∀ b ∈ fp, FpOk X pins H' b := fun hn b hb => ⟨hn b hb, (f2 b hb).2⟩
  refine codeAny_forLoop_any (fun n s' => ∃ i σ' H', Inv X pins σ' H' s' ∧ tn i s'.heap ∧ (∀ b ∈ fp, H' b = none) ∧ W i n σ' H') ?_ m0 ⟨0, σ, H2, I2, st2, fun b hb => (f2 b hb).1, w0⟩
  rintro n s3 ⟨i, σ3, H3, I3, st3, fr3, w3⟩
  rcases turn i n σ3 H3 w3 with ⟨stop, qn⟩ | ⟨go, N, hN, step⟩
  · refine wpAny_passesOwn hp (thn (T.done X rfl rfl rfl hc i pins s3 σ3 H3 X.xe I3 (stat fr3) st3 stop) fun r s4 ⟨hr, I4⟩ => ?_)
    subst hr
    exact wpAny_execs_nil ⟨σ3, H3, I4, qn⟩
  · refine wpAny_passesOwn hp (thn (T.item X rfl rfl rfl hc i pins s3 σ3 H3 X.xe I3 (stat fr3) st3 go) fun r s4 ⟨u, hr, h4⟩ => ?_)
    subst hr
    refine wpAny_passesOwn hp (thn h4 fun _ s5 ⟨x, H5, I5, r5, y5, st5, fr5⟩ => ?_)
    have I5' := I5.pinned (stat fr5) (T.obj _ _ st5)
    refine wpAny_passesOwn hp (thn (hg _ s5 σ3 H5 x u _ I5' r5 (step x H5 y5)) fun _ s6 ⟨σ6, H6, I6, q6⟩ => ?_)
    refine wpAny_passesOwn hp (thn (hb _ s6 σ6 H6 _ I6 q6) fun f s7 q7 => ?_)
    have again : ∀ {σ7 : St} {H7 : Hp}, Inv X (pins ++ pinsAt fp s5.heap) σ7 H7 s7 → N σ7 H7 → ∃ m, m < n ∧ ∃ i σ' H', Inv X pins σ' H' s7 ∧ tn i s7.heap ∧ (∀ b ∈ fp, H' b = none) ∧ W i m σ' H' := fun {σ7 H7} I7 n7 => by
      obtain ⟨m', hm, w7⟩ := hN σ7 H7 n7
      refine ⟨m', hm, i + 1, σ7, H7, I7.unpinned, T.keep _ _ _ st5 fun b hb o e => (I7.pin (b, o) (List.mem_append_right _ (List.mem_append_right _ (mem_pinsAt hb e)))).1, fun b hb => ?_, w7⟩
      obtain ⟨o, e, d⟩ := T.obj _ _ st5 b hb
      exact (I7.pin (b, o) (List.mem_append_right _ (List.mem_append_right _ (mem_pinsAt hb e)))).2.1
    cases f with
    | next => obtain ⟨σ7, H7, I7, n7⟩ := q7; exact again I7 n7
    | cont => obtain ⟨σ7, H7, I7, n7⟩ := q7; exact again I7 n7
    | brk => obtain ⟨σ7, H7, I7, q7⟩ := q7; exact ⟨σ7, H7, I7.unpinned, q7⟩
    | ret v => obtain ⟨x7, σ7, H7, I7, r7, q7⟩ := q7; exact ⟨x7, σ7, H7, I7.unpinned, r7, q7⟩
end
theorem for_list {K : PySem.W.Frag} {a : Addr} {xs : List V} {g : TG} {tb : TS} {D : Ends} {σ : St} {H : Hp} (Pv : Nat → St → Hp → Prop) (h0 : Pv 0 σ H) (hl : ∀ i σ H, i ≤ xs.length → Pv i σ H → SqL K H a xs)
    (hs : ∀ i x σ H, xs[i]? = some x → Pv i σ H → g x σ H fun σ2 H2 => tb { D with nx := Pv (i + 1), ct := Pv (i + 1), bk := D.nx } σ2 H2) (hd : ∀ σ H, Pv xs.length σ H → D.nx σ H) :
    ∃ W : Nat → Nat → St → Hp → Prop, (∃ m, W 0 m σ H) ∧ ∀ i m σ H, W i m σ H →
      ((Itl K a).stop i H ∧ D.nx σ H) ∨ ((Itl K a).go i H ∧ ∃ N : St → Hp → Prop, (∀ σ' H', N σ' H' → ∃ m', m' < m ∧ W (i + 1) m' σ' H') ∧ ∀ x H', (Itl K a).yld i H x H' → g x σ H' fun σ2 H2 => tb { D with nx := N, ct := N, bk := D.nx } σ2 H2) := by
  refine ⟨fun i m σ H => m = xs.length - i ∧ i ≤ xs.length ∧ Pv i σ H, ⟨xs.length, by simp, Nat.zero_le _, h0⟩, ?_⟩
  rintro i m σ H ⟨rfl, hi, p⟩
  have q := hl i σ H hi p
  by_cases hlt : i < xs.length
  · refine .inr ⟨⟨xs, xs[i], q, by simp [hlt]⟩, Pv (i + 1), fun σ' H' p' => ⟨xs.length - (i + 1), by lia, rfl, hlt, p'⟩, fun x H' y => ?_⟩
    obtain ⟨e, y⟩ := y
    subst e
    exact hs i x σ _ (y xs q) p
  · have e : i = xs.length := by lia
    subst e
    exact .inl ⟨⟨xs, q, Nat.le_refl _⟩, hd σ H p⟩
theorem for_tup {K : PySem.W.Frag} {a : Addr} {xs : List V} {g : TG} {tb : TS} {D : Ends} {σ : St} {H : Hp} (Pv : Nat → St → Hp → Prop) (h0 : Pv 0 σ H) (hl : ∀ i σ H, i ≤ xs.length → Pv i σ H → SqT K H a xs)
    (hs : ∀ i x σ H, xs[i]? = some x → Pv i σ H → g x σ H fun σ2 H2 => tb { D with nx := Pv (i + 1), ct := Pv (i + 1), bk := D.nx } σ2 H2) (hd : ∀ σ H, Pv xs.length σ H → D.nx σ H) :
    ∃ W : Nat → Nat → St → Hp → Prop, (∃ m, W 0 m σ H) ∧ ∀ i m σ H, W i m σ H →
      ((Itt K a).stop i H ∧ D.nx σ H) ∨ ((Itt K a).go i H ∧ ∃ N : St → Hp → Prop, (∀ σ' H', N σ' H' → ∃ m', m' < m ∧ W (i + 1) m' σ' H') ∧ ∀ x H', (Itt K a).yld i H x H' → g x σ H' fun σ2 H2 => tb { D with nx := N, ct := N, bk := D.nx } σ2 H2) := by
  refine ⟨fun i m σ H => m = xs.length - i ∧ i ≤ xs.length ∧ Pv i σ H, ⟨xs.length, by simp, Nat.zero_le _, h0⟩, ?_⟩
  rintro i m σ H ⟨rfl, hi, p⟩
  have q := hl i σ H hi p
  by_cases hlt : i < xs.length
  · refine .inr ⟨⟨xs, xs[i], q, by simp [hlt]⟩, Pv (i + 1), fun σ' H' p' => ⟨xs.length - (i + 1), by lia, rfl, hlt, p'⟩, fun x H' y => ?_⟩
    obtain ⟨e, y⟩ := y
    subst e
    exact hs i x σ _ (y xs q) p
  · have e : i = xs.length := by lia
    subst e
    exact .inl ⟨⟨xs, q, Nat.le_refl _⟩, hd σ H p⟩
theorem for_range {lo : Int} {n : Nat} {g : TG} {tb : TS} {D : Ends} {σ : St} {H : Hp} (Pv : Nat → St → Hp → Prop) (h0 : Pv 0 σ H)
    (hs : ∀ i σ H, i < n → Pv i σ H → g (.int (lo + i)) σ H fun σ2 H2 => tb { D with nx := Pv (i + 1), ct := Pv (i + 1), bk := D.nx } σ2 H2) (hd : ∀ σ H, Pv n σ H → D.nx σ H) :
    ∃ W : Nat → Nat → St → Hp → Prop, (∃ m, W 0 m σ H) ∧ ∀ i m σ H, W i m σ H →
      ((Itr lo n).stop i H ∧ D.nx σ H) ∨ ((Itr lo n).go i H ∧ ∃ N : St → Hp → Prop, (∀ σ' H', N σ' H' → ∃ m', m' < m ∧ W (i + 1) m' σ' H') ∧ ∀ x H', (Itr lo n).yld i H x H' → g x σ H' fun σ2 H2 => tb { D with nx := N, ct := N, bk := D.nx } σ2 H2) := by
  refine ⟨fun i m σ H => m = n - i ∧ i ≤ n ∧ Pv i σ H, ⟨n, by simp, Nat.zero_le _, h0⟩, ?_⟩
  rintro i m σ H ⟨rfl, hi, p⟩
  by_cases hlt : i < n
  · refine .inr ⟨hlt, Pv (i + 1), fun σ' H' p' => ⟨n - (i + 1), by lia, rfl, hlt, p'⟩, fun x H' y => ?_⟩
    obtain ⟨e, y⟩ := y
    subst e y
    exact hs i σ _ hlt p
  · have e : i = n := by lia
    subst e
    exact .inl ⟨Nat.le_refl _, hd σ H p⟩
end L2
namespace L2
open PySem PySem.Spec PyProof.Rows
abbrev R2 := V → V → Hp → VK → Prop
def OpR (X : Cx) (f : Value → Value → Sem Value) (r : R2) : Prop :=
  ∀ (pins : List (Addr × Obj)) (s : Shared) (σ : St) (H : Hp) (x y : V) (v u : Value) (Q : VK), Inv X pins σ H s → RelV x v → RelV y u → r x y H Q →
    wpAny (model X.prog X.w) X.A (f v u) (EP X pins σ Q) X.xe s
def UnR (X : Cx) (f : Value → Sem Value) (r : V → Hp → VK → Prop) : Prop :=
  ∀ (pins : List (Addr × Obj)) (s : Shared) (σ : St) (H : Hp) (x : V) (v : Value) (Q : VK), Inv X pins σ H s → RelV x v → r x H Q →
    wpAny (model X.prog X.w) X.A (f v) (EP X pins σ Q) X.xe s
def CallR (X : Cx) (f : Value) (r : List V → Hp → VK → Prop) : Prop :=
  ∀ (pins : List (Addr × Obj)) (s : Shared) (σ : St) (H : Hp) (xs : List V) (us : List Value) (Q : VK), Inv X pins σ H s → Vals xs us → r xs H Q →
    wpAny (model X.prog X.w) X.A (call f us) (EP X pins σ Q) X.xe s
def tOp (r : R2) (ta tb : TE) : TE := fun σ H Q => ta σ H fun x H1 => tb σ H1 fun y H2 => r x y H2 Q
def tUn (r : V → Hp → VK → Prop) (ta : TE) : TE := fun σ H Q => ta σ H fun x H1 => r x H1 Q
def rI (C : Int → Int → Prop) (g : Int → Int → V) : R2 := fun x y H Q => ∃ i j, x = .int i ∧ y = .int j ∧ C i j ∧ Q (g i j) H
def rI0 (g : Int → Int → V) : R2 := fun x y H Q => ∃ i j, x = .int i ∧ y = .int j ∧ Q (g i j) H
def rU (g : Int → V) : V → Hp → VK → Prop := fun x H Q => ∃ i, x = .int i ∧ Q (g i) H
section
variable {X : Cx} {a b c : Expr} {ta tb tc : TE} {pos : Pos}
theorem binT (ha : PE X a ta) (hb : PE X b tb) {pins : List (Addr × Obj)} {s : Shared} {σ : St} {H : Hp} {R : V → V → Hp → Prop} (I : Inv X pins σ H s)
    (h : ta σ H fun x H1 => tb σ H1 fun y H2 => R x y H2) {Q : Value → Shared → Prop} {f : Value → Value → Sem Value}
    (hf : ∀ v u s2 x y H2, Inv X pins σ H2 s2 → RelV x v → RelV y u → R x y H2 → wpAny (model X.prog X.w) X.A (f v u) Q X.xe s2) :
    wpAny (model X.prog X.w) X.A (eval a X.env) (fun v s₁ => wpAny (model X.prog X.w) X.A (eval b X.env) (fun u s₂ => wpAny (model X.prog X.w) X.A (f v u) Q X.xe s₂) X.xe s₁) X.xe s := by
  refine thn (ha pins s σ H _ I h) fun v s1 ⟨x, H1, I1, r1, q1⟩ => ?_
  refine thn (hb pins s1 σ H1 _ I1 q1) fun u s2 ⟨y, H2, I2, r2, q2⟩ => ?_
  exact hf v u s2 x y H2 I2 r1 r2 q2
theorem pe_op {op : Operator} {r : R2} (ho : OpR X (binaryOp op) r) (ha : PE X a ta) (hb : PE X b tb) : PE X (.BinOp a op b pos) (tOp r ta tb) := by
  intro pins s σ H Q I h
  exact wpAny_BinOp (binT ha hb I h fun v u s2 x y H2 I2 rx ry q => ho pins s2 σ H2 x y v u Q I2 rx ry q)
theorem pe_un {op : UnaryOp} {r : V → Hp → VK → Prop} (ho : UnR X (unaryOp op) r) (ha : PE X a ta) : PE X (.UnaryOp op a pos) (tUn r ta) := by
  intro pins s σ H Q I h
  exact UnaryOp_ (thn (ha pins s σ H _ I h) fun v s1 ⟨x, H1, I1, r1, q1⟩ => ho pins s1 σ H1 x v Q I1 r1 q1)
theorem opI {f : Value → Value → Sem Value} {C : Int → Int → Prop} {g : Int → Int → Int}
    (rule : ∀ (i j : Int) (t u : Tok) (s : Shared) (Q : Value → Shared → Prop) (E : Value → Shared → Prop), C i j → Q (.int (g i j) s.toks) { s with toks := s.toks + 1 } → wpAny (model X.prog X.w) X.A (f (.int i t) (.int j u)) Q E s) :
    OpR X f (rI C fun i j => .int (g i j)) := by
  intro pins s σ H x y v u Q I rx ry h
  obtain ⟨i, j, rfl, rfl, hc, q⟩ := h
  obtain ⟨t, rfl⟩ := rx
  obtain ⟨t', rfl⟩ := ry
  exact rule i j t t' s _ _ hc ⟨.int (g i j), H, I.tok _, ⟨_, rfl⟩, q⟩
theorem opI0 {f : Value → Value → Sem Value} {g : Int → Int → Int}
    (rule : ∀ (i j : Int) (t u : Tok) (s : Shared) (Q : Value → Shared → Prop) (E : Value → Shared → Prop), Q (.int (g i j) s.toks) { s with toks := s.toks + 1 } → wpAny (model X.prog X.w) X.A (f (.int i t) (.int j u)) Q E s) :
    OpR X f (rI0 fun i j => .int (g i j)) := by
  intro pins s σ H x y v u Q I rx ry h
  obtain ⟨i, j, rfl, rfl, q⟩ := h
  obtain ⟨t, rfl⟩ := rx
  obtain ⟨t', rfl⟩ := ry
  exact rule i j t t' s _ _ ⟨.int (g i j), H, I.tok _, ⟨_, rfl⟩, q⟩
theorem opB0 {f : Value → Value → Sem Value} {g : Int → Int → Bool}
    (rule : ∀ (i j : Int) (t u : Tok) (s : Shared) (Q : Value → Shared → Prop) (E : Value → Shared → Prop), Q (.bool (g i j)) s → wpAny (model X.prog X.w) X.A (f (.int i t) (.int j u)) Q E s) :
    OpR X f (rI0 fun i j => .bl (g i j)) := by
  intro pins s σ H x y v u Q I rx ry h
  obtain ⟨i, j, rfl, rfl, q⟩ := h
  obtain ⟨t, rfl⟩ := rx
  obtain ⟨t', rfl⟩ := ry
  exact rule i j t t' s _ _ ⟨.bl (g i j), H, I, rfl, q⟩
def CDiv (i j : Int) : Prop := 0 < j ∧ j < 1073741824
def CMul (i j : Int) : Prop := (-(2 ^ 64) < i ∧ i < 2 ^ 64) ∨ (-(2 ^ 64) < j ∧ j < 2 ^ 64)
theorem CMul.ok {i j : Int} (h : CMul i j) : IntMulOk i j := by
  rcases h with ⟨h1, h2⟩ | ⟨h1, h2⟩
  · exact .of_left (intBits_le_64 h1 h2)
  · exact .of_right (intBits_le_64 h1 h2)
theorem op_add : OpR X (binaryOp .Add) (rI0 fun i j => .int (i + j)) := opI0 fun _ _ _ _ _ _ _ q => add_int q
theorem op_sub : OpR X (binaryOp .Sub) (rI0 fun i j => .int (i - j)) := opI0 fun _ _ _ _ _ _ _ q => sub_int q
theorem op_mul : OpR X (binaryOp .Mult) (rI CMul fun i j => .int (i * j)) := opI fun _ _ _ _ _ _ _ hc q => mul_int q hc.ok
theorem op_fdiv : OpR X (binaryOp .FloorDiv) (rI CDiv fun i j => .int (i / j)) := opI fun i j _ _ _ _ _ hc q => by
  have h1 : (0 : Int) < j := hc.1
  have h2 : j < 1073741824 := hc.2
  exact floordiv_int (by lia) (by rw [Int.fdiv_eq_ediv_of_nonneg i (by lia)]; exact q) (.inl (PyProof.noPylong_small (by lia)))
theorem op_mod : OpR X (binaryOp .Mod) (rI (fun _ j => 0 < j) fun i j => .int (i % j)) := opI fun i j _ _ _ _ _ hc q => by
  have h1 : (0 : Int) < j := hc
  exact mod_int' (by lia) (by rw [Int.fmod_eq_emod_of_nonneg i (by lia)]; exact q)
theorem unI {f : Value → Sem Value} {g : Int → Int}
    (rule : ∀ (i : Int) (t : Tok) (s : Shared) (Q : Value → Shared → Prop) (E : Value → Shared → Prop), Q (.int (g i) s.toks) { s with toks := s.toks + 1 } → wpAny (model X.prog X.w) X.A (f (.int i t)) Q E s) :
    UnR X f (rU fun i => .int (g i)) := by
  intro pins s σ H x v Q I rx h
  obtain ⟨i, rfl, q⟩ := h
  obtain ⟨t, rfl⟩ := rx
  exact rule i t s _ _ ⟨.int (g i), H, I.tok _, ⟨_, rfl⟩, q⟩
theorem un_neg : UnR X (unaryOp .USub) (rU fun i => .int (-i)) := unI fun _ _ _ _ _ q => neg_int q
end
def scal : V → V → Bool
  | .non, .non => true | .non, .int _ => true | .int _, .non => true | .non, .bl _ => true | .bl _, .non => true | .non, .str _ => true | .str _, .non => true
  | .int _, .int _ => true | .bl _, .bl _ => true | .str _, .str _ => true | .byt _, .byt _ => true
  | .int _, .str _ => true | .str _, .int _ => true | .bl _, .str _ => true | .str _, .bl _ => true
  | _, _ => false
def rEq : R2 := fun x y H Q => scal x y = true ∧ Q (.bl (decide (x = y))) H
def rNe : R2 := fun x y H Q => scal x y = true ∧ Q (.bl (!decide (x = y))) H
theorem dec_int {i j : Int} : decide (V.int i = V.int j) = (i == j) := by
  rw [Bool.eq_iff_iff]
  simp
theorem dec_bl {i j : Bool} : decide (V.bl i = V.bl j) = (i == j) := by
  rw [Bool.eq_iff_iff]
  simp
theorem dec_str {i j : Str} : decide (V.str i = V.str j) = (i == j) := by
  rw [Bool.eq_iff_iff]
  simp
theorem dec_byt {i j : Array UInt8} : decide (V.byt i = V.byt j) = (i.toList == j.toList) := by
  rw [Bool.eq_iff_iff]
  cases i
  cases j
  simp
section
variable {X : Cx} {a b c : Expr} {ta tb tc : TE} {pos : Pos}
theorem fin_bl {pins : List (Addr × Obj)} {σ : St} {H : Hp} {s : Shared} {Q : VK} {k k' : Bool} (I : Inv X pins σ H s) (q : Q (.bl k) H) (e : k = k') : EP X pins σ Q (.bool k') s := by
  subst e
  exact ⟨.bl k, H, I, rfl, q⟩
theorem op_eq : OpR X (compareOp .Eq) rEq := by
  intro pins s σ H x y v u Q I rx ry h
  obtain ⟨hs, q⟩ := h
  cases x with
  | non =>
    cases rx
    cases y with
    | non => cases ry; exact PySem.EqNone.eq_none_none (fin_bl I q (by simp))
    | bl j => cases ry; exact PySem.EqNone.eq_none_bool (fin_bl I q (by simp))
    | int j => obtain ⟨t', rfl⟩ := ry; exact PySem.EqNone.eq_none_int (fin_bl I q (by simp))
    | str j => obtain ⟨t', rfl⟩ := ry; exact PySem.EqNone.eq_none_str (fin_bl I q (by simp))
    | _ => exact absurd (show false = true from hs) Bool.false_ne_true
  | bl i =>
    cases rx
    cases y with
    | non => cases ry; exact PySem.EqNone.eq_bool_none (fin_bl I q (by simp))
    | bl j => cases ry; exact eq_bool (fin_bl I q dec_bl)
    | str j => obtain ⟨t', rfl⟩ := ry; exact PySem.EqMixed.eq_bool_str (fin_bl I q (by simp))
    | _ => exact absurd (show false = true from hs) Bool.false_ne_true
  | int i =>
    obtain ⟨t, rfl⟩ := rx
    cases y with
    | non => cases ry; exact PySem.EqNone.eq_int_none (fin_bl I q (by simp))
    | int j => obtain ⟨t', rfl⟩ := ry; exact eq_int (fin_bl I q dec_int)
    | str j => obtain ⟨t', rfl⟩ := ry; exact PySem.EqMixed.eq_int_str (fin_bl I q (by simp))
    | _ => exact absurd (show false = true from hs) Bool.false_ne_true
  | str i =>
    obtain ⟨t, rfl⟩ := rx
    cases y with
    | non => cases ry; exact PySem.EqNone.eq_str_none (fin_bl I q (by simp))
    | bl j => cases ry; exact PySem.EqMixed.eq_str_bool (fin_bl I q (by simp))
    | int j => obtain ⟨t', rfl⟩ := ry; exact PySem.EqMixed.eq_str_int (fin_bl I q (by simp))
    | str j => obtain ⟨t', rfl⟩ := ry; exact eq_str (fin_bl I q dec_str)
    | _ => exact absurd (show false = true from hs) Bool.false_ne_true
  | byt i =>
    obtain ⟨t, rfl⟩ := rx
    cases y with
    | byt j => obtain ⟨t', rfl⟩ := ry; exact PySem.W.eq_bytes (fin_bl I q dec_byt)
    | _ => exact absurd (show false = true from hs) Bool.false_ne_true
  | _ => cases y <;> exact absurd (show false = true from hs) Bool.false_ne_true
theorem op_ne : OpR X (compareOp .NotEq) rNe := by
  intro pins s σ H x y v u Q I rx ry h
  obtain ⟨hs, q⟩ := h
  cases x with
  | non =>
    cases rx
    cases y with
    | non => cases ry; exact PySem.EqNone.ne_none_none (fin_bl I q (by simp))
    | bl j => cases ry; exact PySem.EqNone.ne_none_bool (fin_bl I q (by simp))
    | int j => obtain ⟨t', rfl⟩ := ry; exact PySem.EqNone.ne_none_int (fin_bl I q (by simp))
    | str j => obtain ⟨t', rfl⟩ := ry; exact PySem.EqNone.ne_none_str (fin_bl I q (by simp))
    | _ => exact absurd (show false = true from hs) Bool.false_ne_true
  | bl i =>
    cases rx
    cases y with
    | non => cases ry; exact PySem.EqNone.ne_bool_none (fin_bl I q (by simp))
    | bl j => cases ry; exact ne_bool (fin_bl I q (congrArg not dec_bl))
    | str j => obtain ⟨t', rfl⟩ := ry; exact PySem.EqMixed.ne_bool_str (fin_bl I q (by simp))
    | _ => exact absurd (show false = true from hs) Bool.false_ne_true
  | int i =>
    obtain ⟨t, rfl⟩ := rx
    cases y with
    | non => cases ry; exact PySem.EqNone.ne_int_none (fin_bl I q (by simp))
    | int j => obtain ⟨t', rfl⟩ := ry; exact ne_int (fin_bl I q (congrArg not dec_int))
    | str j => obtain ⟨t', rfl⟩ := ry; exact PySem.EqMixed.ne_int_str (fin_bl I q (by simp))
    | _ => exact absurd (show false = true from hs) Bool.false_ne_true
  | str i =>
    obtain ⟨t, rfl⟩ := rx
    cases y with
    | non => cases ry; exact PySem.EqNone.ne_str_none (fin_bl I q (by simp))
    | bl j => cases ry; exact PySem.EqMixed.ne_str_bool (fin_bl I q (by simp))
    | int j => obtain ⟨t', rfl⟩ := ry; exact PySem.EqMixed.ne_str_int (fin_bl I q (by simp))
    | str j => obtain ⟨t', rfl⟩ := ry; exact ne_str (fin_bl I q (congrArg not dec_str))
    | _ => exact absurd (show false = true from hs) Bool.false_ne_true
  | byt i =>
    obtain ⟨t, rfl⟩ := rx
    cases y with
    | byt j => obtain ⟨t', rfl⟩ := ry; exact PySem.W.ne_bytes (fin_bl I q (congrArg not dec_byt))
    | _ => exact absurd (show false = true from hs) Bool.false_ne_true
  | _ => cases y <;> exact absurd (show false = true from hs) Bool.false_ne_true
theorem op_lt : OpR X (compareOp .Lt) (rI0 fun i j => .bl (decide (i < j))) := opB0 fun _ _ _ _ _ _ _ q => lt_int q
theorem op_gt : OpR X (compareOp .Gt) (rI0 fun i j => .bl (decide (j < i))) := opB0 fun _ _ _ _ _ _ _ q => gt_int q
theorem op_notN : OpR X (compareOp .IsNot) (fun x y H Q => y = .non ∧ Q (.bl (!decide (x = .non))) H) := by
  intro pins s σ H x y v u Q I rx ry h
  obtain ⟨rfl, q⟩ := h
  cases ry
  refine isnot_none_gen (fin_bl I q ?_)
  cases x <;> first
    | (cases rx; rfl)
    | (obtain ⟨t, rfl⟩ := rx; rfl)
theorem OpR.or {f : Value → Value → Sem Value} {r r' : R2} (h : OpR X f r) (h' : OpR X f r') : OpR X f (fun x y H Q => r x y H Q ∨ r' x y H Q) := by
  intro pins s σ H x y v u Q I rx ry q
  rcases q with q | q
  · exact h pins s σ H x y v u Q I rx ry q
  · exact h' pins s σ H x y v u Q I rx ry q
theorem pe_cmpR {op : CmpOp} {r : R2} (ho : OpR X (compareOp op) r) (ha : PE X a ta) (hb : PE X b tb) (hm : behindInMarks op b = false) : PE X (.Compare a [op] [b] pos) (tOp r ta tb) := by
  intro pins s σ H Q I h
  exact wpAny_Compare1 (binT ha hb I h fun v u s2 x y H2 I2 rx ry q => ho pins s2 σ H2 x y v u Q I2 rx ry q) hm
def tTest (t : TE) : TT := fun σ H Q => t σ H fun x H' => ∃ k, x = .bl k ∧ Q k H'
theorem pt_cmpR {op : CmpOp} {r : R2} (ho : OpR X (compareOp op) r) (ha : PE X a ta) (hb : PE X b tb) (hm : behindInMarks op b = false) : PT X (.Compare a [op] [b] pos) (tTest (tOp r ta tb)) := by
  intro pins s σ H Q I h
  refine wpAny_isTrue_Compare1 (thn (ha pins s σ H _ I h) fun v s1 ⟨x, H1, I1, r1, q1⟩ => thn (hb pins s1 σ H1 _ I1 q1) fun u s2 ⟨y, H2, I2, r2, q2⟩ =>
    thn (ho pins s2 σ H2 x y v u _ I2 r1 r2 q2) fun c s3 ⟨z, H3, I3, r3, k, e, q3⟩ => ?_) hm
  subst e
  cases r3
  exact wpAny_truthy_bool ⟨H3, I3, q3⟩
theorem line63 : (sizeLine : Nat) < 2 ^ 63 := by rw [sizeLine_eq]; decide
theorem op_add_str : OpR X (binaryOp .Add) (fun x y H Q => ∃ i j, x = .str i ∧ y = .str j ∧ i.length + j.length ≤ sizeLine ∧ Q (.str (i ++ j)) H) := by
  intro pins s σ H x y v u Q I rx ry h
  obtain ⟨i, j, rfl, rfl, hz, q⟩ := h
  obtain ⟨t, rfl⟩ := rx
  obtain ⟨t', rfl⟩ := ry
  exact add_str (fun t' tk => ⟨.str (i ++ j), H, I.tok _, ⟨_, rfl⟩, q⟩) hz
theorem vals1 {x : V} {us : List Value} (r : Vals [x] us) : ∃ u, us = [u] ∧ RelV x u := by
  cases r with
  | cons r1 r2 => cases r2; exact ⟨_, rfl, r1⟩
theorem vals2 {x y : V} {us : List Value} (r : Vals [x, y] us) : ∃ u w', us = [u, w'] ∧ RelV x u ∧ RelV y w' := by
  cases r with
  | cons r1 r2 =>
    cases r2 with
    | cons r3 r4 => cases r4; exact ⟨_, _, rfl, r1, r3⟩
theorem call_min2 (hc : X.calm = true) : CallR X (.builtin "min") (fun xs H Q => ∃ i j, xs = [.int i, .int j] ∧ Q (.int (if j < i then j else i)) H) := by
  intro pins s σ H xs us Q I r h
  obtain ⟨i, j, rfl, q⟩ := h
  obtain ⟨u, w', rfl, ⟨t, rfl⟩, ⟨t', rfl⟩⟩ := vals2 r
  refine min_two_ints (I.ok.hd hc) fun h' tk k => ⟨_, H, I.kept k, ?_, q⟩
  by_cases hj : j < i
  · rw [if_pos hj, if_pos hj]; exact ⟨_, rfl⟩
  · rw [if_neg hj, if_neg hj]; exact ⟨_, rfl⟩
theorem call_int1 : CallR X (.type "int") (fun xs H Q => (∃ i, xs = [.int i] ∧ Q (.int i) H) ∨ ∃ k, xs = [.bl k] ∧ Q (.int (if k then 1 else 0)) H) := by
  intro pins s σ H xs us Q I r h
  rcases h with ⟨i, rfl, q⟩ | ⟨k, rfl, q⟩
  · obtain ⟨u, rfl, t, rfl⟩ := vals1 r
    exact call_int_int ⟨.int i, H, I, ⟨_, rfl⟩, q⟩
  · obtain ⟨u, rfl, r1⟩ := vals1 r
    cases r1
    exact call_int_bool ⟨.int (if k then 1 else 0), H, I.tok _, ⟨_, rfl⟩, q⟩
def LenV (K : PySem.W.Frag) (x : V) (H : Hp) (n : Nat) : Prop :=
  match x with
  | .str y => y.length ≤ sizeLine ∧ n = y.length
  | .byt y => y.size ≤ sizeLine ∧ n = y.size
  | .ref p => (∃ xs, SqL K H p xs ∧ n = xs.length) ∨ ∃ xs, SqT K H p xs ∧ n = xs.length
  | _ => False
theorem call_len : CallR X (.builtin "len") (fun xs H Q => ∃ x n, xs = [x] ∧ LenV X.K x H n ∧ Q (.int n) H) := by
  intro pins s σ H xs us Q I r h
  obtain ⟨x, n, rfl, e, q⟩ := h
  obtain ⟨u, rfl, rx⟩ := vals1 r
  have hl := line63
  have hs : sizeLine = 16777216 := sizeLine_eq
  cases x with
  | str y =>
    obtain ⟨t, rfl⟩ := rx
    obtain ⟨hy, e'⟩ : y.length ≤ sizeLine ∧ n = y.length := e
    subst e'
    exact len_str (by lia) ⟨.int _, H, I.tok _, ⟨_, rfl⟩, q⟩
  | byt y =>
    obtain ⟨t, rfl⟩ := rx
    obtain ⟨hy, e'⟩ : y.size ≤ sizeLine ∧ n = y.size := e
    subst e'
    exact PySem.W.len_bytes (by lia) ⟨.int _, H, I.tok _, ⟨_, rfl⟩, q⟩
  | ref p =>
    cases rx
    have e' : (∃ xs, SqL X.K H p xs ∧ n = xs.length) ∨ ∃ xs, SqT X.K H p xs ∧ n = xs.length := e
    rcases e' with ⟨xs, hx, e'⟩ | ⟨xs, hx, e'⟩
    · subst e'
      obtain ⟨its, r', pl, hz⟩ := I.list hx
      have hlen := r'.length
      exact Calls.call_len_list pl.isList (by simp only [List.size_toArray]; lia) ⟨.int xs.length, H, I.tok _, ⟨_, by simp only [List.size_toArray]; rw [hlen]⟩, q⟩
    · subst e'
      obtain ⟨its, r', pl, hz⟩ := I.tuple hx
      have hlen := r'.length
      exact len_tuple pl (by simp only [List.size_toArray]; lia) ⟨.int xs.length, H, I.tok _, ⟨_, by simp only [List.size_toArray]; rw [hlen]⟩, q⟩
  | _ => exact (show False from e).elim
end
end L2
namespace L2
open PySem PySem.Spec PyProof.Rows
section
variable {prog : Program} {w : World} {A : Around} {E : Value → Shared → Prop} {s : Shared} {K : PySem.W.Frag} {x dx C f : Addr} {mA : Str → Option Value} {name : Str} {v : Value}
end
theorem RelO.some_of {v : V} {o : Option Value} (r : RelO (some v) o) : ∃ u, o = some u ∧ RelV v u := by
  cases o with
  | none => exact (show False from r).elim
  | some u => exact ⟨u, rfl, r⟩
section
variable {P : Program} {w : World} {H H' : Hp} {h h' : Heap} {a C dx : Addr} {fs fs' : List (Str × V)}
end
section
variable {X : Cx} {pins : List (Addr × Obj)} {σ : St} {H : Hp} {s : Shared} {a C dx : Addr} {fs : List (Str × V)} {f : Str} {v : V} {A : Around} {E : Value → Shared → Prop}
end
section
variable {X : Cx} {o e value : Expr} {f : Str} {pos pos' tpos : Pos} {ta tv : TE}
end
section
variable {X : Cx} {pins : List (Addr × Obj)} {σ : St} {H : Hp} {s : Shared} {A : Around} {E : Value → Shared → Prop} {Q : Value → Shared → Prop} {c : Value} {b : Bool}
end
end L2
namespace L2
open PySem PySem.Spec PyProof.Rows
structure Room (k : Nat) (A : Around) : Prop where
  hd : A.handled = none
  dp : A.depth + 3 * k + 5 < recursionLimit
  un : A.units + 16 * k + 200 < cLine
theorem Room.mono {j k : Nat} {A : Around} (r : Room k A) (h : j ≤ k) : Room j A := ⟨r.hd, by have := r.dp; lia, by have := r.un; lia⟩
theorem Room.deeper {k : Nat} {A : Around} (r : Room (k + 1) A) (env : Env) : Room k (A.deeper env) :=
  ⟨r.hd, by have := r.dp; show A.depth + 1 + 3 * k + 5 < _; lia, by have := r.un; show A.units + 3 + 16 * k + 200 < _; lia⟩
theorem Room.depth {k : Nat} {A : Around} (r : Room k A) : A.depth < recursionLimit := by have := r.dp; lia
theorem Room.units {k : Nat} {A : Around} (r : Room k A) : A.units + 64 < cLine := by have := r.un; lia
theorem Room.units0 {k : Nat} {A : Around} (r : Room k A) : A.units < cLine := by have := r.un; lia
def tNil : TA := fun _ H Q => Q [] H
def tCons (ta : TE) (tr : TA) : TA := fun σ H Q => ta σ H fun x H1 => tr σ H1 fun xs H2 => Q (x :: xs) H2
section
variable {X : Cx} {e : Expr} {es : List Expr} {te : TE} {t : TA} {pos : Pos}
theorem pa_nil : PA X [] tNil := fun _ _ _ _ H Q I h => Calls.spliced_nil ⟨[], H, I, .nil, h⟩
theorem pa_cons (ha : PE X e te) (hr : PA X es t) (hs : starEach (e :: es) X.env = (false, eval e X.env) :: starEach es X.env := by rfl) : PA X (e :: es) (tCons te t) := by
  intro pos pins s σ H Q I h
  rw [hs]
  show wpAny _ _ (spliced ((false, eval e X.env) :: backTo pos (starEach es X.env))) _ _ s
  refine Calls.spliced_cons (thn (ha pins s σ H _ I h) fun u s1 ⟨x, H1, I1, r1, q1⟩ => ?_)
  exact thn (hr pos pins s1 σ H1 _ I1 q1) fun us s2 ⟨xs, H2, I2, r2, q2⟩ => ⟨x :: xs, H2, I2, .cons r1 r2, q2⟩
def tTup (t : TA) : TE := fun σ H Q => t σ H fun xs H1 => xs.length ≤ sizeLine ∧ ∀ p, H1 p = none → Q (.ref p) (upd H1 p (.tup xs))
def tLst (t : TA) : TE := fun σ H Q => t σ H fun xs H1 => xs.length ≤ sizeLine ∧ ∀ p, H1 p = none → Q (.ref p) (upd H1 p (.lst xs))
theorem pe_tup {x1} (h : PA X es t) : PE X (.Tuple es x1 pos) (tTup t) := by
  intro pins s σ H Q I hq
  refine wpAny_Tuple_spliced (thn (h pos pins s σ H _ I hq) fun us s1 ⟨xs, H1, I1, r, z, q⟩ => ⟨by rw [← r.length]; exact z, ?_⟩)
  have hf : H1 s1.heap.objs.size = none := I1.hok.fresh (Nat.le_refl _)
  refine ⟨.ref s1.heap.objs.size, upd H1 s1.heap.objs.size (.tup xs), I1.laid (t' := s1.toks) (fun b u e => Heap.get?_push_of_some _ e) (Nat.le_refl _) ?_, rfl, q _ hf⟩
  exact ⟨z, us, r, ⟨_, Heap.get?_push_size _ rfl, ⟨rfl, rfl⟩, _, rfl⟩⟩
theorem pe_lst (h : PA X es t) : PE X (.List es pos) (tLst t) := by
  intro pins s σ H Q I hq
  refine wpAny_List_spliced (thn (h pos pins s σ H _ I hq) fun us s1 ⟨xs, H1, I1, r, z, q⟩ => ⟨by rw [← r.length]; exact z, ?_⟩)
  have hf : H1 s1.heap.objs.size = none := I1.hok.fresh (Nat.le_refl _)
  refine ⟨.ref s1.heap.objs.size, upd H1 s1.heap.objs.size (.lst xs), I1.laid (t' := s1.toks) (fun b u e => Heap.get?_push_of_some _ e) (Nat.le_refl _) ?_, rfl, q _ hf⟩
  exact ⟨z, us, 0, r, Heap.get?_push_size _ rfl⟩
end
abbrev Sp := List V → Hp → VK → XK → Prop
abbrev CXT := List Env → Hp → Shared → XK → Value → Shared → Prop
structure Env0 (P : Program) (w : World) (K : PySem.W.Frag) (mg : Str → Option Value) (base : Heap) (A : Around) (outer : List Env) (s : Shared) (H : Hp) : Prop where
  frames : A.frames = some outer
  mod : Mod K mg base
  bs : ∀ b o, base.get? b = some o → s.heap.get? b = some o ∧ H b = none
  bsz : base.objs.size ≤ s.heap.objs.size
  funs : s.heap.FunFrames base outer
  frf : ∀ b ∈ frs outer, H b = none
  hok : HOk P w H s.heap
  bare : AllBare s.gens
def CE (outer : List Env) (P : Program) (w : World) (H : Hp) (s : Shared) (Q : VK) (u : Value) (s' : Shared) : Prop :=
  ∃ v H', s'.os = s.os ∧ AllBare s'.gens ∧ Un (frs outer) [] H H' s.heap s'.heap ∧ HOk P w H' s'.heap ∧ RelV v u ∧ Q v H'
def CR (CX : CXT) (outer : List Env) (P : Program) (w : World) (H : Hp) (s : Shared) (Q : VK) (E : XK) (r : Result) (s' : Shared) : Prop :=
  match r with
  | .ok (.ret u) => CE outer P w H s Q u s'
  | .ok _ => False
  | .error e => CX outer H s E e s'
structure FnOk (P : Program) (w : World) (K : PySem.W.Frag) (mg : Str → Option Value) (base : Heap) (CX : CXT) (k : Nat) (f : Addr) (fd : FuncData) (ps : List Str) (sp : Sp) : Prop where
  len : ∀ vs H Q E, sp vs H Q E → vs.length = ps.length
  run : ∀ (A : Around) (outer : List Env) (s : Shared) (H : Hp) (args : Args) (us : List Value) (vs : List V) (Q : VK) (E : XK), Room k A → Env0 P w K mg base A outer s H → BindsTo s fd args (ps.zip us) → Vals vs us → sp vs H Q E →
    codeAny (model P w) A (.call (.ref f) args) (CR CX outer P w H s Q E) s
section
variable {X : Cx} {pins : List (Addr × Obj)} {σ : St} {H : Hp} {s s' : Shared}
theorem Inv.env0 (I : Inv X pins σ H s) : Env0 X.prog X.w X.K X.mg X.base X.A X.stack s H :=
  ⟨I.ok.frames, I.ok.mod, I.bs, Nat.le_trans I.ok.bsz I.sz, I.stack, I.stkFree, I.hok, I.bare⟩
theorem Inv.after {Q : VK} {u : Value} (I : Inv X pins σ H s) (h : CE X.stack X.prog X.w H s Q u s') : EP X pins σ Q u s' := by
  obtain ⟨v, H', os, bare, un, hok, r, q⟩ := h
  obtain ⟨hh, g, d, t, os'⟩ := s'
  obtain rfl : os' = s.os := os
  exact ⟨v, H', I.call (h' := hh) (g' := g) (d' := d) (t' := t) (ch := []) un hok bare (fun b z => absurd z (by simp)), r, q⟩
end
def tCall (sp : Sp) (dvs : List V) (E : XK) (t : TA) : TE := fun σ H Q => t σ H fun vs H1 => sp (vs ++ dvs) H1 Q E
def Binds (K : PySem.W.Frag) (fd : FuncData) (ps : List Str) (ds : List Value) : Prop :=
  ∀ (s : Shared) (us : List Value), K.In s.heap → (us ++ ds).length = ps.length → BindsTo s fd ⟨us, []⟩ (ps.zip (us ++ ds))
theorem Binds.all {K : PySem.W.Frag} {fd : FuncData} {ps : List Str} (h : ∀ us : List Value, us.length = ps.length → bindArgs fd ⟨us, []⟩ = pure (ps.zip us)) : Binds K fd ps [] := fun s us _ hl => by
  rw [List.append_nil] at hl ⊢
  exact .of_eq (h us hl)
def Passes (CX : CXT) (X : Cx) (E : XK) : Prop := ∀ (pins : List (Addr × Obj)) (σ : St) (H : Hp) (s : Shared) (e : Value) (s' : Shared), Inv X pins σ H s → CX X.stack H s E e s' → X.xe e s'
section
variable {X : Cx} {CX : CXT} {k : Nat} {f C : Addr} {fd : FuncData} {ps : List Str} {sp : Sp} {dvs : List V} {ds : List Value} {E : XK} {x m : Str} {p pos apos : Pos} {e o : Expr} {es : List Expr} {ta : TE} {t : TA}
theorem run_fn {pins : List (Addr × Obj)} {σ : St} {H : Hp} {s : Shared} {Q : VK} {us : List Value} {vs : List V} (F : FnOk X.prog X.w X.K X.mg X.base CX k f fd ps sp) (hr : Room k X.A) (hb : Binds X.K fd ps ds) (hd : Vals dvs ds) (hx : Passes CX X E)
    (I : Inv X pins σ H s) (r : Vals vs us) (h : sp (vs ++ dvs) H Q E) : wpAny (model X.prog X.w) X.A (call (.ref f) us) (EP X pins σ Q) X.xe s := by
  have r2 : Vals (vs ++ dvs) (us ++ ds) := r.append hd
  have hl : (us ++ ds).length = ps.length := by rw [← r2.length]; exact F.len _ _ _ _ h
  refine wpAny_call (codeAny_mono (F.run X.A X.stack s H ⟨us, []⟩ (us ++ ds) (vs ++ dvs) Q E hr I.env0 (hb s us I.kIn hl) r2 h) fun r s' hq => ?_)
  cases r with
  | error e => exact hx pins σ H s e s' I hq
  | ok fl =>
    cases fl with
    | ret u => exact I.after hq
    | next => exact False.elim hq
    | brk => exact False.elim hq
    | cont => exact False.elim hq
theorem pe_call (F : FnOk X.prog X.w X.K X.mg X.base CX k f fd ps sp) (hr : Room k X.A) (hg : Gl X x) (hm : X.mg x = some (.ref f)) (hk : PySem.W.keepIn X.K (.ref f) = true) (hb : Binds X.K fd ps ds) (hd : Vals dvs ds) (hx : Passes CX X E)
    (ha : PA X (e :: es) t) (hdb : (x == ("__debug__" : Str)) = false := by decide) (he : starEach (e :: es) X.env = (false, eval e X.env) :: starEach es X.env := by rfl) (hpl : (backTo pos (starEach es X.env)).any (·.1) = false := by rfl) :
    PE X (.Call (.Name x p) (e :: es) [] pos) (tCall sp dvs E t) := by
  intro pins s σ H Q I h
  refine wpAny_Call_Name_kw (ld_glob I hg hm ?_ hdb)
  refine PySem.W.callWith_K (h₀ := X.base) I.ok.mod.kin hk (thn (ha pos pins s σ H _ I h) fun us s1 ⟨vs, H1, I1, r, q⟩ => ⟨I1.kIn, ?_⟩) he hpl
  exact run_fn F hr hb hd hx I1 r q
end
section
variable {X : Cx} {CX : CXT} {k : Nat} {f C : Addr} {fd : FuncData} {ps ks : List Str} {sp : Sp} {E : XK} {x m : Str} {p pos apos kpos : Pos} {e o : Expr} {es : List Expr} {kws : List Keyword} {te ta : TE} {t tk : TA} {nm : Option Str}
variable {g : List Value → List Value → List Value} {gV : List V → List V → List V}
end
structure FnScope (N P : List Str) (sc : Scope) : Prop where
  kind : sc.kind = .function
  co : sc.isCoroutine = false
  gen : sc.isGenerator = false
  nd : N.Nodup
  pre : N.take P.length = P
  par : ∀ x ∈ P, sc.names.lookup x = some .local ∨ sc.names.lookup x = some .cell
  nofree : ∀ y ∈ sc.names, y.2 ≠ .free
theorem bindL_out {kindOf : Str → Option NameKind} {x : Str} : ∀ {binds : List (Str × Value)} {m : Str → Option Value}, (∀ v, (x, v) ∉ binds) → bindL kindOf binds m x = m x
  | [], _, _ => rfl
  | (n, v) :: r, m, h => by
    unfold bindL
    rw [bindL_out fun w hw => h w (List.mem_cons_of_mem _ hw)]
    split
    · have : x ≠ n := by rintro rfl; exact h v List.mem_cons_self
      simp [this]
    · rfl
theorem bindC_out {kindOf : Str → Option NameKind} {x : Str} : ∀ {binds : List (Str × Value)} {m : Str → Option Value}, (∀ v, (x, v) ∉ binds) → bindC kindOf binds m x = m x
  | [], _, _ => rfl
  | (n, v) :: r, m, h => by
    unfold bindC
    rw [bindC_out fun w hw => h w (List.mem_cons_of_mem _ hw)]
    split
    · rfl
    · have : x ≠ n := by rintro rfl; exact h v List.mem_cons_self
      simp [this]
theorem bindL_get {kindOf : Str → Option NameKind} {x : Str} {v : Value} : ∀ {P : List Str} {vs : List Value} {i : Nat} {m : Str → Option Value}, P.Nodup → P[i]? = some x → vs[i]? = some v → kindOf x = some .local →
    bindL kindOf (P.zip vs) m x = some v
  | [], _, _, _, _, h, _, _ => by simp at h
  | _ :: _, [], _, _, _, _, h, _ => by simp at h
  | p :: P, w :: vs, 0, m, nd, h1, h2, hk => by
    simp at h1 h2; subst h1; subst h2
    show bindL kindOf ((p, w) :: P.zip vs) m p = _
    unfold bindL
    rw [bindL_out fun v hv => (List.nodup_cons.mp nd).1 (List.of_mem_zip hv).1, if_pos hk]
    simp
  | p :: P, w :: vs, i + 1, m, nd, h1, h2, hk => by
    show bindL kindOf ((p, w) :: P.zip vs) m x = _
    unfold bindL
    exact bindL_get (i := i) (List.nodup_cons.mp nd).2 (by simpa using h1) (by simpa using h2) hk
theorem bindC_get {kindOf : Str → Option NameKind} {x : Str} {v : Value} : ∀ {P : List Str} {vs : List Value} {i : Nat} {m : Str → Option Value}, P.Nodup → P[i]? = some x → vs[i]? = some v → kindOf x ≠ some .local →
    bindC kindOf (P.zip vs) m x = some v
  | [], _, _, _, _, h, _, _ => by simp at h
  | _ :: _, [], _, _, _, _, h, _ => by simp at h
  | p :: P, w :: vs, 0, m, nd, h1, h2, hk => by
    simp at h1 h2; subst h1; subst h2
    show bindC kindOf ((p, w) :: P.zip vs) m p = _
    unfold bindC
    rw [bindC_out fun v hv => (List.nodup_cons.mp nd).1 (List.of_mem_zip hv).1, if_neg hk]
    simp
  | p :: P, w :: vs, i + 1, m, nd, h1, h2, hk => by
    show bindC kindOf ((p, w) :: P.zip vs) m x = _
    unfold bindC
    exact bindC_get (i := i) (List.nodup_cons.mp nd).2 (by simpa using h1) (by simpa using h2) hk
def start (N : List Str) (vs : List V) : St := vs.map some ++ List.replicate (N.length - vs.length) none
def cxOf (CX : CXT) (P : Program) (w : World) (K : PySem.W.Frag) (mg : Str → Option Value) (base : Heap) (N : List Str) (qual : Str) (scope : Scope) (f : Addr) (cd : Value) (A : Around) (outer : List Env) (s : Shared) (H : Hp) (E : XK) : Cx where
  prog := P
  w := w
  K := K
  mg := mg
  base := base
  A := A.deeper (envOfC qual scope s.heap.objs.size f cd)
  N := N
  s₀ := s
  H₀ := H
  env := envOfC qual scope s.heap.objs.size f cd
  outer := outer
  stack := envOfC qual scope s.heap.objs.size f cd :: outer
  ex := []
  calm := true
  fn := fun _ => true
  pn := []
  xe := fun e s' => wpAny (model P w) (A.deeper (envOfC qual scope s.heap.objs.size f cd)) (leaving (envOfC qual scope s.heap.objs.size f cd) e) (fun _ s'' => CX outer H s E e s'') (fun e' s'' => CX outer H s E e' s'') s'
theorem cell_has {sc : Scope} {n : Nat} {x : Str} (h : sc.names.lookup x = some .cell) : ∃ c, (cellsFrom n sc.names []).lookup x = some c := by
  have q := PySem.W.cellsFrom_some sc.names n [] (.inl h)
  exact Option.isSome_iff_exists.mp q
theorem inv_start {CX : CXT} {P : Program} {w : World} {K : PySem.W.Frag} {mg : Str → Option Value} {base : Heap} {N ps : List Str} {qual : Str} {scope : Scope} {f : Addr} {cd : Value} {A : Around} {outer : List Env} {s s1 : Shared} {H : Hp} {E : XK} {us : List Value} {vs : List V}
    (S : FnScope N ps scope) (hd : A.handled = none) (e0 : Env0 P w K mg base A outer s H) (hl : vs.length = ps.length) (r : Vals vs us)
    (x : InCallC s s.heap.objs.size (bindL (envOfC qual scope s.heap.objs.size f cd).kindOf (ps.zip us) fun _ => none) (cellsFrom (s.heap.objs.size + 1) scope.names []) (bindC (envOfC qual scope s.heap.objs.size f cd).kindOf (ps.zip us) fun _ => none) s1) :
    Inv (cxOf CX P w K mg base N qual scope f cd A outer s H E) [] (start N vs) H s1 := by
  have hpl : ps.length ≤ N.length := by have := congrArg List.length S.pre; rw [List.length_take] at this; lia
  obtain ⟨h1, tk, rfl, hk⟩ := x.done
  have noA : ∀ b : Addr, b ∉ (cxOf CX P w K mg base N qual scope f cd A outer s H E).ex := fun b z => absurd (show b ∈ ([] : List Addr) from z) (by simp)
  refine ⟨⟨e0.mod, S.kind, rfl, rfl, Nat.le_refl _, fun y z c h1 h2 => ?_, fun y hy => ?_, fun y c _ h => ?_, fun _ => hd, Around.frames_deeper e0.frames, .inr ⟨rfl, rfl⟩, fun b z => absurd z (noA b), e0.bs, e0.bsz, fun b _ _ => noA b, fun b z => absurd z (noA b), e0.funs, e0.frf⟩,
    rfl, e0.bare, Un.kept hk, ⟨_, x.toInCall.ns, fun i y v h1 h2 h3 => ?_⟩, fun y c h => ⟨_, x.cell y c h⟩, e0.hok.fresh (Nat.le_refl _), fun y c h => ?_, fun p hp => absurd (show p ∈ ([] : List (Addr × Obj)) from hp) (by simp), e0.hok.kept hk, ?_⟩
  · exact name_of_addr x.apart (PySem.mem_of_lookup h1) (PySem.mem_of_lookup h2)
  · have hy : scope.names.lookup y = some .cell ∨ scope.names.lookup y = some .free := hy
    rcases hy with hy | hy
    · exact cell_has hy
    · exact absurd rfl (S.nofree _ (PySem.mem_of_lookup hy))
  · exact Nat.le_of_lt (x.above y c (PySem.mem_of_lookup h))
  · have hi : i < vs.length := by
      unfold start at h2
      by_cases hi : i < vs.length
      · exact hi
      · rw [List.getElem?_append_right (by simpa using hi)] at h2
        rw [List.getElem?_replicate] at h2
        split at h2 <;> cases h2
    have ha : vs[i]? = some v := by
      unfold start at h2
      rw [List.getElem?_append_left (by simpa using hi), List.getElem?_map] at h2
      cases e : vs[i]? with
      | none => rw [e] at h2; cases h2
      | some a => rw [e] at h2; cases h2; rfl
    obtain ⟨u, hu, rv⟩ := r.get ha
    have hp : ps[i]? = some y := by
      rw [← S.pre, List.getElem?_take_of_lt (by lia)]; exact h1
    have ndP : ps.Nodup := by rw [← S.pre]; exact S.nd.sublist (List.take_sublist _ _)
    refine ⟨u, rv, ?_⟩
    rcases S.par y (List.mem_of_getElem? hp) with k | k
    · exact .inl ⟨k, bindL_get ndP hp hu k⟩
    · obtain ⟨c, e⟩ := cell_has (n := s.heap.objs.size + 1) k
      refine .inr ⟨.inl k, c, e, ?_⟩
      have q := x.cell y c e
      rw [bindC_get ndP hp hu (by show scope.names.lookup y ≠ _; rw [k]; decide)] at q
      exact q
  · exact e0.hok.fresh (Nat.le_of_lt (x.above y c (PySem.mem_of_lookup h)))
  · unfold start
    show _ = N.length
    rw [List.length_append, List.length_map, List.length_replicate]
    lia
theorem fn_of {CX : CXT} {P : Program} {w : World} {K : PySem.W.Frag} {mg : Str → Option Value} {base : Heap} {k : Nat} {f : Addr} {name qual : Str} {params : Arguments} {body : List Stmt} {scope : Scope} {dV kV doc pm cdv ct oc : Value} {an od : Option Addr}
    {osl : Array (Option Value)} {N ps : List Str} {sp : Sp} (lk : K.lookup f = some ⟨oc, od, .func (PySem.W.fnOf name qual params body scope dV kV doc pm an cdv ct), osl⟩) (hcd : PySem.W.codeIn K cdv qual = true) (S : FnScope N ps scope)
    (len : ∀ vs H Q E, sp vs H Q E → vs.length = ps.length)
    (hbody : ∀ (A : Around) (outer : List Env) (s : Shared) (H : Hp) (vs : List V) (Q : VK) (E : XK), Room k (A.deeper (envOfC qual scope s.heap.objs.size f cdv)) → sp vs H Q E →
      ∃ t, PSs (cxOf CX P w K mg base N qual scope f cdv A outer s H E) body t ∧ t { nx := fun _ H' => Q .non H', rt := Q } (start N vs) H) :
    FnOk P w K mg base CX (k + 1) f (PySem.W.fnOf name qual params body scope dV kV doc pm an cdv ct) ps sp := by
  refine ⟨len, fun A outer s H args us vs Q E hr e0 hb r hsp => ?_⟩
  have hl := len _ _ _ _ hsp
  have KX : K.In s.heap := e0.mod.kin.keeps fun b o e => (e0.bs b o e).1
  have lim : s.heap.NoLimit := e0.mod.nolimit.keeps fun b o e => (e0.bs b o e).1
  have hkind : ∀ y ∈ ps.zip us, scope.names.lookup y.1 = some .local ∨ (scope.names.lookup y.1 = some .cell ∧ ((cellsFrom (s.heap.objs.size + 1) scope.names []).lookup y.1).isSome = true) := fun ⟨n, v⟩ hy => by
    rcases S.par n (List.of_mem_zip hy).1 with q | q
    · exact .inl q
    · exact .inr ⟨q, PySem.W.cellsFrom_some _ _ _ (.inl q)⟩
  refine codeAny_call_function hr.depth (KX _ _ lk) rfl S.co S.gen rfl (PySem.W.codeRec_of KX hcd) (hb _ _ _ _ ?_)
  refine wpAny_newFunctionEnv_cells S.kind hkind fun env he s1 x => ?_
  subst he
  refine ⟨lim.keeps x.toInCall.keep, codeAny_func ?_⟩
  obtain ⟨t, ht, hq⟩ := hbody A outer s H vs Q E (hr.deeper _) hsp
  have I : Inv (cxOf CX P w K mg base N qual scope f cdv A outer s H E) [] (start N vs) H s1 := inv_start S hr.hd e0 hl r x
  refine wpAny_mono (ht [] s1 (start N vs) H _ I hq) (fun fl s' hs => ?_) fun e s' hs => hs
  have fin : ∀ {σ' : St} {H' : Hp} {v : V} {u : Value}, Inv (cxOf CX P w K mg base N qual scope f cdv A outer s H E) [] σ' H' s' → RelV v u → Q v H' → CE outer P w H s Q u s' :=
    fun {σ' H' v u} J rv q => ⟨v, H', J.os, J.bare, J.base, J.hok, rv, q⟩
  cases fl with
  | ret u =>
    obtain ⟨v, σ', H', J, rv, q⟩ := hs
    exact fin J rv q
  | next =>
    obtain ⟨σ', H', J, q⟩ := hs
    exact fin (v := V.non) (u := Value.none) J rfl q
  | brk =>
    obtain ⟨_, _, _, q⟩ := hs
    exact False.elim q
  | cont =>
    obtain ⟨_, _, _, q⟩ := hs
    exact False.elim q
end L2
namespace L2
open PySem PySem.Spec PyProof.Rows
section
variable {X : Cx} {x : Str} {p pos : Pos} {e : Expr} {es : List Expr} {t : TA} {id T : String} {r : List V → Hp → VK → Prop}
def tCB (r : List V → Hp → VK → Prop) (t : TA) : TE := fun σ H Q => t σ H fun vs H1 => r vs H1 Q
theorem pe_callB (hc : CallR X (.builtin id) r) (hg : Gl X x) (hm : X.mg x = none) (hv : bootBuiltins x = some (.builtin id)) (ha : PA X (e :: es) t) (hn : x ≠ "__name__" := by decide) (hdb : (x == ("__debug__" : Str)) = false := by decide)
    (he : starEach (e :: es) X.env = (false, eval e X.env) :: starEach es X.env := by rfl) (hpl : (backTo pos (starEach es X.env)).any (·.1) = false := by rfl) : PE X (.Call (.Name x p) (e :: es) [] pos) (tCB r t) := by
  intro pins s σ H Q I h
  refine wpAny_Call_Name_kw (ld_blt I hg hm hv ?_ hn hdb)
  exact PyProof.Rows.callWith_builtin1 (thn (ha pos pins s σ H _ I h) fun us s1 ⟨vs, H1, I1, r1, q1⟩ => hc pins s1 σ H1 vs us Q I1 r1 q1) he hpl
theorem pe_callTy (hc : CallR X (.type T) r) (hg : Gl X x) (hm : X.mg x = none) (hv : bootBuiltins x = some (.type T)) (ha : PA X (e :: es) t) (hn : x ≠ "__name__" := by decide) (hdb : (x == ("__debug__" : Str)) = false := by decide)
    (he : starEach (e :: es) X.env = (false, eval e X.env) :: starEach es X.env := by rfl) (hpl : (backTo pos (starEach es X.env)).any (·.1) = false := by rfl) : PE X (.Call (.Name x p) (e :: es) [] pos) (tCB r t) := by
  intro pins s σ H Q I h
  refine wpAny_Call_Name_kw (ld_blt I hg hm hv ?_ hn hdb)
  exact PyProof.Rows.callWith_type1 (thn (ha pos pins s σ H _ I h) fun us s1 ⟨vs, H1, I1, r1, q1⟩ => hc pins s1 σ H1 vs us Q I1 r1 q1) he hpl
end
end L2
namespace HT
open PySem PyProof.Rows
section
open PySem.SeqAt
open PySem.AutoSeq1 (wpAny_loadPart')
open PySem.MeetsSeq PySem.MeetsSeq2 PySem.MeetsSeq3
end
section
variable {prog : Program} {w : World} {A : Around} {E : Value → Shared → Prop} {s : Shared}
theorem cat_tup {t b : Addr} {vs ws : List Value} {Q : Value → Shared → Prop} (ht : IsTup s.heap t vs.toArray) (hb : IsTup s.heap b ws.toArray) (hv : vs ≠ [])
    (h1 : ws = [] → Q (.ref t) s) (h2 : ws ≠ [] → Q (.ref s.heap.objs.size) { s with heap := s.heap.push { cls := .type "tuple", data := .seq (vs ++ ws).toArray } })
    (hsz : vs.length + ws.length ≤ sizeLine) : wpAny (model prog w) A (binaryOp .Add (.ref t) (.ref b)) Q E s := by
  obtain ⟨⟨cls, dd, data, sl⟩, ho, hc, n, hd⟩ := id ht
  obtain ⟨⟨cls2, dd2, data2, sl2⟩, ho2, hc2, n2, hd2⟩ := id hb
  simp only at hc hd hc2 hd2
  subst hc hd hc2 hd2
  have e : vs.toArray ++ ws.toArray = (vs ++ ws).toArray := by simp
  by_cases hw : ws = []
  · exact concat_meets ⟨_, ho, rfl⟩ ⟨_, ho2, rfl⟩ noFill_tuple_add seq_tuple_add PySem.F.slot_tuple_add PySem.F.entry_tuple_add (PySem.F.args_tuple_add_2 _ _)
      (tuple_addW1 t b vs.toArray ws.toArray n n2 dd dd2 sl sl2 (by simpa using hv) (by simp [hw])) ⟨ho, ho2, h1 hw⟩
  · refine concat_meets ⟨_, ho, rfl⟩ ⟨_, ho2, rfl⟩ noFill_tuple_add seq_tuple_add PySem.F.slot_tuple_add PySem.F.entry_tuple_add (PySem.F.args_tuple_add_2 _ _)
      (tuple_addW2 t b vs.toArray ws.toArray n n2 dd dd2 sl sl2 (by simpa using hv) (by simpa using hw) (by rw [List.size_toArray, List.size_toArray]; exact hsz)) ⟨ho, ho2, ?_⟩
    rw [e]
    exact h2 hw
def sIx (n d : Nat) : Option Int → Nat
  | none => d
  | some v => if v < 0 then (v + (n : Int)).toNat else min v.toNat n
theorem sIx_none (n d : Nat) : sIx n d none = d := rfl
theorem sIx_nat (n d k : Nat) : sIx n d (some (k : Int)) = min k n := by
  show (if (k : Int) < 0 then ((k : Int) + (n : Int)).toNat else min (k : Int).toNat n) = min k n
  rw [if_neg (by lia), Int.toNat_natCast]
theorem sIx_le (n d : Nat) (hd : d ≤ n) (o : Option Int) : sIx n d o ≤ n := by
  cases o with
  | none => exact hd
  | some v =>
    show (if v < 0 then (v + (n : Int)).toNat else min v.toNat n) ≤ n
    by_cases hv : v < 0
    · rw [if_pos hv]; lia
    · rw [if_neg hv]; exact Nat.min_le_right _ _
theorem clip_eq (v : Int) (n d : Nat) : (if v < 0 then max (v + (n : Int)) 0 else min v (n : Int)) = ((sIx n d (some v) : Nat) : Int) := by
  show (if v < 0 then max (v + (n : Int)) 0 else min v (n : Int)) = (((if v < 0 then (v + (n : Int)).toNat else min v.toNat n) : Nat) : Int)
  by_cases hv : v < 0
  · simp only [if_pos hv]; lia
  · simp only [if_neg hv]; lia
theorem adjust_gen (lo hi : Option Int) (n : Nat) : Builtin.Slice.sliceAdjust lo hi 1 (n : Int) = (((sIx n 0 lo : Nat) : Int), ((sIx n n hi : Nat) : Int)) := by
  have h1 : ¬ ((1 : Int) < 0) := by lia
  unfold Builtin.Slice.sliceAdjust
  simp only [h1, if_false]
  refine Prod.ext ?_ ?_
  · cases lo with
    | none => rfl
    | some v => exact clip_eq v n 0
  · cases hi with
    | none => rfl
    | some v => exact clip_eq v n n
theorem places_gen (i j : Nat) : Builtin.Slice.slicePlaces (i : Int) (j : Int) 1 = j - i := by
  unfold Builtin.Slice.slicePlaces
  have h1 : (1 : Int) > 0 := by lia
  simp only [h1, if_true, Int.ediv_one]
  split <;> lia
theorem slicePart_ {v : Value} {o : Option Int} {Q : Option Int → Shared → Prop} (p : IsPart v o) (h : Q o s) : wpAny (model prog w) A (Builtin.Slice.slicePartIndex v) Q E s := by
  cases p with
  | none => exact slicePart_none h
  | int i t => exact slicePart_int h
theorem sliceApplied_gen {sl : Addr} {vl vu : Value} {lo hi : Option Int} {n : Nat} {Q : Int × Int × Nat → Shared → Prop} (hs : s.heap.IsSliceOf sl vl vu .none) (pl : IsPart vl lo) (pu : IsPart vu hi)
    (h : Q (((sIx n 0 lo : Nat) : Int), 1, sIx n n hi - sIx n 0 lo) s) : wpAny (model prog w) A (Builtin.Slice.sliceApplied (.ref sl) (pure (n : Int))) Q E s := by
  obtain ⟨os, hos, hcs, hds⟩ := id hs
  unfold Builtin.Slice.sliceApplied Builtin.Slice.sliceFields
  refine wpAny_bind (wpAny_bind (wpAny_field hos hds (x := vl) rfl (wpAny_bind (wpAny_field hos hds (x := vu) rfl (wpAny_bind (wpAny_field hos hds (x := .none) rfl (wpAny_pure ?_)))))))
  refine wpAny_bind (slicePart_none ?_)
  show wpAny _ _ (if ((1 : Int) == 0) = true then _ else _) _ _ s
  rw [if_neg (by decide)]
  refine wpAny_bind (slicePart_ pl (wpAny_bind (slicePart_ pu (wpAny_bind (wpAny_pure ?_)))))
  show wpAny _ _ (match Builtin.Slice.sliceAdjust lo hi 1 (n : Int) with | (lo, hi) => pure (lo, (1 : Int), Builtin.Slice.slicePlaces lo hi 1)) _ _ s
  rw [adjust_gen lo hi n]
  show wpAny _ _ (pure (((sIx n 0 lo : Nat) : Int), (1 : Int), Builtin.Slice.slicePlaces ((sIx n 0 lo : Nat) : Int) ((sIx n n hi : Nat) : Int) 1)) _ _ s
  rw [places_gen]
  exact wpAny_pure h
theorem pick_gen (xs : Array Value) (i k : Nat) : ((List.range k).filterMap fun (m : Nat) => xs[((i : Int) + (m : Int) * 1).toNat]?).toArray = ((xs.toList.drop i).take k).toArray := by
  have e : (fun (m : Nat) => xs[((i : Int) + (m : Int) * 1).toNat]?) = fun m => xs[i + m]? := by
    funext m
    have : ((i : Int) + (m : Int) * 1).toNat = i + m := by lia
    rw [this]
  rw [e]
  have := pick_run xs i k
  rw [List.filterMap_map] at this
  have e2 : ((fun x => xs[x]?) ∘ fun x => i + x) = fun m => xs[i + m]? := rfl
  rw [e2] at this
  rw [this]
theorem getItem_tuple_cut {t sl : Addr} {items : Array Value} {vl vu : Value} {lo hi : Option Int} {Q : Value → Shared → Prop} (ht : IsTup s.heap t items) (hs : s.heap.IsSliceOf sl vl vu .none) (pl : IsPart vl lo) (pu : IsPart vu hi)
    (hw : ¬ (sIx items.size 0 lo = 0 ∧ sIx items.size items.size hi = items.size))
    (h : Q (.ref s.heap.objs.size) { s with heap := s.heap.push { cls := .type "tuple", data := .seq ((items.toList.drop (sIx items.size 0 lo)).take (sIx items.size items.size hi - sIx items.size 0 lo)).toArray } })
    (hsz : items.size ≤ sizeLine) : wpAny (model prog w) A (getItem (.ref t) (.ref sl)) Q E s := by
  have htake : sizeOk (.seq ((items.toList.drop (sIx items.size 0 lo)).take (sIx items.size items.size hi - sIx items.size 0 lo)).toArray) := by
    show ((items.toList.drop (sIx items.size 0 lo)).take (sIx items.size items.size hi - sIx items.size 0 lo)).toArray.size ≤ sizeLine
    rw [List.size_toArray, List.length_take, List.length_drop, Array.length_toList]
    lia
  have hj : sIx items.size items.size hi ≤ items.size := sIx_le _ _ (Nat.le_refl _) hi
  obtain ⟨os, hos, hcs, hds⟩ := id hs
  have hTs : s.TypeIs (.ref sl) "slice" := ⟨os, hos, hcs⟩
  unfold getItem
  try with_reducible refine wpAny_holding ?_
  first | refine wpAny_bind (wpAny_pure ?_) | skip
  refine wpAny_bind (wpAny_sequenceKey ht.typeIs (by decide) ?_)
  refine wpAny_bind (wpAny_callSpecial?_slot (name := Str.ofString "__getitem__") ht.typeIs PyProof.Rows.slot_tuple_getitem
    (wpAny_call_entry PyProof.Rows.slot_tuple_getitem ht.typeIs entry_tuple_getitem ?_ (args_tuple_getitem _ _)))
  show wpAny _ _ (Builtin.Tuple.tupleItemsOf (.ref t) >>= _) _ _ s
  refine wpAny_bind (tupleItemsOf_ ht ?_)
  refine wpAny_bind (wpAny_typeOf hTs ?_)
  rw [if_pos (by decide)]
  refine wpAny_bind (sliceApplied_gen hs pl pu ?_)
  have hno : ¬ ((((sIx items.size 0 lo : Nat) : Int) == 0 && (1 : Int) == 1 && (sIx items.size items.size hi - sIx items.size 0 lo) == items.size) = true) := by
    intro q
    rw [Bool.and_eq_true, Bool.and_eq_true] at q
    have q1 : ((sIx items.size 0 lo : Nat) : Int) = 0 := eq_of_beq q.1.1
    have q2 : sIx items.size items.size hi - sIx items.size 0 lo = items.size := eq_of_beq q.2
    exact hw ⟨by lia, by lia⟩
  show wpAny _ _ (if (((sIx items.size 0 lo : Nat) : Int) == 0 && (1 : Int) == 1 && (sIx items.size items.size hi - sIx items.size 0 lo) == items.size) = true then _ else _) _ _ s
  rw [if_neg hno, pick_gen]
  first
    | exact wpAny_bind (m := Builtin.Tuple.tupleExact _) (wpAny_newObj_type (wpAny_pure ⟨_, rfl, wpAny_pure h⟩) htake)
    | exact wpAny_bind (m := Builtin.Tuple.tupleExact _) (wpAny_newObj_type (wpAny_bind (wpAny_pure (wpAny_pure ⟨_, rfl, wpAny_pure h⟩))) htake)
    | exact wpAny_bind (wpAny_bind (m := Builtin.Tuple.tupleExact _) (wpAny_newObj_type (wpAny_pure (wpAny_pure ⟨_, rfl, wpAny_pure h⟩)) htake))
    | exact wpAny_bind (wpAny_bind (m := Builtin.Tuple.tupleExact _) (wpAny_newObj_type (wpAny_pure ⟨_, rfl, wpAny_pure h⟩) htake))
end
end HT
namespace L2
open PySem PySem.Spec PyProof.Rows
abbrev TO := St → Hp → (Option Int → Hp → Prop) → Prop
def PO (X : Cx) (e : Option Expr) (t : TO) : Prop :=
  ∀ (pins : List (Addr × Obj)) (s : Shared) (σ : St) (H : Hp) (Q : Option Int → Hp → Prop), Inv X pins σ H s → t σ H Q →
    wpAny (model X.prog X.w) X.A (evalPart e X.env) (fun u s' => ∃ o H', Inv X pins σ H' s' ∧ IsPart u o ∧ Q o H') X.xe s
def tNoPart : TO := fun _ H Q => Q none H
def tPart (t : TE) : TO := fun σ H Q => t σ H fun x H1 => ∃ i, x = .int i ∧ Q (some i) H1
section
variable {X : Cx} {e : Expr} {te : TE} {lo hi : Option Expr} {tl th : TO} {pos p2 : Pos}
theorem po_none : PO X none tNoPart := by
  intro pins s σ H Q I h
  rw [evalPart_none]
  exact wpAny_pure ⟨none, H, I, .none, h⟩
theorem po_some (h : PE X e te) : PO X (some e) (tPart te) := by
  intro pins s σ H Q I hw
  rw [evalPart_some]
  refine thn (h pins s σ H _ I hw) fun u s1 ⟨x, H1, I1, r1, q1⟩ => ?_
  obtain ⟨i, rfl, q⟩ := q1
  obtain ⟨t, rfl⟩ := r1
  exact ⟨some i, H1, I1, .int i t, q⟩
def SlR (X : Cx) (r : V → Option Int → Option Int → Hp → VK → Prop) : Prop :=
  ∀ (pins : List (Addr × Obj)) (s : Shared) (σ : St) (H : Hp) (x : V) (v vl vu : Value) (lo hi : Option Int) (sl : Addr) (Q : VK), Inv X pins σ H s → RelV x v → s.heap.IsSliceOf sl vl vu .none → IsPart vl lo → IsPart vu hi → r x lo hi H Q →
    ∃ T id, typeLookup (.type T) "__getitem__" = pure (some (.builtin id)) ∧ s.TypeIs v T ∧ wpAny (model X.prog X.w) X.A (getItem v (.ref sl)) (EP X pins σ Q) X.xe s
theorem SlR.or {r r' : V → Option Int → Option Int → Hp → VK → Prop} (h : SlR X r) (h' : SlR X r') : SlR X (fun x lo hi H Q => r x lo hi H Q ∨ r' x lo hi H Q) := by
  intro pins s σ H x v vl vu lo hi sl Q I rx hs pl pu q
  rcases q with q | q
  · exact h pins s σ H x v vl vu lo hi sl Q I rx hs pl pu q
  · exact h' pins s σ H x v vl vu lo hi sl Q I rx hs pl pu q
def tSl (r : V → Option Int → Option Int → Hp → VK → Prop) (te : TE) (tl th : TO) : TE := fun σ H Q => te σ H fun x H1 => tl σ H1 fun l H2 => th σ H2 fun u H3 => r x l u H3 Q
theorem pe_slice {r : V → Option Int → Option Int → Hp → VK → Prop} (hr : SlR X r) (he : PE X e te) (hl : PO X lo tl) (hu : PO X hi th) : PE X (.Subscript e (.Slice lo hi none p2) pos) (tSl r te tl th) := by
  intro pins s σ H Q I h
  refine Subscript_ (thn (he pins s σ H _ I h) fun v s1 ⟨x, H1, I1, r1, q1⟩ => ?_)
  refine wpAny_Slice (thn (hl pins s1 σ H1 _ I1 q1) fun vl s2 ⟨l, H2, I2, pl, q2⟩ => thn (hu pins s2 σ H2 _ I2 q2) fun vu s3 ⟨u, H3, I3, pu, q3⟩ => ?_)
  rw [evalPart_none]
  refine wpAny_pure ?_
  have I4 : Inv X pins σ H3 { s3 with heap := s3.heap.push { cls := .type "slice", data := .fields #[vl, vu, .none] } } := I3.kept (t' := s3.toks) fun b ob q => Heap.get?_push_of_some _ q
  obtain ⟨T, id, hT, ht, hg⟩ := hr pins { s3 with heap := s3.heap.push { cls := .type "slice", data := .fields #[vl, vu, .none] } } σ H3 x v vl vu l u s3.heap.objs.size Q I4 r1 (Heap.IsSliceOf.new ..) pl pu q3
  show wpAny (model X.prog X.w) X.A (subscriptTail e (.Slice lo hi none p2) v (.ref s3.heap.objs.size)) (EP X pins σ Q) X.xe { s3 with heap := s3.heap.push { cls := .type "slice", data := .fields #[vl, vu, .none] } }
  exact tail_any (ops := [.ref s3.heap.objs.size, v]) ht hT hg (by with_unfolding_all rfl)
def cutV (xs : List V) (lo hi : Option Int) : List V := (xs.drop (HT.sIx xs.length 0 lo)).take (HT.sIx xs.length xs.length hi - HT.sIx xs.length 0 lo)
theorem cutV_length (xs : List V) (lo hi : Option Int) : (cutV xs lo hi).length ≤ xs.length := by
  unfold cutV
  rw [List.length_take, List.length_drop]
  lia
def rSlT (K : PySem.W.Frag) : V → Option Int → Option Int → Hp → VK → Prop := fun x lo hi H Q => ∃ a xs, x = .ref a ∧ SqT K H a xs ∧
  ¬ (HT.sIx xs.length 0 lo = 0 ∧ HT.sIx xs.length xs.length hi = xs.length) ∧ ∀ p, H p = none → Q (.ref p) (upd H p (.tup (cutV xs lo hi)))
theorem sl_tup : SlR X (rSlT X.K) := by
  intro pins s σ H x v vl vu lo hi sl Q I rx hs pl pu h
  obtain ⟨a, xs, rfl, hx, hw, q⟩ := h
  cases rx
  obtain ⟨its, r, ht, hz⟩ := I.tuple hx
  have hlen : its.toArray.size = xs.length := by rw [List.size_toArray]; exact r.length.symm
  refine ⟨"tuple", _, PyProof.Rows.slot_tuple_getitem.lookup, ht.typeIs, ?_⟩
  refine HT.getItem_tuple_cut ht hs pl pu (by rw [hlen]; exact hw) ?_ (by rw [hlen]; exact hz)
  rw [hlen]
  refine ⟨.ref s.heap.objs.size, _, I.laid (t' := s.toks) (o := .tup (cutV xs lo hi)) (fun b ob q => Heap.get?_push_of_some _ q) (Nat.le_refl _) ?_, rfl, q _ (I.hok.fresh (Nat.le_refl _))⟩
  exact ⟨Nat.le_trans (cutV_length xs lo hi) hz, _, (r.drop (HT.sIx xs.length 0 lo)).take (HT.sIx xs.length xs.length hi - HT.sIx xs.length 0 lo), IsTupN.new _ _⟩
def rCatT (K : PySem.W.Frag) : R2 := fun x y H Q => ∃ a b xs ys, x = .ref a ∧ y = .ref b ∧ SqT K H a xs ∧ SqT K H b ys ∧ xs ≠ [] ∧ xs.length + ys.length ≤ sizeLine ∧
  (ys = [] → Q (.ref a) H) ∧ (ys ≠ [] → ∀ p, H p = none → Q (.ref p) (upd H p (.tup (xs ++ ys))))
theorem Vals.nil_iff {xs : List V} {us : List Value} (r : Vals xs us) : us = [] ↔ xs = [] := by
  cases r with
  | nil => simp
  | cons _ _ => simp
theorem op_catT : OpR X (binaryOp .Add) (rCatT X.K) := by
  intro pins s σ H x y v u Q I rx ry h
  obtain ⟨a, b, xs, ys, rfl, rfl, ha, hb, hx, hz, q1, q2⟩ := h
  cases rx
  cases ry
  obtain ⟨its, r1, p1, _⟩ := I.tuple ha
  obtain ⟨its2, r2, p2, _⟩ := I.tuple hb
  refine HT.cat_tup p1 p2 (fun z => hx (r1.nil_iff.mp z)) (fun z => ⟨.ref a, H, I, rfl, q1 (r2.nil_iff.mp z)⟩) (fun z => ?_) (by rw [← r1.length, ← r2.length]; exact hz)
  refine ⟨.ref s.heap.objs.size, _, I.laid (t' := s.toks) (o := .tup (xs ++ ys)) (fun b ob q => Heap.get?_push_of_some _ q) (Nat.le_refl _) ?_, rfl, q2 (fun w => z (r2.nil_iff.mpr w)) _ (I.hok.fresh (Nat.le_refl _))⟩
  exact ⟨by rw [List.length_append]; exact hz, _, r1.append r2, IsTupN.new _ _⟩
end
end L2
namespace L2
open PySem PySem.Spec PyProof.Rows
def ixN (n : Nat) (i : Int) : Option Nat := if 0 ≤ i then (if i < n then some i.toNat else none) else if -(n : Int) ≤ i then some (i + n).toNat else none
def atI {α : Type} (xs : List α) (i : Int) : Option α := (ixN xs.length i).bind fun j => xs[j]?
theorem ixN_seq {n : Nat} {i : Int} {j : Nat} (h : ixN n i = some j) : seqIndex? i n = some j ∧ j < n ∧ -(n : Int) ≤ i ∧ i < n := by
  unfold ixN at h
  by_cases h0 : 0 ≤ i
  · rw [if_pos h0] at h
    by_cases h1 : i < n
    · rw [if_pos h1] at h
      have e : i.toNat = j := Option.some.inj h
      exact ⟨by rw [seqIndex_of h0 h1, e], by lia, by lia, h1⟩
    · rw [if_neg h1] at h; cases h
  · rw [if_neg h0] at h
    by_cases h1 : -(n : Int) ≤ i
    · rw [if_pos h1] at h
      have e : (i + n).toNat = j := Option.some.inj h
      exact ⟨by rw [seqIndex_neg (by lia) h1, e], by lia, h1, by lia⟩
    · rw [if_neg h1] at h; cases h
theorem atI_get {α : Type} {xs : List α} {i : Int} {v : α} (h : atI xs i = some v) : ∃ j, seqIndex? i xs.length = some j ∧ xs[j]? = some v ∧ j < xs.length ∧ -(xs.length : Int) ≤ i ∧ i < xs.length := by
  unfold atI at h
  cases e : ixN xs.length i with
  | none => rw [e] at h; cases h
  | some j =>
    rw [e] at h
    obtain ⟨h1, h2, h3, h4⟩ := ixN_seq e
    exact ⟨j, h1, h, h2, h3, h4⟩
def PlainIx (b : Expr) : Prop := ∀ o i, subscripted b false o i = operate [o, i] (getItem o i)
def IxR (X : Cx) (r : R2) : Prop :=
  ∀ (value slice : Expr) (pins : List (Addr × Obj)) (s : Shared) (σ : St) (H : Hp) (x y : V) (v u : Value) (Q : VK), Inv X pins σ H s → RelV x v → RelV y u → r x y H Q →
    subscripted slice false v u = operate [v, u] (getItem v u) → wpAny (model X.prog X.w) X.A (subscriptTail value slice v u) (EP X pins σ Q) X.xe s
def MtR (X : Cx) (id : String) (r : V → List V → Hp → VK → Prop) : Prop :=
  ∀ (pins : List (Addr × Obj)) (s : Shared) (σ : St) (H : Hp) (x : V) (xs : List V) (v : Value) (us : List Value) (Q : VK), Inv X pins σ H s → RelV x v → Vals xs us → r x xs H Q →
    wpAny (model X.prog X.w) X.A (call (.builtin id) (v :: us)) (EP X pins σ Q) X.xe s
section
variable {X : Cx} {a b : Expr} {ta tb : TE} {pos : Pos}
theorem IxR.or {r r' : R2} (h : IxR X r) (h' : IxR X r') : IxR X (fun x y H Q => r x y H Q ∨ r' x y H Q) := by
  intro value slice pins s σ H x y v u Q I rx ry q hs
  rcases q with q | q
  · exact h value slice pins s σ H x y v u Q I rx ry q hs
  · exact h' value slice pins s σ H x y v u Q I rx ry q hs
theorem pe_ix {r : R2} (hr : IxR X r) (ha : PE X a ta) (hb : PE X b tb) (hs : PlainIx b) : PE X (.Subscript a b pos) (tOp r ta tb) := by
  intro pins s σ H Q I h
  exact Subscript_ (binT ha hb I h fun v u s2 x y H2 I2 rx ry q => hr a b pins s2 σ H2 x y v u Q I2 rx ry q (hs _ _))
def rIxL (K : PySem.W.Frag) : R2 := fun x y H Q => ∃ p xs i v, x = .ref p ∧ y = .int i ∧ SqL K H p xs ∧ atI xs i = some v ∧ Q v H
def rIxT (K : PySem.W.Frag) : R2 := fun x y H Q => ∃ p xs i v, x = .ref p ∧ y = .int i ∧ SqT K H p xs ∧ atI xs i = some v ∧ Q v H
def rIxS : R2 := fun x y H Q => ∃ z i c, x = .str z ∧ y = .int i ∧ z.length ≤ sizeLine ∧ atI z.cps.toList i = some c ∧ Q (.str ⟨#[c]⟩) H
theorem ix_list : IxR X (rIxL X.K) := by
  intro value slice pins s σ H x y v u Q I rx ry h hs
  obtain ⟨p, xs, i, z, rfl, rfl, hq, he, q⟩ := h
  cases rx
  obtain ⟨t, rfl⟩ := ry
  obtain ⟨its, r, pl, hz⟩ := I.list hq
  obtain ⟨j, h1, h2, h3, h4, h5⟩ := atI_get he
  obtain ⟨w, ew, rw'⟩ := r.get h2
  have hl := r.length
  have hn := line63
  have fin : EP X pins σ Q w s := ⟨z, H, I, rw', q⟩
  by_cases h0 : 0 ≤ i
  · have hj : i.toNat = j := by
      rw [seqIndex_of h0 h5] at h1
      exact Option.some.inj h1
    exact item_listR pl.isList h0 (by lia) (by rw [hj]; simpa using ew) fin hs
  · have hj : (i + (its.toArray.size : Int)).toNat = j := by
      rw [seqIndex_neg (by lia) h4] at h1
      rw [List.size_toArray, ← hl]
      exact Option.some.inj h1
    exact subscriptTail_builtinR (x := w) pl.isList.typeIs slot_list_getitem.lookup
      (wpAny_getItem_list_neg (Q := fun r s' => r = w ∧ EP X pins σ Q r s') pl.isList (by lia) (by rw [List.size_toArray] <;> lia) (by lia) (by rw [hj]; simpa using ew) ⟨rfl, fin⟩) hs
theorem ix_tup : IxR X (rIxT X.K) := by
  intro value slice pins s σ H x y v u Q I rx ry h hs
  obtain ⟨p, xs, i, z, rfl, rfl, hq, he, q⟩ := h
  cases rx
  obtain ⟨t, rfl⟩ := ry
  obtain ⟨its, r, pl, hz⟩ := I.tuple hq
  obtain ⟨j, h1, h2, h3, h4, h5⟩ := atI_get he
  obtain ⟨w, ew, rw'⟩ := r.get h2
  have hl := r.length
  have hn := line63
  have fin : EP X pins σ Q w s := ⟨z, H, I, rw', q⟩
  exact subscriptTail_builtinR (x := w) pl.typeIs slot_tuple_getitem.lookup
    (getItem_tuple (j := j) (Q := fun r s' => r = w ∧ EP X pins σ Q r s') pl (by lia) (by lia) (by rw [List.size_toArray, ← hl]; exact h1) (by simpa using ew) ⟨rfl, fin⟩) hs
theorem ix_str : IxR X rIxS := by
  intro value slice pins s σ H x y v u Q I rx ry h hs
  obtain ⟨z, i, c, rfl, rfl, hz, he, q⟩ := h
  obtain ⟨t, rfl⟩ := rx
  obtain ⟨t', rfl⟩ := ry
  obtain ⟨j, h1, h2, h3, h4, h5⟩ := atI_get he
  have hl : z.cps.toList.length = z.length := by simp [Str.length]
  rw [hl] at h1 h4 h5
  have hn := line63
  exact tail_any (typeIs_str s z t) slot_str_getitem.lookup (getItem_str (c := c) (by
    have e1 : decide (i < -(2 ^ 63 : Int)) = false := decide_eq_false (by lia)
    have e2 : decide (i ≥ 2 ^ 63) = false := decide_eq_false (by lia)
    rw [e1, e2, Bool.or_false]) (by rw [h1]; simpa using h2) ⟨.str ⟨#[c]⟩, H, I.tok _, ⟨_, rfl⟩, q⟩) hs
def rIx (K : PySem.W.Frag) : R2 := fun x y H Q => rIxL K x y H Q ∨ rIxT K x y H Q ∨ rIxS x y H Q
theorem ix_seq : IxR X (rIx X.K) := ix_list.or (ix_tup.or ix_str)
theorem mapSeq_set (its : List Value) (n j : Nat) (u : Value) : Obj.mapSeq (·.setIfInBounds j u) { cls := .type "list", data := .seq its.toArray n } = { cls := .type "list", data := .seq (its.set j u).toArray n } := by
  simp [Obj.mapSeq]
theorem Inv.lst {pins : List (Addr × Obj)} {σ : St} {H : Hp} {s : Shared} {p : Addr} {xs : List V} (I : Inv X pins σ H s) (h : H p = some (.lst xs)) :
    ∃ (its : List Value) (n : Nat), Vals xs its ∧ s.heap.get? p = some { cls := .type "list", data := .seq its.toArray n } ∧ xs.length ≤ sizeLine := by
  obtain ⟨z, its, n, r, e⟩ := I.hok p _ h
  exact ⟨its, n, r, e, z⟩
theorem Inv.lstUpd {pins : List (Addr × Obj)} {σ : St} {H : Hp} {s : Shared} {p : Addr} {xs ys : List V} {its its' : List Value} {n n' : Nat} {f : Obj → Obj} (I : Inv X pins σ H s) (h : H p = some (.lst xs))
    (ho : s.heap.get? p = some { cls := .type "list", data := .seq its.toArray n }) (hf : f { cls := .type "list", data := .seq its.toArray n } = { cls := .type "list", data := .seq its'.toArray n' }) (r : Vals ys its') (hz : ys.length ≤ sizeLine) (t : Nat) :
    Inv X pins σ (upd H p (.lst ys)) { s with heap := s.heap.update p f, toks := t } := by
  have e : (s.heap.update p f).get? p = some { cls := .type "list", data := .seq its'.toArray n' } := by
    rw [Heap.get?_update_self f ho (by rw [hf] <;> rfl), hf]
  refine I.write (x := p) (e := p) (by rw [h]; trivial) (.inl rfl) (fun b u hb q => (Heap.get?_update_other _ _ (Ne.symm hb)).trans q) ⟨_, e⟩ ?_
  exact ⟨hz, its', n', r, e⟩
def rSetL : V → V → V → Hp → (Hp → Prop) → Prop := fun o i v H Q => ∃ p xs k j, o = .ref p ∧ i = .int k ∧ H p = some (.lst xs) ∧ ixN xs.length k = some j ∧ Q (upd H p (.lst (xs.set j v)))
theorem set_list : PSet X rSetL := by
  intro pins s σ H o i v ov iv u Q I ro ri rv h
  obtain ⟨p, xs, k, j, rfl, rfl, hp, hj, q⟩ := h
  cases ro
  obtain ⟨t, rfl⟩ := ri
  obtain ⟨its, n, r, ho, hz⟩ := I.lst hp
  obtain ⟨h1, h2, h3, h4⟩ := ixN_seq hj
  have hl := r.length
  have hn := line63
  have I' : Inv X pins σ (upd H p (.lst (xs.set j v))) { s with heap := s.heap.update p (Obj.mapSeq (·.setIfInBounds j u)) } :=
    I.lstUpd hp ho (mapSeq_set its n j u) (r.set rv j) (by rw [List.length_set]; exact hz) s.toks
  by_cases h0 : 0 ≤ k
  · have hk : k.toNat = j := by
      rw [seqIndex_of h0 h4] at h1
      exact Option.some.inj h1
    exact PySem.W.ki_setAt ho h0 (by lia) (by rw [List.size_toArray, ← hl]; exact h4) (by rw [hk]; exact ⟨_, I', q⟩)
  · have hk : (k + (its.toArray.size : Int)).toNat = j := by
      rw [seqIndex_neg (by lia) h3] at h1
      rw [List.size_toArray, ← hl]
      exact Option.some.inj h1
    exact PySem.W.ki_setBack ho (by lia) (by rw [List.size_toArray, ← hl]; exact h3) (by lia) (by rw [hk]; exact ⟨_, I', q⟩)
theorem slice_bounds (lo hi : Option Int) (n : Nat) : (sliceBounds lo hi none n).1 = ((HT.sIx n 0 lo : Nat) : Int) ∧ (sliceBounds lo hi none n).2.1 = ((HT.sIx n n hi : Nat) : Int) ∧ (sliceBounds lo hi none n).2.2 = 1 := by
  refine ⟨?_, ?_, rfl⟩
  · cases lo with
    | none => simp [sliceBounds, HT.sIx]
    | some i =>
      simp only [sliceBounds, HT.sIx, Option.getD_none, show (1 : Int) > 0 by decide, if_true]
      by_cases h : i < 0
      · simp only [h, if_true] <;> lia
      · simp only [h, if_false] <;> lia
  · cases hi with
    | none => simp [sliceBounds, HT.sIx]
    | some i =>
      simp only [sliceBounds, HT.sIx, Option.getD_none, show (1 : Int) > 0 by decide, if_true]
      by_cases h : i < 0
      · simp only [h, if_true] <;> lia
      · simp only [h, if_false] <;> lia
theorem slicePick_cut (its : List Value) (lo hi : Option Int) : slicePick its.toArray lo hi none = ((its.drop (HT.sIx its.length 0 lo)).take (HT.sIx its.length its.length hi - HT.sIx its.length 0 lo)).toArray := by
  obtain ⟨h1, h2, h3⟩ := slice_bounds lo hi its.toArray.size
  unfold slicePick
  rw [h1, h2, h3]
  simp only [sliceRange_one, pick_run, List.size_toArray] <;> rfl
def rSlL (K : PySem.W.Frag) : V → Option Int → Option Int → Hp → VK → Prop := fun x lo hi H Q => ∃ a xs, x = .ref a ∧ SqL K H a xs ∧ ∀ p, H p = none → Q (.ref p) (upd H p (.lst (cutV xs lo hi)))
theorem sl_list : SlR X (rSlL X.K) := by
  intro pins s σ H x v vl vu lo hi sl Q I rx hs pl pu h
  obtain ⟨a, xs, rfl, hx, q⟩ := h
  cases rx
  obtain ⟨its, r, ht, hz⟩ := I.list hx
  have hlen := r.length
  refine ⟨"list", _, slot_list_getitem.lookup, ht.isList.typeIs, ?_⟩
  refine wpAny_getItem_list_slice ht.isList hs pl pu .none (by simp) ?_ (by rw [List.size_toArray] <;> lia)
  rw [slicePick_cut, ← hlen]
  refine ⟨.ref s.heap.objs.size, _, I.laid (t' := s.toks) (o := .lst (cutV xs lo hi)) (fun b ob q => Heap.get?_push_of_some _ q) (Nat.le_refl _) ?_, rfl, q _ (I.hok.fresh (Nat.le_refl _))⟩
  exact ⟨Nat.le_trans (cutV_length xs lo hi) hz, _, 0, (r.drop (HT.sIx xs.length 0 lo)).take (HT.sIx xs.length xs.length hi - HT.sIx xs.length 0 lo), Heap.get?_push_size _ rfl⟩
def flatV : V → Bool
  | .non => true
  | .bl _ => true
  | .int _ => true
  | .str _ => true
  | _ => false
def eqV : V → V → Bool
  | .non, .non => true
  | .bl a, .bl b => a == b
  | .bl a, .int b => (if a then 1 else 0) == b
  | .int a, .bl b => a == (if b then 1 else 0)
  | .int a, .int b => a == b
  | .str a, .str b => a == b
  | _, _ => false
theorem eqAt_V {A : Around} {s : Shared} {y x : V} {u v : Value} (ry : RelV y u) (rx : RelV x v) (fy : flatV y = true) (fx : flatV x = true) : SeqAt.EqAt A s u v (eqV y x) := by
  cases y with
  | non =>
    cases ry
    cases x with
    | non => cases rx; exact SeqAt.EqAt.same _
    | bl b => cases rx; exact SeqAt.EqAt.none_bool b
    | int b => obtain ⟨t, rfl⟩ := rx; exact SeqAt.EqAt.none_int b t
    | str b => obtain ⟨t, rfl⟩ := rx; exact SeqAt.EqAt.none_str b t
    | _ => exact absurd (show false = true from fx) Bool.false_ne_true
  | bl a =>
    cases ry
    cases x with
    | non => cases rx; exact SeqAt.EqAt.bool_none a
    | bl b => cases rx; exact SeqAt.EqAt.bool_bool a b
    | int b => obtain ⟨t, rfl⟩ := rx; exact SeqAt.EqAt.bool_int a b t
    | str b => obtain ⟨t, rfl⟩ := rx; exact SeqAt.EqAt.bool_str a b t
    | _ => exact absurd (show false = true from fx) Bool.false_ne_true
  | int a =>
    obtain ⟨t', rfl⟩ := ry
    cases x with
    | non => cases rx; exact SeqAt.EqAt.int_none a t'
    | bl b => cases rx; exact SeqAt.EqAt.int_bool a t' b
    | int b => obtain ⟨t, rfl⟩ := rx; exact SeqAt.EqAt.int_int a t' b t
    | str b => obtain ⟨t, rfl⟩ := rx; exact SeqAt.EqAt.int_str a t' b t
    | _ => exact absurd (show false = true from fx) Bool.false_ne_true
  | str a =>
    obtain ⟨t', rfl⟩ := ry
    cases x with
    | non => cases rx; exact SeqAt.EqAt.str_none a t'
    | bl b => cases rx; exact SeqAt.EqAt.str_bool a t' b
    | int b => obtain ⟨t, rfl⟩ := rx; exact SeqAt.EqAt.str_int a t' b t
    | str b => obtain ⟨t, rfl⟩ := rx; exact SeqAt.EqAt.str_str a t' b t
    | _ => exact absurd (show false = true from fx) Bool.false_ne_true
  | _ => exact absurd (show false = true from fy) Bool.false_ne_true
def eqU (x : V) (u : Value) : Bool := match u with
  | .none => eqV .non x
  | .bool b => eqV (.bl b) x
  | .int i _ => eqV (.int i) x
  | .str z _ => eqV (.str z) x
  | _ => false
theorem eqU_of {x y : V} {u : Value} (r : RelV y u) (f : flatV y = true) : eqU x u = eqV y x := by
  cases y with
  | non => cases r; rfl
  | bl b => cases r; rfl
  | int i => obtain ⟨t, rfl⟩ := r; rfl
  | str z => obtain ⟨t, rfl⟩ := r; rfl
  | _ => exact absurd (show false = true from f) Bool.false_ne_true
theorem any_eqU {x : V} : ∀ {xs : List V} {us : List Value}, Vals xs us → xs.all flatV = true → us.any (eqU x) = xs.any fun y => eqV y x
  | _, _, .nil, _ => rfl
  | y :: xs, u :: us, .cons r t, f => by
    rw [List.all_cons, Bool.and_eq_true] at f
    rw [List.any_cons, List.any_cons, eqU_of r f.1, any_eqU t f.2]
theorem mem_eqAt {A : Around} {s : Shared} {x : V} {v : Value} (rx : RelV x v) (fx : flatV x = true) : ∀ {xs : List V} {us : List Value}, Vals xs us → xs.all flatV = true → ∀ u ∈ us, SeqAt.EqAt A s u v (eqU x u)
  | _, _, .nil, _ => fun u hu => by cases hu
  | y :: xs, u :: us, .cons r t, f => fun u' hu => by
    rw [List.all_cons, Bool.and_eq_true] at f
    rcases List.mem_cons.mp hu with rfl | hu
    · rw [eqU_of r f.1]; exact eqAt_V r rx f.1 fx
    · exact mem_eqAt rx fx t f.2 u' hu
def inV (x : V) (xs : List V) : Bool := xs.any fun y => eqV y x
def rIn (K : PySem.W.Frag) (neg : Bool) : R2 := fun x y H Q => ∃ p xs, y = .ref p ∧ (SqL K H p xs ∨ SqT K H p xs) ∧ flatV x = true ∧ xs.all flatV = true ∧ Q (.bl (if neg then !inV x xs else inV x xs)) H
theorem op_in_seq : OpR X (compareOp .In) (rIn X.K false) := by
  intro pins s σ H x y v u Q I rx ry h
  obtain ⟨p, xs, rfl, hq, fx, fs, q⟩ := h
  cases ry
  rcases hq with hq | hq
  · obtain ⟨its, r, pl, hz⟩ := I.list hq
    refine SeqAt.in_listAt (eqU x) pl.isList (fun w hw => mem_eqAt rx fx r fs w (by simpa using hw)) ⟨.bl _, H, I, rfl, ?_⟩
    rw [show its.toArray.any (eqU x) = its.any (eqU x) by simp, any_eqU r fs]
    exact q
  · obtain ⟨its, r, pl, hz⟩ := I.tuple hq
    refine SeqAt.in_tupleAt (eqU x) pl (fun w hw => mem_eqAt rx fx r fs w (by simpa using hw)) ⟨.bl _, H, I, rfl, ?_⟩
    rw [show its.toArray.any (eqU x) = its.any (eqU x) by simp, any_eqU r fs]
    exact q
theorem op_notIn_seq : OpR X (compareOp .NotIn) (rIn X.K true) := by
  intro pins s σ H x y v u Q I rx ry h
  obtain ⟨p, xs, rfl, hq, fx, fs, q⟩ := h
  cases ry
  rcases hq with hq | hq
  · obtain ⟨its, r, pl, hz⟩ := I.list hq
    refine SeqAt.notIn_listAt (eqU x) pl.isList (fun w hw => mem_eqAt rx fx r fs w (by simpa using hw)) ⟨.bl _, H, I, rfl, ?_⟩
    rw [show its.toArray.any (eqU x) = its.any (eqU x) by simp, any_eqU r fs]
    exact q
  · obtain ⟨its, r, pl, hz⟩ := I.tuple hq
    refine SeqAt.notIn_tupleAt (eqU x) pl (fun w hw => mem_eqAt rx fx r fs w (by simpa using hw)) ⟨.bl _, H, I, rfl, ?_⟩
    rw [show its.toArray.any (eqU x) = its.any (eqU x) by simp, any_eqU r fs]
    exact q
theorem call_list_of : CallR X (.type "list") (fun xs H Q => ∃ p ys, xs = [.ref p] ∧ (SqL X.K H p ys ∨ SqT X.K H p ys) ∧ ∀ l, H l = none → Q (.ref l) (upd H l (.lst ys))) := by
  intro pins s σ H xs us Q I r h
  obtain ⟨p, ys, rfl, hq, q⟩ := h
  obtain ⟨u, rfl, rx⟩ := vals1 r
  cases rx
  have fin : ∀ (its : List Value), Vals ys its → ys.length ≤ sizeLine → ∀ (h' : Heap) (c' : Nat), (∀ b o', s.heap.get? b = some o' → h'.get? b = some o') →
      h'.get? s.heap.objs.size = some { cls := .type "list", dict := none, data := .seq its.toArray c', slots := #[] } → EP X pins σ Q (.ref s.heap.objs.size) { s with heap := h' } := fun its r' hz h' c' kp e =>
    ⟨.ref s.heap.objs.size, _, I.laid (t' := s.toks) kp (Nat.le_refl _) (show ObjOk X.prog X.w _ h' _ (.lst ys) from ⟨hz, its, c', r', e⟩), rfl, q _ (I.hok.fresh (Nat.le_refl _))⟩
  rcases hq with hq | hq
  · obtain ⟨its, r', pl, hz⟩ := I.list hq
    have hlen := r'.length
    obtain ⟨o, ho, hc, n, hd⟩ := pl.isList
    exact call_list_seq p (.inl rfl) ho hc hd (fun h' c' kp e => fin its r' hz h' c' kp e) (by simp only [List.size_toArray] <;> lia)
  · obtain ⟨its, r', pl, hz⟩ := I.tuple hq
    have hlen := r'.length
    obtain ⟨o, ho, hc, n, hd⟩ := pl
    exact call_list_seq p (.inr rfl) ho hc hd (fun h' c' kp e => fin its r' hz h' c' kp e) (by simp only [List.size_toArray] <;> lia)
theorem call_tuple_of : CallR X (.type "tuple") (fun xs H Q => ∃ p ys, xs = [.ref p] ∧ ((SqL X.K H p ys ∧ ∀ l, H l = none → Q (.ref l) (upd H l (.tup ys))) ∨ (SqT X.K H p ys ∧ Q (.ref p) H))) := by
  intro pins s σ H xs us Q I r h
  obtain ⟨p, ys, rfl, h⟩ := h
  obtain ⟨u, rfl, rx⟩ := vals1 r
  cases rx
  rcases h with ⟨hq, q⟩ | ⟨hq, q⟩
  · obtain ⟨its, r', pl, hz⟩ := I.list hq
    have hlen := r'.length
    refine call_tuple_list pl.isList (fun h' kp => ?_) (by simp only [List.size_toArray] <;> lia)
    have I1 : Inv X pins σ H { s with heap := h' } := I.kept (t' := s.toks) kp
    have I2 : Inv X pins σ (upd H h'.objs.size (.tup ys)) { s with heap := h'.push { cls := .type "tuple", data := .seq its.toArray } } :=
      I1.laid (t' := s.toks) (fun b o e => Heap.get?_push_of_some _ e) (Nat.le_refl _) (show ObjOk X.prog X.w _ _ _ (.tup ys) from ⟨hz, its, r', IsTupN.new _ _⟩)
    exact ⟨.ref h'.objs.size, _, I2, rfl, q _ (I1.hok.fresh (Nat.le_refl _))⟩
  · obtain ⟨its, r', pl, hz⟩ := I.tuple hq
    exact call_tuple_same pl ⟨.ref p, H, I, rfl, q⟩
def tyV (K : PySem.W.Frag) (T : String) (x : V) (H : Hp) : Prop := match x with
  | .str _ => T = "str"
  | .int _ => T = "int"
  | .ref p => (T = "list" ∧ ∃ xs, SqL K H p xs) ∨ (T = "tuple" ∧ ∃ o, K.lookup p = some o ∧ o.cls = .type "tuple" ∧ o.dict = none) ∨
      (T = "dict" ∧ ((∃ kvs, H p = some (.dK kvs)) ∨ ∃ kvs, H p = some (.dT kvs))) ∨ (T = "set" ∧ ∃ S n, H p = some (.set S n))
  | _ => False
theorem tyV_is {pins : List (Addr × Obj)} {σ : St} {H : Hp} {s : Shared} {T : String} {x : V} {v : Value} (I : Inv X pins σ H s) (r : RelV x v) (ty : tyV X.K T x H) :
    s.TypeIs v T ∧ ∀ a, v = .ref a → ∃ ob, s.heap.get? a = some ob ∧ ob.dict = none := by
  cases x with
  | str z =>
    obtain ⟨t, rfl⟩ := r
    cases (show T = "str" from ty)
    exact ⟨typeIs_str s z t, fun _ e => nomatch e⟩
  | int i =>
    obtain ⟨t, rfl⟩ := r
    cases (show T = "int" from ty)
    exact ⟨typeIs_int s i t, fun _ e => nomatch e⟩
  | ref p =>
    cases r
    rcases ty with ⟨rfl, xs, hq⟩ | ⟨rfl, o, hk, hc, hd⟩ | ⟨rfl, hk⟩ | ⟨rfl, S, n, hk⟩
    · obtain ⟨its, _, pl, _⟩ := I.list hq
      refine ⟨pl.isList.typeIs, fun a e => ?_⟩
      cases e
      obtain ⟨o, n, e, c, hd, _⟩ := pl
      exact ⟨o, e, hd⟩
    · refine ⟨⟨o, I.kIn p o hk, hc⟩, fun a e => ?_⟩
      cases e
      exact ⟨o, I.kIn _ o hk, hd⟩
    · have z : ∃ o, s.heap.get? p = some o ∧ o.ExactDict := by
        rcases hk with ⟨kvs, hk⟩ | ⟨kvs, hk⟩
        · obtain ⟨_, _, _, _, o, _, _, e, ex, _⟩ := I.hok p _ hk
          exact ⟨o, e, ex⟩
        · obtain ⟨_, _, _, _, o, _, _, e, ex, _⟩ := I.hok p _ hk
          exact ⟨o, e, ex⟩
      obtain ⟨o, e, ex⟩ := z
      refine ⟨⟨o, e, ex.1⟩, fun a e2 => ?_⟩
      cases e2
      exact ⟨o, e, ex.2.1⟩
    · obtain ⟨o, _, _, _, e, ex, _⟩ := I.hok p _ hk
      refine ⟨⟨o, e, ex.1⟩, fun a e2 => ?_⟩
      cases e2
      exact ⟨o, e, ex.2.1⟩
  | _ => exact False.elim ty
def tBM0 (K : PySem.W.Frag) (T : String) (r : V → List V → Hp → VK → Prop) (to : TE) : TE := fun σ H Q => to σ H fun x H1 => tyV K T x H1 ∧ r x [] H1 Q
def tBM (K : PySem.W.Frag) (T : String) (r : V → List V → Hp → VK → Prop) (to : TE) (t : TA) : TE := fun σ H Q => to σ H fun x H1 => tyV K T x H1 ∧ t σ H1 fun xs H2 => r x xs H2 Q
variable {o e : Expr} {es : List Expr} {to : TE} {t : TA} {name : Str} {apos cpos : Pos} {T id : String} {r : V → List V → Hp → VK → Prop}
theorem pe_bm0 (pa : PlainAttrs T) (slot : Slot T name id) (hty : typeOf (.builtin id) = pure (.type "method_descriptor")) (hm : MtR X id r) (ho : PE X o to)
    (hbase : attributeBase o name X.env (eval o X.env) = eval o X.env := by rfl) (hline : (apos.endLine == cpos.line) = true := by rfl) : PE X (.Call (.Attribute o name apos) [] [] cpos) (tBM0 X.K T r to) := by
  intro pins s σ H Q I h
  refine wpAny_Call_method0_late hbase hline (thn (ho pins s σ H _ I h) fun v s1 ⟨x, H1, I1, r1, ty, q1⟩ => ?_)
  obtain ⟨h1, h2⟩ := tyV_is I1 r1 ty
  exact ⟨T, id, pa, slot, hty, h1, h2, Calls.callWith_builtin rfl (PySem.evalArgs_none (hm pins s1 σ H1 x [] v [] Q I1 r1 .nil q1))⟩
theorem pe_bm (pa : PlainAttrs T) (slot : Slot T name id) (hty : typeOf (.builtin id) = pure (.type "method_descriptor")) (hm : MtR X id r) (ho : PE X o to) (ha : PA X (e :: es) t)
    (hbase : attributeBase o name X.env (eval o X.env) = eval o X.env := by rfl)
    (hfew : ((backTo cpos (starEach (e :: es) X.env)).all (fun x => !x.1) && (backToKw cpos (keywordEach [] X.env)).all (fun x => x.1.isSome)
      && decide ((e :: es).length + ([] : List Keyword).length + (if ([] : List Keyword).isEmpty then 0 else 1) < 30)) = true := by rfl)
    (hline : (apos.endLine == cpos.line) = true := by rfl) (hs : starEach (e :: es) X.env = (false, eval e X.env) :: starEach es X.env := by rfl) (hplain : (backTo cpos (starEach es X.env)).any (·.1) = false := by rfl) :
    PE X (.Call (.Attribute o name apos) (e :: es) [] cpos) (tBM X.K T r to t) := by
  intro pins s σ H Q I h
  refine wpAny_Call_method_late hbase hfew hline rfl (thn (ho pins s σ H _ I h) fun v s1 ⟨x, H1, I1, r1, ty, q1⟩ => ?_)
  obtain ⟨h1, h2⟩ := tyV_is I1 r1 ty
  refine ⟨T, id, pa, slot, hty, h1, h2, ?_⟩
  have hA := ha cpos pins s1 σ H1 _ I1 q1
  rw [hs] at hA ⊢
  refine Calls.callWith_builtin (by show (false || (backTo cpos (starEach es X.env)).any (·.1)) = false; rw [hplain] <;> rfl) (Calls.evalArgs_plain ?_)
  exact thn hA fun us s2 ⟨vs, H2, I2, r2, q2⟩ => hm pins s2 σ H2 x vs v us Q I2 r1 r2 q2
/- xs.append(e), list.index on a module's tuple .. are MtR facts of 06m -/
end
end L2
namespace L2
open PySem PySem.Spec PyProof.Rows
def MtM (X : Cx) (id : String) (r : V → List V → Hp → VK → Prop) : Prop :=
  ∀ (pins : List (Addr × Obj)) (s : Shared) (σ : St) (H : Hp) (x : V) (xs : List V) (v : Value) (us : List Value) (Q : VK), Inv X pins σ H s → RelV x v → Vals xs us → r x xs H Q →
    wpAny (model X.prog X.w) X.A (call (.builtin id) (v :: us)) (EP X pins σ Q) X.xe s
theorem Vals.one : ∀ {x : V} {us : List Value}, Vals [x] us → ∃ u, us = [u] ∧ RelV x u
  | _, _, .cons r .nil => ⟨_, rfl, r⟩
theorem Vals.zero : ∀ {us : List Value}, Vals [] us → us = []
  | _, .nil => rfl
theorem Vals.eraseIdx : ∀ {xs : List V} {us : List Value} (i : Nat), Vals xs us → Vals (xs.eraseIdx i) (us.eraseIdx i)
  | _, _, _, .nil => .nil
  | _, _, 0, .cons _ t => t
  | _, _, i + 1, .cons r t => .cons r (Vals.eraseIdx i t)
theorem Vals.reverse {xs : List V} {us : List Value} (h : Vals xs us) : Vals xs.reverse us.reverse := by
  induction h with
  | nil => exact .nil
  | cons r t ih => rw [List.reverse_cons, List.reverse_cons]; exact Vals.append ih (.cons r .nil)
theorem Vals.rep {xs : List V} {us : List Value} (h : Vals xs us) : ∀ k : Nat, Vals (List.replicate k xs).flatten (List.replicate k us).flatten
  | 0 => .nil
  | k + 1 => by
    rw [List.replicate_succ, List.replicate_succ, List.flatten_cons, List.flatten_cons]
    exact Vals.append h (Vals.rep h k)
theorem len_erase {α : Type} : ∀ (l : List α) (i : Nat), (l.eraseIdx i).length ≤ l.length
  | [], _ => Nat.le_refl _
  | _ :: _, 0 => Nat.le_succ _
  | _ :: r, i + 1 => Nat.succ_le_succ (len_erase r i)
theorem foldl_rep (its : List Value) : ∀ (k : Nat) (acc : List Value),
    List.foldl (fun x1 x2 => x1 ++ x2) acc.toArray (List.replicate k its.toArray) = (acc ++ (List.replicate k its).flatten).toArray
  | 0, acc => by simp
  | k + 1, acc => by
    have e : acc.toArray ++ its.toArray = (acc ++ its).toArray := by simp
    have e2 : (acc ++ its) ++ (List.replicate k its).flatten = acc ++ (List.replicate (k + 1) its).flatten := by
      rw [List.replicate_succ, List.flatten_cons, List.append_assoc]
    rw [← e2, ← foldl_rep its k (acc ++ its), ← e, List.replicate_succ, List.foldl_cons]
section
variable {X : Cx} {pins : List (Addr × Obj)} {σ : St} {H : Hp} {s : Shared} {l b : Addr} {xs ys zs : List V}
theorem Inv.lset {its its' : List Value} {n : Nat} {f : Array Value → Array Value} {t' : Nat} (I : Inv X pins σ H s) (hH : H l = some (.lst xs))
    (e : s.heap.get? l = some { cls := .type "list", data := .seq its.toArray n }) (hf : f its.toArray = its'.toArray) (hv : Vals ys its') (hz : ys.length ≤ sizeLine) :
    Inv X pins σ (upd H l (.lst ys)) { s with heap := s.heap.update l (Obj.mapSeq f), toks := t' } := by
  have q := PySem.IsL.update e f
  rw [hf] at q
  refine I.write (x := l) (e := l) (by rw [hH]; exact trivial) (.inl rfl) (fun b' u hb hu => (Heap.get?_update_other s.heap (Obj.mapSeq f) (Ne.symm hb)).trans hu) ⟨_, q⟩ ?_
  exact ⟨hz, its', _, hv, q⟩
theorem Inv.lnew {its : List Value} {t' : Nat} (I : Inv X pins σ H s) (hv : Vals ys its) (hz : ys.length ≤ sizeLine) :
    Inv X pins σ (upd H s.heap.objs.size (.lst ys)) { s with heap := s.heap.push { cls := .type "list", data := .seq its.toArray }, toks := t' } :=
  I.laid (fun _ _ q => Heap.get?_push_of_some _ q) (Nat.le_refl _) ⟨hz, its, 0, hv, Heap.get?_push_size _ rfl⟩
theorem Inv.fresh (I : Inv X pins σ H s) : H s.heap.objs.size = none := I.hok.fresh (Nat.le_refl _)
theorem Inv.lstM (I : Inv X pins σ H s) (hH : H l = some (.lst xs)) : xs.length ≤ sizeLine ∧ ∃ (its : List Value) (n : Nat), Vals xs its ∧ xs.length = its.length ∧ s.heap.get? l = some { cls := .type "list", data := .seq its.toArray n } := by
  obtain ⟨z, its, n, r, e⟩ := I.hok l _ hH
  exact ⟨z, its, n, r, r.length, e⟩
end
section
variable {X : Cx}
def rAppend : V → List V → Hp → VK → Prop := fun x vs H Q => ∃ l xs y, x = .ref l ∧ vs = [y] ∧ H l = some (.lst xs) ∧ xs.length < sizeLine ∧ Q .non (upd H l (.lst (xs ++ [y])))
theorem mt_append : MtM X "list.append" rAppend := by
  intro pins s σ H x vs v us Q I rx rv h
  obtain ⟨l, xs, y, rfl, rfl, hH, hz, q⟩ := h
  cases rx
  obtain ⟨u, rfl, ru⟩ := rv.one
  obtain ⟨z, its, n, r, hl, e⟩ := I.lstM hH
  refine call_meets F.slot_list_append ⟨_, e, rfl⟩ F.entry_list_append (F.args_list_append_2 _ _) (PySem.list_append l its.toArray n u (by rw [List.size_toArray]; lia)) ⟨e, ?_⟩
  refine ⟨.non, _, I.lset (its' := its ++ [u]) hH e (by simp) (r.append (.cons ru .nil)) ?_, rfl, q⟩
  rw [List.length_append, List.length_singleton]
  lia
def rPopAt : V → List V → Hp → VK → Prop := fun x vs H Q => ∃ l xs i k y, x = .ref l ∧ vs = [.int i] ∧ H l = some (.lst xs) ∧ -(2 ^ 63) ≤ i ∧ i < 2 ^ 63 ∧ seqIndex? i xs.length = some k ∧ xs[k]? = some y ∧ Q y (upd H l (.lst (xs.eraseIdx k)))
theorem mt_popAt : MtM X "list.pop" rPopAt := by
  intro pins s σ H x vs v us Q I rx rv h
  obtain ⟨l, xs, i, k, y, rfl, rfl, hH, h1, h2, hk, hy, q⟩ := h
  cases rx
  obtain ⟨u, rfl, ru⟩ := rv.one
  obtain ⟨t, rfl⟩ := ru
  obtain ⟨z, its, n, r, hl, e⟩ := I.lstM hH
  obtain ⟨w, hw, rw'⟩ := r.get hy
  refine call_meets F.slot_list_pop ⟨_, e, rfl⟩ F.entry_list_pop (F.args_list_pop_2 _ _)
    (MeetsSeq.list_pop_at l its.toArray n i t k w (fitsIndex_both h1 h2) (by rw [List.size_toArray, ← hl]; exact hk) (by rw [← Array.getElem?_toList]; exact hw) (by rw [List.size_toArray]; lia)) ⟨e, ?_⟩
  refine ⟨y, _, I.lset (its' := its.eraseIdx k) hH e ?_ (r.eraseIdx k) ?_, rw', q⟩
  · show its.toArray.eraseIdxIfInBounds k = (its.eraseIdx k).toArray
    rw [List.eraseIdxIfInBounds_toArray]
  · have := len_erase xs k
    lia
def rClear : V → List V → Hp → VK → Prop := fun x vs H Q => ∃ l xs, x = .ref l ∧ vs = [] ∧ H l = some (.lst xs) ∧ Q .non (upd H l (.lst []))
theorem mt_clear : MtM X "list.clear" rClear := by
  intro pins s σ H x vs v us Q I rx rv h
  obtain ⟨l, xs, rfl, rfl, hH, q⟩ := h
  cases rx
  have hus := rv.zero
  subst hus
  obtain ⟨z, its, n, r, hl, e⟩ := I.lstM hH
  refine call_meets F.slot_list_clear ⟨_, e, rfl⟩ F.entry_list_clear (F.args_list_clear_1 _) (AutoSeq1.list_clear_list_0 l its.toArray n (by rw [List.size_toArray]; lia)) ⟨e, ?_⟩
  exact ⟨.non, _, I.lset (its' := []) (ys := []) hH e rfl .nil (Nat.zero_le _), rfl, q⟩
def rCat : R2 := fun x y H Q => ∃ l b xs zs, x = .ref l ∧ y = .ref b ∧ H l = some (.lst xs) ∧ H b = some (.lst zs) ∧ xs.length + zs.length ≤ sizeLine ∧ ∀ p, H p = none → Q (.ref p) (upd H p (.lst (xs ++ zs)))
theorem op_cat : OpR X (binaryOp .Add) rCat := by
  intro pins s σ H x y v u Q I rx ry h
  obtain ⟨l, b, xs, zs, rfl, rfl, hH, hB, hz, q⟩ := h
  cases rx
  cases ry
  obtain ⟨z, its, n, r, hl, e⟩ := I.lstM hH
  obtain ⟨z2, its2, n2, r2, hl2, e2⟩ := I.lstM hB
  refine PySem.P.add_list e e2 ?_ (by rw [List.size_toArray, List.size_toArray]; lia)
  have ea : its.toArray ++ its2.toArray = (its ++ its2).toArray := by simp
  rw [ea]
  exact ⟨.ref _, _, I.lnew (t' := s.toks) (r.append r2) (by rw [List.length_append]; lia), rfl, q _ I.fresh⟩
theorem len_rep {α : Type} (xs : List α) (k : Nat) : (List.replicate k xs).flatten.length = k * xs.length := by
  induction k with
  | zero => simp
  | succ k ih => rw [List.replicate_succ, List.flatten_cons, List.length_append, ih, Nat.succ_mul, Nat.add_comm]
end
section
variable {prog : Program} {w : World} {A : Around} {E : Value → Shared → Prop} {s : Shared}
set_option maxRecDepth 100000 in
end
section
variable {X : Cx}
end
end L2
namespace Att
open PySem PySem.W PySem.Calls PyProof.Rows
theorem ints_of_wellAll {P : Params} {h : Heap} : ∀ (ns : List Int) (vs : List Value), WellAll P h vs (ns.map WData.int) → IntsAre vs ns := by
  intro ns
  induction ns with
  | nil =>
    intro vs w
    rw [List.map_nil] at w
    cases w
    exact .nil
  | cons n ns ih =>
    intro vs w
    rw [List.map_cons] at w
    cases w with
    | cons a b =>
      cases a
      exact .cons _ _ (ih _ b)
theorem script_of {l : OpenLaw} {n : Nat} (hn : l.most = some n) {P : Params} {h : Heap} {args : List WData} {vals : List Value}
    (hpre : l.row.toRowW.claim.pre args = true) (hwl : WellAll P h vals args) :
    ∃ a vs ns, vals = [Value.ref a] ∧ args = [WData.list (ns.map WData.int)] ∧ h.get? a = some { cls := .type "list", data := .seq vs.toArray } ∧ IntsAre vs ns ∧ ns.length ≤ n := by
  have hsh : WShape.hasAll [] args [.list .int] = true := (pre_splitW hpre).1
  have hc : l.pre.holds [] { args := args } = true := (pre_splitW hpre).2
  obtain ⟨d, r, rfl, h1, h2⟩ := hasAllW_cons hsh
  obtain rfl := hasAllW_nil h2
  obtain ⟨xs, rfl, h3⟩ := hasW_list h1
  obtain ⟨ns, rfl⟩ := items_int h3
  have hlen : ns.length ≤ n := by
    unfold OpenLaw.pre at hc
    have h4 : (WTm.not (.lt (.lit (.int (n : Int))) (.len (.arg 0)))).holds [] { args := [.list (ns.map .int)] } = true := by
      have h4 := (holds_andW hc).1
      rw [hn] at h4
      exact h4
    have h5 := condW_of h4 (w_not (w_lt w_lit (w_len_list (w_arg rfl))))
    rw [List.length_map] at h5
    refine Nat.le_of_not_lt fun q => ?_
    have q' : (n : Int) < ((ns.length : Nat) : Int) := by lia
    first
      | (rw [decide_eq_true q'] at h5; exact absurd h5 (by decide))
      | (simp at h5; lia)
  cases hwl with
  | cons w1 w2 =>
    cases w2
    cases w1 with
    | list ho hall => exact ⟨_, _, ns, rfl, rfl, ho, ints_of_wellAll ns _ hall, hlen⟩
theorem post_true (l : OpenLaw) (args : List WData) : l.row.toRowW.claim.post args (.bool true) args = true :=
  postW_of (r := l.row.toRowW) (X := (true == true))
    (show WShape.has [] (.bool true) .bool = true by first | rfl | decide | simp [WShape.has, WShape.arms, WShape.armsAll])
    (show (WTm.eq .res (.lit (.bool true))).value [] { args := args, res := some (.bool true), after := args } = some (.bool (true == true)) from w_eq_bool (w_res rfl) w_lit) rfl
theorem attach_call {l : OpenLaw} {n : Nat} {q : Program} {loose : List Str} {XP : (Str → Option Value) → Heap → Prop} {YP : World → Heap → Prop} {d : DefRec}
    (hn : l.most = some n) (hdf : d.params.defaults = [])
    (call : ∀ (w : World) (s₀ s₁ : Shared) (mg mb : Str → Option Value) (fa : Addr) (o : Obj) (pm cd doc : Value) (a : Addr) (vs : List Value) (ns : List Int),
      Ground q loose [] XP w s₀ mg mb s₁.heap → YP w s₁.heap →
      s₁.heap.get? fa = some o → o.data = .func (docDef d.name d.params d.body d.scope pm cd doc) → s₁.heap.CodeRec cd d.name → mg d.name = some (.ref fa) →
      s₁.heap.get? a = some { cls := .type "list", data := .seq vs.toArray } → IntsAre vs ns → ns.length ≤ n → s₁.gens = #[] →
      codeAny (model l.prog w) callerA (.call (.ref fa) ⟨[.ref a], []⟩) (fun r s' => r = .ok (.ret (.bool true)) ∧ OldK s₁.heap s'.heap ∧ s'.os = s₁.os ∧ AllBare s'.gens) s₁) :
    WalkO q loose XP YP l.row.toRowW d [] (fun f vs => PySem.call f vs) := by
  intro w s₀ s₁ mg mb G Y fa o pm cd doc dV kV ho hd hcd hD hmg hg args vals as hpre hlay hrd hwl hlo
  obtain rfl : dV = .none := Dflts.none hD hdf
  obtain rfl : kV = .none := Dflts.noKw hD
  obtain ⟨a, vs, ns, rfl, rfl, hobj, hints, hlen⟩ := script_of hn hpre hwl
  refine enter_call (codeAny_mono (call w s₀ s₁ mg mb fa o pm cd doc a vs ns G Y ho (fd_plain hd) hcd hmg hobj hints hlen hg) fun r s' hq => ?_)
  obtain ⟨rfl, h2, h3, h4⟩ := hq
  exact ⟨.inl ⟨.bool true, .bool true, [], rfl, fun _ => rfl, .bool true, post_true l _, fun _ => ⟨List.Pairwise.nil, fun _ hm => (nomatch hm)⟩⟩, h2, h3, h4⟩
section
variable {prog : Program} {w : World} {A : Around} {E : Value → Shared → Prop} {s : Shared} {K : Frag}
end
end Att
namespace L2
open PySem PySem.Spec PyProof.Rows
theorem vals_ints : ∀ {vs : List Value} {ns : List Int}, IntsAre vs ns → Vals (ns.map V.int) vs
  | _, _, .nil => .nil
  | _, _, .cons n t h => .cons ⟨t, rfl⟩ (vals_ints h)
def Only (H : Hp) : Prop := ∀ b, H b = none ∨ ∃ o xs, H b = some (.frz o (.lst xs))
theorem law_call {P : Program} {w : World} {K : PySem.W.Frag} {mg mb : Str → Option Value} {CX : CXT} {k : Nat} {fa a : Addr} {fd : FuncData} {x : Str} {sp : Sp} {s₁ : Shared} {vs : List Value} {ns : List Int}
    (KX : K.In s₁.heap) (hns : s₁.heap.Ns mainGlobals mg) (hb : s₁.heap.Ns builtinsNs mb) (hbb : ∀ x : Str, x ≠ "__name__" → mb x = bootBuiltins x) (hlim : s₁.heap.NoLimit) (hg : s₁.gens = #[])
    (ha : s₁.heap.get? a = some { cls := .type "list", data := .seq vs.toArray }) (hi : IntsAre vs ns) (hl : ns.length ≤ sizeLine) (hr : Room k callerA)
    (F : ∀ base : Heap, K.In base → base.Ns mainGlobals mg → FnOk P w K mg base CX k fa fd [x] sp) (hbind : ∀ (s : Shared) (u : Value), BindsTo s fd ⟨[u], []⟩ [(x, u)])
    (hsp : ∀ H : Hp, Only H → SqL K H a (ns.map V.int) → sp [.ref a] H (fun v _ => v = .bl true) fun _ _ _ => False)
    (hCX : ∀ H e s', CX [] H s₁ (fun _ _ _ => False) e s' → False) :
    codeAny (model P w) callerA (.call (.ref fa) ⟨[.ref a], []⟩) (fun r s' => r = .ok (.ret (.bool true)) ∧ OldK s₁.heap s'.heap ∧ s'.os = s₁.os ∧ AllBare s'.gens) s₁ := by
  have rv := vals_ints hi
  have lenV := hi.length
  have core : ∀ H : Hp, Only H → SqL K H a (ns.map V.int) → HOk P w H s₁.heap → (∀ b, H b ≠ none → b = a) → (H a ≠ none → K.lookup a = none) →
      codeAny (model P w) callerA (.call (.ref fa) ⟨[.ref a], []⟩) (fun r s' => r = .ok (.ret (.bool true)) ∧ OldK s₁.heap s'.heap ∧ s'.os = s₁.os ∧ AllBare s'.gens) s₁ := by
    intro H hO hS hok hA hK
    have base_of : ∀ {b : Addr} {o : Obj}, s₁.heap.get? b = some o → H b = none → (hidT s₁.heap H).get? b = some o := fun e n => hidT_get e n
    have noA : ∀ {b : Addr} {o : Obj} {es : Array DictEntry} {ep : Nat}, s₁.heap.get? b = some o → o.data = .dict es ep → H b = none := fun {b o es ep} e d => by
      cases q : H b with
      | none => rfl
      | some u =>
        have e' : b = a := hA b (by rw [q]; simp)
        subst e'
        rw [ha] at e; cases e
        have d' : Data.seq vs.toArray _ = Data.dict es ep := d
        cases d'
    have nsK : ∀ {b : Addr} {m : Str → Option Value}, s₁.heap.Ns b m → (hidT s₁.heap H).Ns b m := fun {b m} ⟨o, es, ep, e, d, r⟩ => ⟨o, es, ep, base_of e (noA e d), d, r⟩
    have hKb : K.In (hidT s₁.heap H) := fun b o e => base_of (KX b o e) (by
      cases q : H b with
      | none => rfl
      | some u =>
        have e' : b = a := hA b (by rw [q]; simp)
        subst e'
        rw [hK (by rw [q]; simp)] at e; cases e)
    have hM : Mod K mg (hidT s₁.heap H) := ⟨hKb, nsK hns, ⟨mb, nsK hb, hbb⟩, let ⟨mc, h1, h2⟩ := hlim; ⟨mc, nsK h1, h2⟩⟩
    have e0 : Env0 P w K mg (hidT s₁.heap H) callerA [] s₁ H := ⟨rfl, hM, fun b o e => of_hidT e, Nat.le_of_eq (hidT_size _ _), trivial, fun b hb => absurd (show b ∈ ([] : List Addr) from hb) (by simp), hok, .of_eq hg⟩
    refine codeAny_mono ((F _ hKb (nsK hns)).run callerA [] s₁ H ⟨[.ref a], []⟩ [.ref a] [.ref a] _ _ hr e0 (hbind s₁ (.ref a)) (.cons rfl .nil) (hsp H hO hS)) fun r s' h => ?_
    cases r with
    | error e => exact (hCX H e s' h).elim
    | ok fl =>
      cases fl with
      | next => exact False.elim h
      | brk => exact False.elim h
      | cont => exact False.elim h
      | ret u =>
        obtain ⟨v, H', os, bare, un, hok', r', q⟩ := h
        have q' : v = .bl true := q
        subst q'
        obtain rfl : u = Value.bool true := r'
        refine ⟨rfl, OldK.of_keep fun b o e => ?_, os, bare⟩
        cases q : H b with
        | none => exact un.keep b o e q (by intro z; exact absurd (show b ∈ ([] : List Addr) from z) (by simp)) (by simp)
        | some u =>
          rcases hO b with z | ⟨ob, xs, z⟩
          · rw [q] at z; cases z
          · have z2 := un.frzs b ob _ z
            obtain ⟨e1, _⟩ := hok b _ z
            obtain ⟨e2, _⟩ := hok' b _ z2
            rw [e] at e1; cases e1
            exact e2
  cases hk : K.lookup a with
  | some o =>
    have e := KX a o hk
    rw [ha] at e
    cases e
    refine core (fun _ => none) (fun _ => .inl rfl) (.inr ⟨_, vs.toArray, _, hk, rfl, rfl, rfl, by rw [List.size_toArray, lenV]; exact hl, by simpa using rv⟩) (fun b u z => by have z' : (none : Option HO) = some u := z; cases z') (fun b z => absurd rfl z) fun z => absurd rfl z
  | none =>
    refine core (fun b => if b = a then some (.frz { cls := .type "list", data := .seq vs.toArray } (.lst (ns.map V.int))) else none) (fun b => ?_) (.inl (.inr ⟨{ cls := .type "list", data := .seq vs.toArray }, if_pos rfl⟩)) (fun b u z => ?_) (fun b z => ?_) fun _ => hk
    · by_cases hb : b = a
      · exact .inr ⟨_, _, if_pos hb⟩
      · exact .inl (if_neg hb)
    · by_cases hb : b = a
      · have z' := (if_pos hb).symm.trans z
        cases z'
        subst hb
        exact ⟨ha, by rw [List.length_map]; exact hl, vs, _, rv, ha⟩
      · have z' := (if_neg hb).symm.trans z
        cases z'
    · by_cases hb : b = a
      · exact hb
      · exact absurd (if_neg hb) z
end L2
namespace L2
open PySem PySem.Spec PyProof.Rows
theorem walk_of {l : PySem.W.OpenLaw} {n k : Nat} {q : Program} {loose : List Str} {XP : (Str → Option Value) → Heap → Prop} {YP : World → Heap → Prop} {d : DefRec} {K : Params → PySem.W.Frag} {CX : World → CXT} {sp : World → Sp} {x : Str}
    (hn : l.most = some n) (hn2 : n ≤ sizeLine) (hdf : d.params.defaults = []) (hr : Room k callerA)
    (hY : ∀ (w : World) (h : Heap), YP w h → (K w.params).In h)
    (F : ∀ (w : World) (mg : Str → Option Value) (fa : Addr) (h : Heap), (K w.params).In h → h.Ns mainGlobals mg → mg d.name = some (.ref fa) →
      ∃ fd : FuncData, (∀ (s : Shared) (u : Value), BindsTo s fd ⟨[u], []⟩ [(x, u)]) ∧
        ∀ base : Heap, (K w.params).In base → base.Ns mainGlobals mg → FnOk l.prog w (K w.params) mg base (CX w) k fa fd [x] (sp w))
    (hsp : ∀ (w : World) (H : Hp) (a : Addr) (ns : List Int), ns.length ≤ n → Only H → SqL (K w.params) H a (ns.map V.int) → sp w [.ref a] H (fun v _ => v = .bl true) fun _ _ _ => False)
    (hCX : ∀ (w : World) (H : Hp) (s : Shared) (e : Value) (s' : Shared), CX w [] H s (fun _ _ _ => False) e s' → False) :
    PySem.W.WalkO q loose XP YP l.row.toRowW d [] (fun f vs => PySem.call f vs) := by
  refine Att.attach_call hn hdf fun w s₀ s₁ mg mb fa o pm cd doc a vs ns G Y ho hd hcd hmg hobj hints hlen hg => ?_
  have KX := hY w _ Y
  obtain ⟨fd, hb, hF⟩ := F w mg fa _ KX G.T.g hmg
  exact law_call KX G.T.g G.T.b G.T.builtins G.T.nolimit hg hobj hints (Nat.le_trans hlen hn2) hr hF hb (fun H hO hS => hsp w H a ns hlen hO hS) fun H e s' => hCX w H s₁ e s'
end L2
/- THE LAST THEOREM (shape; LID, My.* are yours):
   My.Adr: a structure of the addresses that your layer names (classes, functions); My.Txt K t: a structure (Prop) of the equations over K;
   My.txt_mk : {K} {implicit addresses ..} (e1 : nsIn K mainGlobals "law" = some (some (.ref f))) (e2 : K.lookup f = some ⟨oc, od, .func (fnOf "law" "law" params body scope dV kV doc pm an cdv ct), sl⟩) (e3 : codeIn K cdv "law" = true) .. : ∃ t, My.Txt K t
set_option maxRecDepth 100000 in
set_option maxHeartbeats 0 in
theorem PySem.Challenge.cw_LID_holds : PySem.Challenge.rw_LID.Holds := by
  w_on; o_law; k_head; (case hw => w_witness2)
  k_fill
  refine L2.walk_of (l := PySem.Challenge.rw_LID) (n := 63) (k := 40) (x := "script") (CX := fun w => ..) (sp := fun _ => My.sp_law) rfl (by decide) rfl ⟨rfl, by decide, by decide⟩ (fun w h Y => PySem.W.kIn_of Y) ?F ?S ?C
  case F =>
    intro w mg fa h KX G hmg
    have T : ∃ t, My.Txt (L2.KOf KX) t := by
      dsimp only [L2.KOf]                          -- K must stand as «<heap const> w.params» for k_is
      refine' My.txt_mk ?e1 ?e2 ?e3 ..
      (case e1 => PySem.W.k_is)                    -- in the order: a name -> its address -> its object -> its parts
      (case e2 => PySem.W.k_is)
      ..
    obtain ⟨t, T⟩ := T
    have e0 := hmg.symm.trans (PySem.W.mg_of KX G T.law)
    cases e0                                       -- fa is the law's own address
    exact ⟨_, fun s u => .of_eq rfl, fun base kb nb => My.law_fn T kb nb⟩     -- if «.of_eq rfl» comes too early: refine' ⟨_, ?b, fun base kb nb => My.law_fn T kb nb⟩; exact fun s u => .of_eq rfl
  case S => exact fun w H a ns hl hO hS => ..
  case C => exact ..
(the tactic k_is has no namespace: write k_is) -/
namespace L2
open PySem PySem.Spec PyProof.Rows
def defArgs (s : Stmt) : Arguments := match s with
  | .FunctionDef _ a _ _ _ _ _ _ _ _ => a
  | _ => { posonlyargs := [], args := [], vararg := none, kwonlyargs := [], kw_defaults := [], kwarg := none, defaults := [] }
def defBody (s : Stmt) : List Stmt := match s with
  | .FunctionDef _ _ b _ _ _ _ _ _ _ => b
  | _ => []
def defScope (s : Stmt) : Scope := match s with
  | .FunctionDef _ _ _ _ _ _ sc _ _ _ => sc
  | _ => { kind := .function, names := [], isGenerator := false, isCoroutine := false }
abbrev CX0 : CXT := fun _ _ _ _ _ _ => False
abbrev E0 : XK := fun _ _ _ => False
theorem pass0 {X : Cx} : Passes CX0 X E0 := fun _ _ _ _ _ _ _ h => h.elim
structure Fun (K : PySem.W.Frag) (x qual : Str) (st : Stmt) (f : Addr) (fd : FuncData) : Prop where
  ex : ∃ (oc : Value) (od : Option Addr) (kV doc pm : Value) (an : Option Addr) (cdv ct : Value) (osl : Array (Option Value)),
    fd = PySem.W.fnOf x qual (defArgs st) (defBody st) (defScope st) .none kV doc pm an cdv ct ∧ K.lookup f = some ⟨oc, od, .func fd, osl⟩ ∧ PySem.W.codeIn K cdv qual = true
  kp : PySem.W.keepIn K (.ref f) = true
section
variable {P : Program} {w : World} {K : PySem.W.Frag} {mg : Str → Option Value} {base : Heap}
theorem Fun.ok {x qual : Str} {st : Stmt} {f : Addr} {fd : FuncData} {N ps : List Str} {k : Nat} {sp : Sp} (F : Fun K x qual st f fd) (S : FnScope N ps (defScope st)) (len : ∀ vs H Q E, sp vs H Q E → vs.length = ps.length)
    (hbody : ∀ (cdv : Value) (A : Around) (outer : List Env) (s : Shared) (H : Hp) (vs : List V) (Q : VK) (E : XK), Room k (A.deeper (envOfC qual (defScope st) s.heap.objs.size f cdv)) → sp vs H Q E →
      ∃ t, PSs (cxOf CX0 P w K mg base N qual (defScope st) f cdv A outer s H E).nox (defBody st) t ∧ t { nx := fun _ H' => Q .non H', rt := Q } (start N vs) H) : FnOk P w K mg base CX0 (k + 1) f fd ps sp := by
  obtain ⟨oc, od, kV, doc, pm, an, cdv, ct, osl, rfl, lk, hcd⟩ := F.ex
  refine fn_of lk hcd S len fun A outer s H vs Q E hr hsp => ?_
  obtain ⟨t, h, q⟩ := hbody cdv A outer s H vs Q E hr hsp
  exact ⟨t, h.nox, q⟩
theorem Fun.binds {x qual : Str} {st : Stmt} {f : Addr} {fd : FuncData} {ps : List Str} (F : Fun K x qual st f fd)
    (h : ∀ (kV doc pm : Value) (an : Option Addr) (cdv ct : Value) (us : List Value), us.length = ps.length → bindArgs (PySem.W.fnOf x qual (defArgs st) (defBody st) (defScope st) .none kV doc pm an cdv ct) ⟨us, []⟩ = pure (ps.zip us)) : Binds K fd ps [] := by
  obtain ⟨oc, od, kV, doc, pm, an, cdv, ct, osl, rfl, lk, hcd⟩ := F.ex
  exact .all (h kV doc pm an cdv ct)
theorem fun_mk {x qual : Str} {st : Stmt} {f : Addr} {oc : Value} {od an : Option Addr} {osl : Array (Option Value)} {kV doc pm cdv ct : Value} (l : K.lookup f = some ⟨oc, od, .func (PySem.W.fnOf x qual (defArgs st) (defBody st) (defScope st) .none kV doc pm an cdv ct), osl⟩)
    (c : PySem.W.codeIn K cdv qual = true) (k : PySem.W.keepIn K (.ref f) = true) : Fun K x qual st f (PySem.W.fnOf x qual (defArgs st) (defBody st) (defScope st) .none kV doc pm an cdv ct) := ⟨⟨oc, od, kV, doc, pm, an, cdv, ct, osl, rfl, l, c⟩, k⟩
end
theorem hu_of {A : Around} {k : Nat} (hr : Room k A) : A.units + 1 < cLine := Nat.lt_of_le_of_lt (Nat.add_le_add_left (by decide : 1 ≤ 64) _) hr.units
section
variable {X : Cx}
theorem pv (i : Nat) {x : Str} {pos : Pos} (hN : X.N[i]? = some x := by rfl) (hv : Vis X.env.scope x := by first | exact Or.inl rfl | exact Or.inr (Or.inl rfl) | exact Or.inr (Or.inr rfl)) (hd : (x == ("__debug__" : Str)) = false := by decide)
    (hcd : (x == ("__classdict__" : Str)) = false := by decide) : PE X (.Name x pos) (tVar i) := pe_var hN hv hd hcd
end
theorem iteF {A B : Prop} (h : B) : if false = true then A else B := by
  rw [if_neg Bool.false_ne_true]
  exact h
theorem iteT {A B : Prop} (h : A) : if true = true then A else B := by
  rw [if_pos rfl]
  exact h
def Same (H H' : Hp) : Prop := ∀ b o, H b = some o → H' b = some o
theorem Same.refl (H : Hp) : Same H H := fun _ _ h => h
theorem Same.trans {H H1 H2 : Hp} (a : Same H H1) (b : Same H1 H2) : Same H H2 := fun c o h => b c o (a c o h)
end L2
end
section
set_option Elab.async false
set_option linter.all false
set_option maxRecDepth 100000
set_option maxHeartbeats 4000000
namespace L2
open PySem PySem.Spec PyProof.Rows
section
variable {prog : Program} {w : World} {A : Around} {R : Result → Shared → Prop} {s : Shared}
theorem compLoop_own {elt target iter : Expr} {ifs : List Expr} {scope : Scope} {pos : Pos} {it acc : Value} {env : Env} (I : Nat → Shared → Prop)
    (turn : ∀ n s, I n s → wpAny (model prog w) A (pyNext it) (fun r s₁ => match r with
      | none => R (.ok .next) s₁
      | some v => wpAny (model prog w) A (letOwnedTupleGo target it v) (fun _ s₁ => wpAny (model prog w) A (assign target env v) (fun _ s₂ =>
          wpAny (model prog w) A (forIn ifs true fun c r => if r = true then do let ok ← isTrue c env (eval c env); pure (ForInStep.yield ok) else pure (ForInStep.yield r)) (fun ok s₃ =>
            if ok = true then wpAny (model prog w) A (eval elt env) (fun x s₄ =>
              wpAny (model prog w) A (call (.builtin "list.append") [acc, x]) (fun _ s₅ => ∃ m, m < n ∧ I m s₅) (fun _ _ => False) s₄) (fun _ _ => False) s₃
            else ∃ m, m < n ∧ I m s₃) (fun _ _ => False) s₂) (fun _ _ => False) s₁) (fun _ _ => False) s₁) (fun _ _ => False) s)
    (n : Nat) (h : I n s) :
    codeAny (model prog w) A (.compLoop (.ListComp elt [⟨target, iter, ifs, 0⟩] scope pos) 0 it acc env) R s := by
  refine codeAny_loop rfl I (fun n s hI => ?_) n h
  show wpAny _ A ((compTurn (.ListComp elt [⟨target, iter, ifs, 0⟩] scope pos) 0 it acc env).onRaise (fun x => do noteFrame x env; theTreesLotGoes x)) _ _ s
  refine wpAny_noted ?_
  rw [compTurn_list]
  refine wpAny_bind (wpAny_standAt (wpAny_bind (wpAny_mono (turn n s hI) (fun r s₁ h₁ => ?_) fun _ _ h' => h'.elim)))
  cases r with
  | none => exact wpAny_pure h₁
  | some v =>
    refine wpAny_bind (wpAny_mono h₁ (fun _ s₁' h₁' => ?_) fun _ _ h' => h'.elim)
    refine wpAny_bind (wpAny_mono h₁' (fun _ s₂ h₂ => wpAny_bind (wpAny_mono h₂ (fun ok s₃ h₃ => ?_) fun _ _ h' => h'.elim)) fun _ _ h' => h'.elim)
    cases ok with
    | false => exact wpAny_pure ⟨rfl, h₃⟩
    | true =>
      exact wpAny_bind (wpAny_bind (wpAny_mono h₃ (fun x s₄ h₄ => wpAny_bind (wpAny_mono h₄ (fun _ s₅ h₅ => wpAny_pure (wpAny_pure ⟨rfl, h₅⟩)) fun _ _ h' => h'.elim)) fun _ _ h' => h'.elim))
end
theorem closure_go {env : Env} {f : Str × NameKind → List (Str × Addr) → Sem (ForInStep (List (Str × Addr)))}
    (hf : ∀ n k cs, f (n, k) cs = if (k == NameKind.free) = true then (do let c ← cellOf env n; pure (.yield ((n, c) :: cs))) else pure (.yield cs)) :
    ∀ (names : List (Str × NameKind)) (cs : List (Str × Addr)), (∀ x ∈ names, x.2 = NameKind.free → ∃ c, env.cells.lookup x.1 = some c) → (∀ n c, cs.lookup n = some c → env.cells.lookup n = some c) →
      ∃ cl, (forIn names cs f : Sem (List (Str × Addr))) = pure cl ∧ (∀ n c, cl.lookup n = some c → env.cells.lookup n = some c) ∧ (∀ n, (cs.lookup n).isSome = true → (cl.lookup n).isSome = true) ∧ ∀ x ∈ names, x.2 = NameKind.free → (cl.lookup x.1).isSome = true
  | [], cs, _, h2 => ⟨cs, rfl, h2, fun _ h => h, fun _ h => nomatch h⟩
  | (n, k) :: r, cs, h1, h2 => by
    have h1r : ∀ x ∈ r, x.2 = NameKind.free → ∃ c, env.cells.lookup x.1 = some c := fun x hx => h1 x (List.mem_cons_of_mem _ hx)
    rw [List.forIn_cons, hf]
    by_cases hk : k = NameKind.free
    · subst hk
      obtain ⟨c, hc⟩ := h1 (n, NameKind.free) List.mem_cons_self rfl
      have h2' : ∀ m d, ((n, c) :: cs).lookup m = some d → env.cells.lookup m = some d := fun m d hd => by
        rw [List.lookup_cons] at hd
        cases e : (m == n) with
        | true =>
          rw [e] at hd
          have : m = n := by simpa using e
          rw [this]; cases hd; exact hc
        | false => rw [e] at hd; exact h2 m d hd
      obtain ⟨cl, e1, e2, e3, e4⟩ := closure_go hf r ((n, c) :: cs) h1r h2'
      refine ⟨cl, ?_, e2, fun m hm => e3 m ?_, fun x hx hk => ?_⟩
      · rw [← e1]
        have ec : cellOf env n = pure c := by unfold cellOf; rw [hc]
        rw [ec]
        rfl
      · rw [List.lookup_cons]
        cases e : (m == n) with
        | true => rfl
        | false => exact hm
      · rcases List.mem_cons.mp hx with rfl | hx
        · exact e3 n (by rw [List.lookup_cons, beq_self_eq_true]; rfl)
        · exact e4 x hx hk
    · have hb : (k == NameKind.free) = false := by simpa using hk
      obtain ⟨cl, e1, e2, e3, e4⟩ := closure_go hf r cs h1r h2
      refine ⟨cl, ?_, e2, e3, fun x hx hk' => ?_⟩
      · rw [← e1, hb]
        rfl
      · rcases List.mem_cons.mp hx with rfl | hx
        · exact absurd hk' hk
        · exact e4 x hx hk'
theorem closure_of {scope : Scope} {env : Env} (h1 : ∀ x ∈ scope.names, x.2 = NameKind.free → ∃ c, env.cells.lookup x.1 = some c) :
    ∃ cl, closureFor scope env = pure cl ∧ (∀ n c, cl.lookup n = some c → env.cells.lookup n = some c) ∧ ∀ x ∈ scope.names, x.2 = NameKind.free → (cl.lookup x.1).isSome = true := by
  obtain ⟨cl, e1, e2, _, e4⟩ := closure_go (env := env) (f := fun (x : Str × NameKind) cs => if (x.2 == NameKind.free) = true then (do let c ← cellOf env x.1; pure (.yield ((x.1, c) :: cs))) else pure (.yield cs)) (fun _ _ _ => rfl) scope.names [] h1 (fun _ _ h => nomatch h)
  refine ⟨cl, Eq.trans (show closureFor scope env = ((forIn scope.names ([] : List (Str × Addr)) fun (x : Str × NameKind) cs => if (x.2 == NameKind.free) = true then (do let c ← cellOf env x.1; pure (.yield ((x.1, c) :: cs))) else pure (.yield cs)) >>= fun cs => pure cs) from rfl) ?_, e2, e4⟩
  rw [e1]
  all_goals rfl
theorem lookup_relabel {env : Env} {x : Str} : ∀ (names : List (Str × NameKind)),
    (names.map fun (n, k) => if (k == NameKind.free && env.scope.kind == .function && env.kindOf n == some .cell) then (n, NameKind.cell) else (n, k)).lookup x =
      (names.lookup x).map fun k => if (k == NameKind.free && env.scope.kind == .function && env.kindOf x == some .cell) then NameKind.cell else k
  | [] => rfl
  | (n, k) :: r => by
    have ih := lookup_relabel (env := env) (x := x) r
    show List.lookup x ((if (k == NameKind.free && env.scope.kind == .function && env.kindOf n == some .cell) = true then (n, NameKind.cell) else (n, k)) :: _) = _
    cases hx : x == n with
    | true =>
      have e : x = n := by simpa using hx
      subst e
      by_cases hc : (k == NameKind.free && env.scope.kind == .function && env.kindOf x == some .cell) = true
      · rw [if_pos hc]; simp only [List.lookup_cons, hx, Option.map_some, if_pos hc]
      · rw [if_neg hc]; simp only [List.lookup_cons, hx, Option.map_some, if_neg hc]
    | false =>
      by_cases hc : (k == NameKind.free && env.scope.kind == .function && env.kindOf n == some .cell) = true
      · rw [if_pos hc]; simp only [List.lookup_cons, hx]; exact ih
      · rw [if_neg hc]; simp only [List.lookup_cons, hx]; exact ih
theorem rel_free {scope : Scope} {env : Env} {x : Str} (hcell : ∀ y ∈ scope.names, y.2 ≠ NameKind.cell) (h : (relabel scope env).names.lookup x = some .cell ∨ (relabel scope env).names.lookup x = some .free) : scope.names.lookup x = some .free := by
  have e : (relabel scope env).names.lookup x = _ := lookup_relabel (env := env) (x := x) scope.names
  rw [e] at h
  cases q : scope.names.lookup x with
  | none => rw [q] at h; rcases h with h | h <;> cases h
  | some k =>
    rw [q] at h
    by_cases hk : k = NameKind.free
    · rw [hk]
    · have hb : (k == NameKind.free) = false := by simpa using hk
      simp only [Option.map_some, hb, Bool.false_and, Bool.false_eq_true, if_false] at h
      rcases h with h | h
      · cases h; exact absurd rfl (hcell _ (PySem.mem_of_lookup q))
      · exact h
theorem rel_any {scope : Scope} {env : Env} {x : Str} (h : (relabel scope env).names.lookup x ≠ none) : scope.names.lookup x ≠ none := by
  have e : (relabel scope env).names.lookup x = _ := lookup_relabel (env := env) (x := x) scope.names
  intro q
  rw [e, q] at h
  exact h rfl
structure CompOk (sc : Scope) (N : List Str) (scope : Scope) (NY : List Str) (js : List Nat) : Prop where
  kind : scope.kind = .function
  cell : ∀ y ∈ scope.names, y.2 ≠ NameKind.cell
  names : ∀ x ∈ scope.names, x.2 = NameKind.local → scope.names.lookup x.1 = some .local
  free : ∀ x ∈ scope.names, x.2 = NameKind.free → sc.names.lookup x.1 = some .cell ∨ sc.names.lookup x.1 = some .free
  pre : NY.take N.length = N
  cap : ∀ p ∈ N.zipIdx, js.contains p.2 = true ∨ scope.names.lookup p.1 = none ∨ scope.names.lookup p.1 = some .free
def emS (js : List Nat) (k : Nat) (σ : St) : St := js.foldl (fun s j => s.set j none) σ ++ List.replicate k none
theorem clear_len : ∀ (js : List Nat) (σ : St), (js.foldl (fun s j => s.set j none) σ).length = σ.length
  | [], _ => rfl
  | j :: r, σ => by rw [List.foldl_cons, clear_len r, List.length_set]
theorem clear_get : ∀ (js : List Nat) (σ : St) (i : Nat) (v : V), (js.foldl (fun s j => s.set j none) σ)[i]? = some (some v) → σ[i]? = some (some v) ∧ js.contains i = false
  | [], σ, i, v, h => ⟨h, rfl⟩
  | j :: r, σ, i, v, h => by
    rw [List.foldl_cons] at h
    obtain ⟨h1, h2⟩ := clear_get r _ i v h
    by_cases e : j = i
    · subst e
      by_cases hj : j < σ.length
      · rw [List.getElem?_set_self hj] at h1; cases h1
      · rw [List.getElem?_eq_none (by rw [List.length_set]; lia)] at h1; cases h1
    · rw [List.getElem?_set_ne e] at h1
      refine ⟨h1, ?_⟩
      rw [List.contains_cons, h2]
      have : (i == j) = false := by simpa using fun z => e z.symm
      rw [this]; rfl
theorem emS_get {js : List Nat} {k : Nat} {σ : St} {i : Nat} {v : V} (h : (emS js k σ)[i]? = some (some v)) : σ[i]? = some (some v) ∧ js.contains i = false := by
  unfold emS at h
  by_cases hi : i < σ.length
  · rw [List.getElem?_append_left (by rw [clear_len]; exact hi)] at h
    exact clear_get js σ i v h
  · rw [List.getElem?_append_right (by rw [clear_len]; lia), List.getElem?_replicate] at h
    split at h <;> cases h
theorem emS_len {js : List Nat} {k : Nat} {σ : St} : (emS js k σ).length = σ.length + k := by
  unfold emS
  rw [List.length_append, clear_len, List.length_replicate]
def cxComp (X : Cx) (NY : List Str) (scope : Scope) (cl : List (Str × Addr)) (C : Addr) (s₀ : Shared) (H₀ : Hp) (fp : List Addr) : Cx :=
  { X with N := NY, s₀ := s₀, H₀ := H₀, env := compEnvC scope cl C X.env, outer := X.stack, ex := fp, fn := fun _ => false, pn := [], xe := fun _ _ => False }
def PIfs (X : Cx) (ifs : List Expr) (t : TT) : Prop :=
  ∀ (pins : List (Addr × Obj)) (s : Shared) (σ : St) (H : Hp) (Q : Bool → Hp → Prop), Inv X pins σ H s → t σ H Q →
    wpAny (model X.prog X.w) X.A (forIn ifs true fun c r => if r = true then do let ok ← isTrue c X.env (eval c X.env); pure (ForInStep.yield ok) else pure (ForInStep.yield r)) (TP X pins σ Q) X.xe s
def tYes : TT := fun _ H Q => Q true H
theorem pif_nil {X : Cx} : PIfs X [] tYes := fun _ _ _ H _ I h => wpAny_tests_nil ⟨H, I, h⟩
theorem pif_one {X : Cx} {c : Expr} {t : TT} (h : PT X c t) : PIfs X [c] t := fun pins s σ H Q I q => wpAny_tests_one (h pins s σ H Q I q)
def sApp (D : Addr) (tc : TT) (te : TE) : TS := fun E σ H => tc σ H fun b H1 => if b = true then te σ H1 fun y H2 => ∃ ys, H2 D = some (.lst ys) ∧ ys.length < sizeLine ∧ E.nx σ (upd H2 D (.lst (ys ++ [y]))) else E.nx σ H1
def tComp (js : List Nat) (k : Nat) (wi : TI) (g : TG) (tc : TT) (te : TE) : TE := fun σ H Q => wi σ H fun J H1 => ∀ D, H1 D = none →
  ∃ W : Nat → Nat → St → Hp → Prop, (∃ m, W 0 m (emS js k σ) (upd H1 D (.lst []))) ∧ ∀ i m σ H, W i m σ H →
    (J.stop i H ∧ Q (.ref D) H) ∨ (J.go i H ∧ ∃ N : St → Hp → Prop, (∀ σ' H', N σ' H' → ∃ m', m' < m ∧ W (i + 1) m' σ' H') ∧ ∀ x H', J.yld i H x H' → g x σ H' fun σ2 H2 => sApp D tc te { nx := N, rt := fun _ _ => False, ct := N, bk := fun _ H' => Q (.ref D) H' } σ2 H2)
section
variable {X : Cx} {pins : List (Addr × Obj)} {σ : St} {H2 : Hp} {s₂ : Shared} {N NY : List Str} {sc scope : Scope} {cl : List (Str × Addr)} {C : Addr} {fp : List Addr} {js : List Nat} {k : Nat}
theorem comp_ok (I2 : Inv X pins σ H2 s₂) (hf : ∀ b ∈ fp, FpOk X pins H2 b) (hfl : ∀ b ∈ fp, ∃ o, s₂.heap.get? b = some o) (hkind : scope.kind = .function) (hcell : ∀ y ∈ scope.names, y.2 ≠ NameKind.cell)
    (hcl1 : ∀ n c, cl.lookup n = some c → X.env.cells.lookup n = some c) (hcl2 : ∀ x ∈ scope.names, x.2 = NameKind.free → (cl.lookup x.1).isSome = true) (hC : s₂.heap.objs.size ≤ C) :
    (cxComp X NY scope cl C s₂ H2 fp).Ok where
  mod := I2.ok.mod
  kind := hkind
  glob := I2.ok.glob
  blt := I2.ok.blt
  above := hC
  inj := fun x y c h1 h2 => I2.ok.inj x y c (hcl1 x c h1) (hcl1 y c h2)
  has := fun x hx => by
    have e : scope.names.lookup x = some .free := rel_free (env := X.env) hcell hx
    exact Option.isSome_iff_exists.mp (hcl2 (x, .free) (PySem.mem_of_lookup e) rfl)
  cab := fun _ _ h _ => nomatch h
  hd := I2.ok.hd
  frames := I2.ok.frames
  stk := .inl rfl
  exf := fun b hb => by
    obtain ⟨o, ho⟩ := hfl b hb
    exact ⟨Nat.ne_of_lt (Nat.lt_of_lt_of_le (Heap.lt_size ho) hC), fun x c h => (hf b hb).2.2.2.2.1 x c (hcl1 x c h)⟩
  bs := I2.bs
  bsz := Nat.le_trans I2.ok.bsz I2.sz
  noex := fun b o e hb => by
    rcases (hf b hb).2.2.2.1 with z | z
    · exact I2.ok.noex b o e z
    · exact absurd (Nat.lt_of_lt_of_le (Heap.lt_size e) (Nat.le_trans I2.ok.bsz z)) (Nat.lt_irrefl _)
  exfs := fun b hb z => by
    rcases List.mem_cons.mp (I2.stkSub b z) with e | e
    · exact (hf b hb).2.1 e
    · exact (hf b hb).2.2.1 e
  funs := I2.stack
  frf := I2.stkFree
variable {elt iter target : Expr} {ifs : List Expr} {pos : Pos} {it : Addr} {tn : Nat → Heap → Prop} {J : It} {g : TG} {tc : TT} {te : TE} {Q : VK} {RR : Value → Addr → Result → Shared → Prop} {E : Value → Shared → Prop}
theorem comp_block (ok : CompOk sc N scope NY js) (hsc : X.env.scope = sc) (hN : X.N = N) (hk : NY.length = N.length + k) (hc : X.calm = true) (I2 : Inv X pins σ H2 s₂) (T : Turn X.prog X.w X.K target J fp it tn) (st2 : tn 0 s₂.heap) (f2 : ∀ b ∈ fp, FpOk X pins H2 b)
    (hcl1 : ∀ n c, cl.lookup n = some c → X.env.cells.lookup n = some c) (hcl2 : ∀ x ∈ scope.names, x.2 = NameKind.free → (cl.lookup x.1).isSome = true)
    (hg : ∀ cl C s₀ H₀ fp, PG (cxComp X NY scope cl C s₀ H₀ fp) target g) (hi : ∀ cl C s₀ H₀ fp, PIfs (cxComp X NY scope cl C s₀ H₀ fp) ifs tc) (he : ∀ cl C s₀ H₀ fp, PE (cxComp X NY scope cl C s₀ H₀ fp) elt te)
    (loop : ∀ D, H2 D = none →
      ∃ W : Nat → Nat → St → Hp → Prop, (∃ m, W 0 m (emS js k σ) (upd H2 D (.lst []))) ∧ ∀ i m σ H, W i m σ H →
        (J.stop i H ∧ Q (.ref D) H) ∨ (J.go i H ∧ ∃ N : St → Hp → Prop, (∀ σ' H', N σ' H' → ∃ m', m' < m ∧ W (i + 1) m' σ' H') ∧ ∀ x H', J.yld i H x H' → g x σ H' fun σ2 H2 => sApp D tc te { nx := N, rt := fun _ _ => False, ct := N, bk := fun _ H' => Q (.ref D) H' } σ2 H2))
    (hRR : ∀ D C H' s' m, s'.heap.Ns C m → Inv X pins σ H' s' → H' C = none → C ≠ X.env.locals → X.s₀.heap.objs.size ≤ C → (∀ x c, X.env.cells.lookup x = some c → c ≠ C) → (∀ p ∈ X.pn ++ pins, p.1 ≠ C) → D ≠ C → Q (.ref D) H' → RR (.ref D) C (.ok .next) s') :
    wpAny (model X.prog X.w) X.A (newList []) (fun acc s₃ => wpAny (model X.prog X.w) X.A (newFunctionEnv scope X.env.globals cl [] X.env.qual none .none (some X.env)) (fun cenv s₄ =>
      codeAny (model X.prog X.w) X.A (.compStart (.ListComp elt [⟨target, iter, ifs, 0⟩] scope pos) 0 (.ref it) acc { cenv with scope := relabel scope X.env }) (RR acc cenv.locals) s₄) E s₃) E s₂ := by
  refine wpAny_newObj_type (wpAny_newFunctionEnv ok.cell (by intro y hy; simp at hy) (fun h₁ hns₁ hsb₁ => ?_) ok.kind)
  dsimp only at hns₁ hsb₁ ⊢
  generalize hG : s₂.heap.push { cls := .type "list", dict := none, data := .seq ([] : List Value).toArray } = G at hns₁ hsb₁ ⊢
  have hC : G.objs.size = s₂.heap.objs.size + 1 := by rw [← hG, Heap.size_push]
  have hDC : s₂.heap.objs.size ≠ G.objs.size := by rw [hC]; exact Nat.ne_of_lt (Nat.lt_succ_self _)
  have hCle : s₂.heap.objs.size ≤ G.objs.size := by rw [hC]; exact Nat.le_succ _
  have below : ∀ b, b < s₂.heap.objs.size → b ≠ G.objs.size := fun b hb => by rw [hC]; exact Nat.ne_of_lt (Nat.lt_succ_of_lt hb)
  have old : ∀ b o, s₂.heap.get? b = some o → h₁.get? b = some o := fun b o e => hsb₁.extBut b o (below b (Heap.lt_size e)) (Heap.get?_push_of_some _ (hG ▸ Heap.get?_push_of_some _ e))
  have hacc : h₁.get? s₂.heap.objs.size = some { cls := .type "list", dict := none, data := .seq ([] : List Value).toArray } := hsb₁.extBut _ _ hDC (Heap.get?_push_of_some _ (hG ▸ Heap.get?_push_size _ rfl))
  have hfl : ∀ b ∈ fp, ∃ o, s₂.heap.get? b = some o := fun b hb => let ⟨o, ho, _⟩ := T.obj 0 _ st2 b hb; ⟨o, ho⟩
  have fD : H2 s₂.heap.objs.size = none := I2.hok.fresh (Nat.le_refl _)
  have fC : H2 G.objs.size = none := I2.hok.fresh hCle
  have I4 : Inv (cxComp X NY scope cl G.objs.size s₂ H2 fp) [] (emS js k σ) (upd H2 s₂.heap.objs.size (.lst [])) { s₂ with heap := h₁, toks := s₂.toks + ([] : List (Str × Value)).length } := by
    refine ⟨comp_ok I2 f2 hfl ok.kind ok.cell hcl1 hcl2 hCle, rfl, I2.bare, Un.laid old (Nat.le_refl _) fD, ⟨_, hns₁, fun i y v h1 h2 h3 => ?_⟩, fun x c h => ?_, ?_, fun x c h => ?_, fun p hp => absurd (show p ∈ ([] : List (Addr × Obj)) from hp) (by simp), I2.hok.laid old (Nat.le_refl _) ⟨Nat.zero_le _, [], 0, .nil, hacc⟩, ?_⟩
    · obtain ⟨e1, e2⟩ := emS_get h2
      have hi : i < N.length := by
        have := (List.getElem?_eq_some_iff.mp e1).1
        rw [I2.len, hN] at this; exact this
      have hy : N[i]? = some y := by
        rw [← ok.pre, List.getElem?_take_of_lt hi]; exact h1
      have hz : (y, i) ∈ N.zipIdx := by
        rw [List.mem_zipIdx_iff_getElem?]; exact hy
      have nn : scope.names.lookup y ≠ none := rel_any (env := X.env) (x := y) (by
        rcases h3 with z | z | z
        · intro q; rw [show (relabel scope X.env).names.lookup y = _ from z] at q; cases q
        · intro q; rw [show (relabel scope X.env).names.lookup y = _ from z] at q; cases q
        · intro q; rw [show (relabel scope X.env).names.lookup y = _ from z] at q; cases q)
      have hfr : scope.names.lookup y = some .free := by
        rcases ok.cap (y, i) hz with z | z | z
        · rw [e2] at z; cases z
        · exact absurd z nn
        · exact z
      have hX := ok.free (y, .free) (PySem.mem_of_lookup hfr) rfl
      rw [← hsc] at hX
      obtain ⟨m, hn, hl⟩ := I2.loc
      obtain ⟨u, ru, lk⟩ := hl i y v (by rw [hN]; exact hy) e1 (by
        rcases hX with z | z
        · exact .inr (.inl z)
        · exact .inr (.inr z))
      refine ⟨u, ru, ?_⟩
      rcases lk with ⟨lk, _⟩ | ⟨_, c, hc1, hc2⟩
      · have lk : X.env.scope.names.lookup y = some .local := lk
        rcases hX with z | z <;> · rw [z] at lk; cases lk
      · have hs := hcl2 (y, .free) (PySem.mem_of_lookup hfr) rfl
        obtain ⟨c', hc'⟩ := Option.isSome_iff_exists.mp hs
        have e3 := hcl1 y c' hc'
        rw [hc1] at e3; cases e3
        refine .inr ⟨?_, c, hc', hc2.keeps old⟩
        show (relabel scope X.env).names.lookup y = some .cell ∨ (relabel scope X.env).names.lookup y = some .free
        have e : (relabel scope X.env).names.lookup y = _ := lookup_relabel (env := X.env) (x := y) scope.names
        rw [e, hfr, Option.map_some]
        split
        · exact .inl rfl
        · exact .inr rfl
    · obtain ⟨v, q⟩ := I2.cell x c (hcl1 x c h)
      exact ⟨v, q.keeps old⟩
    · show upd H2 s₂.heap.objs.size (.lst []) G.objs.size = none
      rw [upd_ne (Ne.symm hDC)]; exact fC
    · have q := I2.freeC x c (hcl1 x c h)
      obtain ⟨v, o, ho, _⟩ := I2.cell x c (hcl1 x c h)
      show upd H2 s₂.heap.objs.size (.lst []) c = none
      rw [upd_ne (Nat.ne_of_lt (Heap.lt_size ho))]; exact q
    · show (emS js k σ).length = NY.length
      rw [emS_len, I2.len, hN, hk]
  have st4 : tn 0 h₁ := T.keep _ _ _ st2 fun b _ o e => old b o e
  obtain ⟨W, ⟨m0, w0⟩, turn⟩ := loop s₂.heap.objs.size fD
  have stat : ∀ {H' : Hp}, (∀ b ∈ fp, H' b = none) → ∀ b ∈ fp, FpOk (cxComp X NY scope cl G.objs.size s₂ H2 fp) [] H' b := fun hn b hb => by
    obtain ⟨o, ho⟩ := hfl b hb
    refine ⟨hn b hb, below b (Heap.lt_size ho), fun z => ?_, .inl hb, fun x c h => (f2 b hb).2.2.2.2.1 x c (hcl1 x c h), fun p hp => absurd (show p ∈ ([] : List (Addr × Obj)) from hp) (by simp)⟩
    rcases List.mem_cons.mp (I2.stkSub b z) with e | e
    · exact (f2 b hb).2.1 e
    · exact (f2 b hb).2.2.1 e
  have go : ∀ s₄ : Shared, s₄ = { s₂ with heap := h₁, toks := s₂.toks + ([] : List (Str × Value)).length } →
      codeAny (model X.prog X.w) X.A (.compLoop (.ListComp elt [⟨target, iter, ifs, 0⟩] scope pos) 0 (.ref it) (.ref s₂.heap.objs.size) (compEnvC scope cl G.objs.size X.env)) (RR (.ref s₂.heap.objs.size) G.objs.size) s₄ := by
    rintro s₄ rfl
    refine compLoop_own (fun n s' => ∃ i σ' H', Inv (cxComp X NY scope cl G.objs.size s₂ H2 fp) [] σ' H' s' ∧ tn i s'.heap ∧ (∀ b ∈ fp, H' b = none) ∧ W i n σ' H') ?_ m0
      ⟨0, _, _, I4, st4, fun b hb => by
        obtain ⟨o, ho⟩ := hfl b hb
        rw [upd_ne (Nat.ne_of_lt (Heap.lt_size ho))]; exact (f2 b hb).1, w0⟩
    rintro n s3 ⟨i, σ3, H3, I3, st3, fr3, w3⟩
    rcases turn i n σ3 H3 w3 with ⟨stop, qn⟩ | ⟨go, Nx, hNx, step⟩
    · refine thn (T.done (cxComp X NY scope cl G.objs.size s₂ H2 fp) rfl rfl rfl hc i [] s3 σ3 H3 _ I3 (stat fr3) st3 stop) fun r s5 ⟨hr, I5⟩ => ?_
      subst hr
      have IX : Inv X pins σ H3 s5 := I2.call' (ch := fp) I5.os I5.base I5.hok I5.bare fun b hb => ⟨(f2 b hb).2.2.2.1, (f2 b hb).2.1, (f2 b hb).2.2.2.2.1, (f2 b hb).2.2.2.2.2⟩
      obtain ⟨m, hm, _⟩ := I5.loc
      refine hRR _ _ H3 s5 m hm IX I5.free (fun z => ?_) (Nat.le_trans I2.sz hCle) (fun x c h z => ?_) (fun p hp z => ?_) hDC qn
      · have := I2.lt; rw [← z] at this; exact Nat.lt_irrefl _ (Nat.lt_of_lt_of_le this hCle)
      · obtain ⟨v, o, ho, _⟩ := I2.cell x c h
        have := Heap.lt_size ho; rw [z] at this; exact Nat.lt_irrefl _ (Nat.lt_of_lt_of_le this hCle)
      · have := Heap.lt_size (I2.pin p hp).1; rw [z] at this; exact Nat.lt_irrefl _ (Nat.lt_of_lt_of_le this hCle)
    · refine thn (T.item (cxComp X NY scope cl G.objs.size s₂ H2 fp) rfl rfl rfl hc i [] s3 σ3 H3 _ I3 (stat fr3) st3 go) fun r s5 ⟨u, hr, h5⟩ => ?_
      subst hr
      refine thn h5 fun _ s6 ⟨x, H6, I6, r6, y6, st6, fr6⟩ => ?_
      have I6' := I6.pinned (stat fr6) (T.obj _ _ st6)
      have again : ∀ {σ7 : St} {H7 : Hp} {s7 : Shared}, Inv (cxComp X NY scope cl G.objs.size s₂ H2 fp) ([] ++ pinsAt fp s6.heap) σ7 H7 s7 → Nx σ7 H7 → ∃ m, m < n ∧ ∃ i σ' H', Inv (cxComp X NY scope cl G.objs.size s₂ H2 fp) [] σ' H' s7 ∧ tn i s7.heap ∧ (∀ b ∈ fp, H' b = none) ∧ W i m σ' H' := fun {σ7 H7 s7} I7 n7 => by
        obtain ⟨m', hm, w7⟩ := hNx σ7 H7 n7
        refine ⟨m', hm, i + 1, σ7, H7, I7.unpinned, T.keep _ _ _ st6 fun b hb o e => (I7.pin (b, o) (List.mem_append_right _ (List.mem_append_right _ (mem_pinsAt hb e)))).1, fun b hb => ?_, w7⟩
        obtain ⟨o, e, d⟩ := T.obj _ _ st6 b hb
        exact (I7.pin (b, o) (List.mem_append_right _ (List.mem_append_right _ (mem_pinsAt hb e)))).2.1
      refine thn (hg cl G.objs.size s₂ H2 fp _ s6 σ3 H6 x u _ I6' r6 (step x H6 y6)) fun _ s7 ⟨σ7, H7, I7, q7⟩ => ?_
      refine thn (hi cl G.objs.size s₂ H2 fp _ s7 σ7 H7 _ I7 q7) fun ok s8 ⟨H8, I8, q8⟩ => ?_
      cases ok with
      | false =>
        rw [if_neg Bool.false_ne_true] at q8 ⊢
        exact again I8 q8
      | true =>
        rw [if_pos rfl] at q8 ⊢
        refine thn (he cl G.objs.size s₂ H2 fp _ s8 σ7 H8 _ I8 q8) fun y s9 ⟨z, H9, I9, r9, ys, hD, hz, n9⟩ => ?_
        refine thn (mt_append (X := cxComp X NY scope cl G.objs.size s₂ H2 fp) _ s9 σ7 H9 (.ref s₂.heap.objs.size) [z] (.ref s₂.heap.objs.size) [y] (fun _ H' => H' = upd H9 s₂.heap.objs.size (.lst (ys ++ [z]))) I9 rfl (.cons r9 .nil) ⟨_, ys, z, rfl, rfl, hD, hz, rfl⟩) fun _ s10 ⟨_, H10, I10, _, q10⟩ => ?_
        subst q10
        exact again I10 n9
  exact codeAny_compStart_list (go _ rfl) (T.self _ 0 _ _ _ st4 (go _ rfl))
theorem pe_comp {wi : TI} (ok : CompOk sc N scope NY js) (hsc : X.env.scope = sc) (hN : X.N = N) (hk : NY.length = N.length + k) (hc : X.calm = true) (hit : PI X target iter wi)
    (hg : ∀ cl C s₀ H₀ fp, PG (cxComp X NY scope cl C s₀ H₀ fp) target g) (hi : ∀ cl C s₀ H₀ fp, PIfs (cxComp X NY scope cl C s₀ H₀ fp) ifs tc) (he : ∀ cl C s₀ H₀ fp, PE (cxComp X NY scope cl C s₀ H₀ fp) elt te)
    (hs : ∀ x, foldedSetIterable iter X.env x = pure x := by intro _; rfl) : PE X (.ListComp elt [⟨target, iter, ifs, 0⟩] scope pos) (tComp js k wi g tc te) := by
  intro pins s σ H Q I h
  obtain ⟨cl, hclos, hcl1, hcl2⟩ := closure_of (scope := scope) (env := X.env) fun x hx hf => I.ok.has x.1 (by
    have := ok.free x hx hf
    rw [← hsc] at this
    exact this)
  rw [eval_ListComp]
  refine wpAny_comprehension_free (use := none) rfl hs hclos ok.kind ok.names (thn (hit pins s σ H _ I h) fun xv s₁ h₁ => thn h₁ fun itv s₂ h₂ => ?_)
  obtain ⟨it, fp, tn, J, H2, rfl, I2, T, st2, f2, loop⟩ := h₂
  refine comp_block (RR := fun acc C => compPost (model X.prog X.w) X.A X.xe none (EP X pins σ Q) acc C) (Q := Q) ok hsc hN hk hc I2 T st2 f2 hcl1 hcl2 hg hi he loop ?_
  intro D C H' s' m hm IX fC c1 c2 c3 c4 _ q
  exact ⟨m, hm, fun h' hs' => ⟨.ref D, H', IX.turned (t' := s'.toks) (fun b o hb e => (hs'.2 b hb).trans e) fC c1 (.inr c2) c3 c4, rfl, q⟩⟩
theorem ps_comp {wi : TI} {i : Nat} {y : Str} {py spos : Pos} (ok : CompOk sc N scope NY js) (hsc : X.env.scope = sc) (hN : X.N = N) (hk : NY.length = N.length + k) (hc : X.calm = true) (hit : PI X target iter wi)
    (hg : ∀ cl C s₀ H₀ fp, PG (cxComp X NY scope cl C s₀ H₀ fp) target g) (hi : ∀ cl C s₀ H₀ fp, PIfs (cxComp X NY scope cl C s₀ H₀ fp) ifs tc) (he : ∀ cl C s₀ H₀ fp, PE (cxComp X NY scope cl C s₀ H₀ fp) elt te)
    (nd : X.N.Nodup) (hy : X.N[i]? = some y) (hl : Loc X.env.scope y) (hsw : swapsWith (.ListComp elt [⟨target, iter, ifs, 0⟩] scope pos) (some (.Name y py)) spos.line X.env = pure true)
    (hs : ∀ x, foldedSetIterable iter X.env x = pure x := by intro _; rfl) (hf : X.fn y = true ∨ X.env.scope.names.lookup y = some .local := by first | exact .inl rfl | exact .inr rfl | assumption) :
    PS X (.Assign [.Name y py] (.ListComp elt [⟨target, iter, ifs, 0⟩] scope pos) spos) (tAsg (tComp js k wi g tc te) (gName i)) := by
  intro pins s σ H D I h
  obtain ⟨cl, hclos, hcl1, hcl2⟩ := closure_of (scope := scope) (env := X.env) fun x hx hf => I.ok.has x.1 (by
    have := ok.free x hx hf
    rw [← hsc] at this
    exact this)
  rw [exec_Assign_Name_used _ _ _ _ hsw]
  refine wpAny_bind (wpAny_standAt (wpAny_bind ?_))
  show wpAny _ X.A (do let _ ← comprehension (.ListComp elt [⟨target, iter, ifs, 0⟩] scope pos) scope X.env _ (newList []) false (eval iter X.env) (some (assign (.Name y py) X.env))) _ _ s
  refine wpAny_bind (wpAny_mono (wpAny_comprehension_free (use := some (assign (.Name y py) X.env)) (Q := fun _ s' => SP X pins D .next s') rfl hs hclos ok.kind ok.names
    (thn (hit pins s σ H _ I h) fun xv s₁ h₁ => thn h₁ fun itv s₂ h₂ => ?_)) (fun _ s' hq => wpAny_pure (wpAny_pure hq)) fun _ _ e => e)
  obtain ⟨it, fp, tn, J, H2, rfl, I2, T, st2, f2, loop⟩ := h₂
  refine comp_block (RR := fun acc C => compPost (model X.prog X.w) X.A X.xe (some (assign (.Name y py) X.env)) (fun _ s' => SP X pins D .next s') acc C) (Q := fun x H1 => gName i x σ H1 D.nx) ok hsc hN hk hc I2 T st2 f2 hcl1 hcl2 hg hi he loop ?_
  intro Da C H' s' m hm IX fC c1 c2 c3 c4 _ q
  show wpAny _ X.A (assign (.Name y py) X.env (.ref Da)) _ _ _
  refine wpAny_assign_Name (store_ok2 IX nd hy hl (v := .ref Da) rfl (fun s2 IY ⟨a, sb, ha⟩ => ?_) hf)
  have hne : C ≠ a := by
    rcases ha with rfl | ha
    · exact c1
    · exact fun z => c3 y a ha z.symm
  exact ⟨m, hm.sameBut sb hne, fun h' hs' => ⟨_, H', IY.turned (t' := s2.toks) (fun b o hb e => (hs'.2 b hb).trans e) fC c1 (.inr c2) c3 c4, q⟩⟩
end
end L2
end
section
set_option Elab.async false
set_option linter.all false
set_option maxRecDepth 100000
set_option maxHeartbeats 4000000
namespace L2
open PySem PySem.Spec PyProof.Rows
section
variable {X : Cx} {pins : List (Addr × Obj)} {σ : St} {H : Hp} {s : Shared} {h' : Heap}
theorem Inv.turnedL {t' : Nat} {ch : List Addr} (I : Inv X pins σ H s) (k : ∀ b o, b ∉ ch → s.heap.get? b = some o → h'.get? b = some o) (hf : ∀ b ∈ ch, FpOk X pins H b) :
    Inv X pins σ H { s with heap := h', toks := t' } := by
  have nit : ∀ b u, H b = some u → b ∉ ch := fun b u e z => by rw [(hf b z).1] at e; cases e
  refine I.step (g' := s.gens) (d' := s.drawn) (ch := ch) (fun b hb => ⟨(hf b hb).2.2.2.1, (hf b hb).2.1, (hf b hb).2.2.2.2.1, (hf b hb).2.2.2.2.2⟩) (fun b o _ _ hc e _ => k b o hc e) (fun b o _ _ hc e _ => ⟨o.slots, k b o hc e⟩) (fun _ _ _ _ n => n)
    (fun b o hc e => ⟨o, k b o hc e⟩) (fun _ _ e => e) (fun _ _ _ e => e) (fun b ps e => ⟨#[], by rw [e]; simp⟩) (fun m hm => ?_) (fun b u e => ?_) I.bare
  · obtain ⟨o, es, ep, ho, r⟩ := hm
    exact ⟨o, es, ep, k _ o (fun z => (hf _ z).2.1 rfl) ho, r⟩
  · refine (I.hok b u e).stay (fun c v hc q => k c v ?_ q) (fun _ q => q) fun _ _ q => q
    rcases hc with z | z
    · rw [z]; exact nit b u e
    · exact nit c _ z
theorem Inv.adopt {T : Addr} {o : HO} (I : Inv X pins σ H s) (hf : FpOk X pins H T) (new : ObjOk X.prog X.w (upd H T o) s.heap T o) : Inv X pins σ (upd H T o) s := by
  have nT : ∀ b u, H b = some u → b ≠ T := fun b u e z => by rw [z, hf.1] at e; cases e
  refine I.step (h' := s.heap) (H' := upd H T o) (g' := s.gens) (d' := s.drawn) (t' := s.toks) (ch := [T]) (fun b hb => ?_) (fun b _ _ _ _ e _ => e) (fun b ob _ _ _ e _ => ⟨ob.slots, e⟩) (fun b ob hb _ n => ?_)
    (fun b ob _ e => ⟨ob, e⟩) (fun b xs e => ?_) (fun b ob u e => ?_) (fun b ps e => ⟨#[], ?_⟩) (fun m hm => hm) (fun b u e => ?_) I.bare
  · have e : b = T := by simpa using hb
    subst e
    exact ⟨hf.2.2.2.1, hf.2.1, hf.2.2.2.2.1, hf.2.2.2.2.2⟩
  · rw [upd_ne (fun z => hb (by simp [z]))]; exact n
  · rw [upd_ne (nT b _ e)]; exact e
  · rw [upd_ne (nT b _ e)]; exact e
  · rw [upd_ne (nT b _ e), e]; simp
  · by_cases hb : b = T
    · subst hb; rw [upd_same] at e; cases e; exact new
    · rw [upd_ne hb] at e
      exact (I.hok b u e).stay (fun c v _ q => q) (fun c q => by rw [upd_ne (nT c _ q)]; exact q) fun c xs q => by rw [upd_ne (nT c _ q)]; exact q
end
def Ite (K : PySem.W.Frag) (a : Addr) : It :=
  ⟨fun i H => ∃ xs x, SqL K H a xs ∧ xs[i]? = some x, fun i H x H' => ∃ p v, H p = none ∧ x = .ref p ∧ H' = upd H p (.tup [.int (i : Nat), v]) ∧ ∀ xs, SqL K H a xs → xs[i]? = some v, fun i H => ∃ xs, SqL K H a xs ∧ xs.length ≤ i⟩
theorem two_tup {X : Cx} {H : Hp} {h : Heap} {T : Addr} {x y : V} {u v : Value} {n : Nat} (e : h.get? T = some { cls := .type "tuple", data := .seq #[u, v] n }) (r1 : RelV x u) (r2 : RelV y v) : ObjOk X.prog X.w H h T (.tup [x, y]) :=
  ⟨show 2 ≤ sizeLine by decide, [u, v], .cons r1 (.cons r2 .nil), ⟨_, e, ⟨rfl, rfl⟩, _, rfl⟩⟩
theorem ne_iter {h : Heap} {it a : Addr} {i : Nat} {l : Addr} {items : Array Value} (p : h.IsList a items) (q : h.IsListIter it l i) : a ≠ it := by
  intro e; subst e
  obtain ⟨o, e1, c1, _⟩ := p
  obtain ⟨o', e2, c2, _⟩ := q
  rw [e1] at e2; cases e2; rw [c1] at c2
  injection c2 with c3
  exact absurd c3 (by decide)
theorem turn_enum {P : Program} {w : World} {K : PySem.W.Frag} {elts : List Expr} {k : Nat} {pos : Pos} (a e it : Addr) (hne : e ≠ it) :
    Turn P w K (.Tuple elts k pos) (Ite K a) [e, it] e (fun i h => (∃ old, IsEnum h e it (i : Nat) old) ∧ h.IsListIter it a i) where
  mem := by simp
  obj := fun i h st b hb => by
    obtain ⟨⟨old, he⟩, ⟨o, ho, c, d⟩⟩ := st
    rcases List.mem_cons.mp hb with rfl | hb
    · exact ⟨_, he, fun v z => by have z' : Data.fields _ = Data.cell v := z; cases z'⟩
    · rw [List.mem_singleton.mp hb]
      exact ⟨o, ho, fun v z => by rw [d] at z; cases z⟩
  keep := fun i h h' st k => ⟨let ⟨old, he⟩ := st.1; ⟨old, k e (by simp) _ he⟩, st.2.at fun o q => k it (by simp) o q⟩
  item := by
    intro X hP hw hK hc i pins s σ H E I hf st hg
    subst hP hw hK
    obtain ⟨⟨old, he⟩, hit⟩ := st
    obtain ⟨xs, x, hq, hx⟩ := hg
    obtain ⟨its, rv, p, hz⟩ := I.list hq
    obtain ⟨u, hu, ru⟩ := rv.get hx
    have hlt : i < its.toArray.size := by have := (List.getElem?_eq_some_iff.mp hu).1; simpa using this
    have na : a ≠ it := ne_iter p.isList hit
    have nb : e ≠ a := by
      intro z; subst z
      obtain ⟨o, n, e1, c1, _⟩ := p
      rw [he] at e1; cases e1
      injection c1 with c3
      exact absurd c3 (by decide)
    have Dw := Draws.list (prog := X.prog) (w := X.w) (A := X.A.in1) (show X.A.in1.handled = none from I.ok.hd hc) it a na its.toArray
    refine wpAny_pyNext_enum_itemD Dw he ⟨hit, p.isList⟩ hlt hne (by simp [hne, nb]) fun y h1 tk hP ho st1 hT hsz hk => ?_
    have ey : y = u := by
      have h1 : its.toArray[i]? = some y := hP
      have h2 : its[i]? = some y := by simpa using h1
      rw [hu] at h2; exact (Option.some.inj h2).symm
    subst ey
    refine ⟨_, rfl, ?_⟩
    have fT : FpOk X pins H s.heap.objs.size := I.fpOk (Nat.le_refl _) (I.hok.fresh (Nat.le_refl _))
    refine wpAny_letOwnedTupleGo_enum ho fun h2 he2 hs2 => ?_
    have helt : e < s.heap.objs.size := Heap.lt_size he
    have I1 : Inv X pins σ H { s with heap := h2, toks := tk + 1 } := I.turnedL (t' := tk + 1) (ch := [e, it]) (fun b o hb q => by
      have b1 : b ≠ e := fun z => hb (by simp [z])
      have b2 : b ≠ it := fun z => hb (by simp [z])
      exact (hs2.2 b b1).trans (hk b o b1 b2 q)) hf
    have gT : h2.get? s.heap.objs.size = some { cls := .type "tuple", data := .seq #[.int i tk, y] } := (hs2.2 _ (Nat.ne_of_gt helt)).trans hT
    have I2 := I1.adopt (T := s.heap.objs.size) (o := .tup [.int (i : Nat), x]) fT (two_tup (X := X) gT ⟨tk, rfl⟩ ru)
    refine ⟨.ref s.heap.objs.size, _, I2, rfl, ⟨s.heap.objs.size, x, fT.1, rfl, rfl, fun ys hy => by rw [I.list_inj hy hq]; exact hx⟩, ⟨⟨y, ?_⟩, ?_⟩, fun b hb => ?_⟩
    · have e2 : (((i + 1 : Nat) : Nat) : Int) = (i : Int) + 1 := by lia
      show IsEnum h2 e it (((i + 1 : Nat) : Nat) : Int) y
      rw [e2]; exact he2
    · obtain ⟨o, q1, q2⟩ := st1.1
      exact ⟨o, (hs2.2 it (Ne.symm hne)).trans q1, q2⟩
    · have nT : b ≠ s.heap.objs.size := by
        rcases List.mem_cons.mp hb with rfl | hb
        · exact Nat.ne_of_lt helt
        · rw [List.mem_singleton.mp hb]
          obtain ⟨o, ho, _⟩ := hit
          exact Nat.ne_of_lt (Heap.lt_size ho)
      rw [upd_ne nT]; exact (hf b hb).1
  done := by
    intro X hP hw hK hc i pins s σ H E I hf st hg
    subst hP hw hK
    obtain ⟨⟨old, he⟩, hit⟩ := st
    obtain ⟨xs, hq, hx⟩ := hg
    obtain ⟨its, rv, p, hz⟩ := I.list hq
    have hl := rv.length
    have hT : s.TypeIs (.ref e) "enumerate" := ⟨_, he, rfl⟩
    unfold pyNext
    refine wpAny_bind (wpAny_attempt (wpAny_callSpecial?_slot (name := Str.ofString "__next__") hT F.slot_enumerate_next
      (wpAny_call_entry F.slot_enumerate_next hT F.entry_enumerate_next ?_ (F.args_enumerate_next_1 _))))
    show wpAny _ _ (field (.ref e) 2 >>= _) _ _ _
    refine wpAny_bind (wpAny_field he rfl (x := .ref it) rfl ?_)
    refine wpAny_bind (wpAny_nextOf_list_end (show X.A.in1.handled = none from I.ok.hd hc) hit p.isList (by simp; lia) fun h1 x1 eb hx1 => ?_)
    obtain ⟨o, ho, hcl⟩ := hx1
    refine wpAny_bind (wpAny_isInstance (T := "StopIteration") (b := true) ⟨o, ho, hcl⟩ isSubtype_stop ?_)
    exact wpAny_pure ⟨rfl, I.turnedL (t' := s.toks) (ch := [e, it]) (fun b ob hb q => eb b ob (fun z => hb (by simp [z])) q) hf⟩
  self := fun _ _ _ _ _ st h => let ⟨_, he⟩ := st.1; wpAny_pyIter_enum he h
section
variable {X : Cx} {elts : List Expr} {k : Nat} {tpos : Pos}
def iEnum (K : PySem.W.Frag) (tl : TA) : TI := fun σ H R => tl σ H fun vs H1 => ∃ a, vs = [.ref a] ∧ (∃ xs, SqL K H1 a xs) ∧ R (Ite K a) H1
theorem pi_enum {a : Expr} {ta : TA} {p pos : Pos} (hg : Gl X "enumerate") (hm : X.mg "enumerate" = none) (ha : PA X [a] ta) (hs : starEach [a] X.env = [(false, eval a X.env)] := by rfl) :
    PI X (.Tuple elts k tpos) (.Call (.Name "enumerate" p) [a] [] pos) (iEnum X.K ta) := by
  intro pins s σ H R I h
  refine Call_ (ld_blt I hg hm boot_enumerate (PyProof.Rows.callWith_type1 (thn (ha pos pins s σ H _ I h) fun us s1 ⟨vs, H1, I1, r1, q1⟩ => ?_) hs rfl))
  obtain ⟨l, e, ⟨xs, hq⟩, q⟩ := q1
  subst e
  cases r1 with
  | cons r rr =>
    cases rr
    cases r
    obtain ⟨its, rv, pl, hz⟩ := I1.list hq
    refine call_enumerate_list pl.isList fun h1 he hit hsz hk => ?_
    refine wpAny_pyIter_enum he ?_
    have I2 : Inv X pins σ H1 { s1 with heap := h1 } := I1.kept (t' := s1.toks) hk
    refine ⟨s1.heap.objs.size + 1, [s1.heap.objs.size + 1, s1.heap.objs.size], _, _, H1, rfl, I2, turn_enum l _ _ (Nat.succ_ne_self _), ⟨⟨.none, he⟩, hit⟩, fun b hb => ?_, q⟩
    have hb' : s1.heap.objs.size ≤ b := by
      rcases List.mem_cons.mp hb with rfl | hb
      · lia
      · rw [List.mem_singleton.mp hb]; exact Nat.le_refl _
    exact I1.fpOk hb' (I1.hok.fresh hb')
end
section
variable {X : Cx} {elts : List Expr} {k : Nat} {tpos : Pos}
end
theorem for_enum {K : PySem.W.Frag} {a : Addr} {xs : List V} {g : TG} {tb : TS} {D : Ends} {σ : St} {H : Hp} (Pv : Nat → St → Hp → Prop) (h0 : Pv 0 σ H) (hl : ∀ i σ H, i ≤ xs.length → Pv i σ H → SqL K H a xs)
    (hs : ∀ i x σ H p, xs[i]? = some x → H p = none → Pv i σ H → g (.ref p) σ (upd H p (.tup [.int (i : Nat), x])) fun σ2 H2 => tb { D with nx := Pv (i + 1), ct := Pv (i + 1), bk := D.nx } σ2 H2) (hd : ∀ σ H, Pv xs.length σ H → D.nx σ H) :
    ∃ W : Nat → Nat → St → Hp → Prop, (∃ m, W 0 m σ H) ∧ ∀ i m σ H, W i m σ H →
      ((Ite K a).stop i H ∧ D.nx σ H) ∨ ((Ite K a).go i H ∧ ∃ N : St → Hp → Prop, (∀ σ' H', N σ' H' → ∃ m', m' < m ∧ W (i + 1) m' σ' H') ∧ ∀ x H', (Ite K a).yld i H x H' → g x σ H' fun σ2 H2 => tb { D with nx := N, ct := N, bk := D.nx } σ2 H2) := by
  refine ⟨fun i m σ H => m = xs.length - i ∧ i ≤ xs.length ∧ Pv i σ H, ⟨xs.length, by simp, Nat.zero_le _, h0⟩, ?_⟩
  rintro i m σ H ⟨rfl, hi, p⟩
  have q := hl i σ H hi p
  by_cases hlt : i < xs.length
  · refine .inr ⟨⟨xs, xs[i], q, by simp [hlt]⟩, Pv (i + 1), fun σ' H' p' => ⟨xs.length - (i + 1), by lia, rfl, hlt, p'⟩, fun x H' y => ?_⟩
    obtain ⟨pp, v, e1, rfl, rfl, y⟩ := y
    exact hs i v σ H pp (y xs q) e1 p
  · have e : i = xs.length := by lia
    subst e
    exact .inl ⟨⟨xs, q, Nat.le_refl _⟩, hd σ H p⟩
end L2
namespace PySem
open Sem (wp)
open Builtin MeetsSeq MeetsSeq2 MeetsSeq3
theorem noFill_tuple_mul : fillsNumberSlot (.type "tuple") "mul" = pure false :=
  fillsNumberSlot_seq (id := "tuple.__mul__") (r := some (.builtin "tuple.__rmul__")) F.slot_tuple_mul.lookup (by decide +kernel) F.slot_tuple_rmul.lookup (by decide +kernel)
theorem repeat_tuple : seqRepeat? (.type "tuple") = pure (some (.builtin "tuple.__mul__")) := by
  unfold seqRepeat?
  rw [seqSlot_of (T := "tuple") (name := "__mul__") (id := "tuple.__mul__") F.slot_tuple_mul.lookup (by decide +kernel), seqSlot_of (T := "tuple") (name := "__rmul__") (id := "tuple.__rmul__") F.slot_tuple_rmul.lookup (by decide +kernel)]
  rfl
theorem int_rmul_tuple (a : Int) (t : Tok) (l : Addr) (items : Array Value) (n : Nat) (dd : Option Addr) (sl : Array (Option Value)) :
    Meets (Builtin.«int.__rmul__» ⟨[.int a t, .ref l], []⟩) (fun _ R s => s.heap.get? l = some { cls := .type "tuple", dict := dd, data := .seq items n, slots := sl } ∧ R (.ok (.ret Value.notImplemented)) s) :=
  .of_wp fun prog w A R s h => by obtain ⟨hp, g, d, tk, os⟩ := s; obtain ⟨hl, h⟩ := h; wp_walk; exact ⟨_, rfl, h⟩
theorem tuple_mul_many (l : Addr) (items : Array Value) (n : Nat) (dd : Option Addr) (sl : Array (Option Value)) (x : Int) (u : Tok) (hlo : -(2 ^ 63) ≤ x) (hhi : x < 2 ^ 63) (he : items.isEmpty = false) (h1 : ¬ x = 1) (hp : 0 < x) (hsz : items.size * x.toNat ≤ sizeLine) :
    Meets (Builtin.«tuple.__mul__» ⟨[.ref l, .int x u], []⟩) (fun _ R s => s.heap.get? l = some { cls := .type "tuple", dict := dd, data := .seq items n, slots := sl } ∧
      R (.ok (.ret (Value.ref s.heap.objs.size))) { s with heap := s.heap.push { cls := Value.type "tuple", data := Data.seq (List.foldl (fun x1 x2 => x1 ++ x2) #[] (List.replicate x.toNat items)) }, toks := s.toks }) :=
  .of_wp fun prog w A R s h => by
    obtain ⟨hp, g, d, tk, os⟩ := s; obtain ⟨hl, h⟩ := h
    have z1 : (decide (x < -(2 ^ 63)) || decide (x ≥ 2 ^ 63)) = false := by simp; lia
    have z2 : (items.isEmpty || x == 1) = false := by simp [he, h1]
    have z3 : (decide (x ≤ 0) || items.isEmpty) = false := by simp [he]; lia
    have ex : (items.size : Int) * x = ((items.size * x.toNat : Nat) : Int) := by
      rw [Int.natCast_mul]; congr 1; lia
    have z4 : ¬ ((items.size : Int) * x > (2 ^ 63 - 1) / 8) := by
      rw [ex]
      have : (sizeLine : Nat) ≤ (2 ^ 63 - 1) / 8 := by decide
      lia
    have z5 : Tuple.tupleTooMany ((items.size : Int) * x) = false := by
      unfold Tuple.tupleTooMany
      rw [ex]
      exact decide_eq_false (by lia)
    have z6 : (List.foldl (fun (x1 x2 : Array Value) => x1 ++ x2) #[] (List.replicate x.toNat items)).size ≤ sizeLine := by
      have e := AutoListH.size_joined items x.toNat #[]
      rw [e, Nat.mul_comm]
      simpa using hsz
    wp_walk
    refine wpAny_ite_false (by rw [z1]; rfl) ?_
    wp_walk using AutoSeq1.wpAny_loadPart' hl
    refine wpAny_ite_false (decide_eq_false z4) ?_
    wp_walk
    refine wpAny_ite_false (by rw [z5]; rfl) ?_
    wp_walk
    exact ⟨_, rfl, h⟩
theorem tuple_mul_one (l : Addr) (items : Array Value) (n : Nat) (dd : Option Addr) (sl : Array (Option Value)) (u : Tok) :
    Meets (Builtin.«tuple.__mul__» ⟨[.ref l, .int 1 u], []⟩) (fun _ R s => s.heap.get? l = some { cls := .type "tuple", dict := dd, data := .seq items n, slots := sl } ∧ R (.ok (.ret (Value.ref l))) s) :=
  .of_wp fun prog w A R s h => by
    obtain ⟨hp, g, d, tk, os⟩ := s; obtain ⟨hl, h⟩ := h
    have z2 : (items.isEmpty || (1 : Int) == 1) = true := by simp
    wp_walk using AutoSeq1.wpAny_loadPart' hl
    first | exact ⟨_, rfl, h⟩ | trace_state
theorem tuple_mul_none (l : Addr) (items : Array Value) (n : Nat) (dd : Option Addr) (sl : Array (Option Value)) (u : Tok) (he : items.isEmpty = false) :
    Meets (Builtin.«tuple.__mul__» ⟨[.ref l, .int 0 u], []⟩) (fun _ R s => s.heap.get? l = some { cls := .type "tuple", dict := dd, data := .seq items n, slots := sl } ∧
      R (.ok (.ret (Value.ref s.heap.objs.size))) { s with heap := s.heap.push { cls := Value.type "tuple", data := Data.seq #[] }, toks := s.toks }) :=
  .of_wp fun prog w A R s h => by
    obtain ⟨hp, g, d, tk, os⟩ := s; obtain ⟨hl, h⟩ := h
    have z2 : (items.isEmpty || (0 : Int) == 1) = false := by simp [he]
    have z3 : (decide ((0 : Int) ≤ 0) || items.isEmpty) = true := by simp
    wp_walk using AutoSeq1.wpAny_loadPart' hl
    first | exact ⟨_, rfl, h⟩ | trace_state
end PySem
namespace L2
open PySem PySem.Spec PyProof.Rows
section
variable {X : Cx}
def rRepT (K : PySem.W.Frag) : R2 := fun x y H Q => ∃ (l : Addr) (k : Nat) (xs : List V), x = .ref l ∧ y = .int (k : Nat) ∧ SqT K H l xs ∧ xs ≠ [] ∧ xs.length * k ≤ sizeLine ∧ (k = 1 → Q (.ref l) H) ∧
  (k ≠ 1 → ∀ p, H p = none → Q (.ref p) (upd H p (.tup (List.replicate k xs).flatten)))
theorem op_repT : OpR X (binaryOp .Mult) (rRepT X.K) := by
  intro pins s σ H x y v u Q I rx ry h
  obtain ⟨l, k, xs, rfl, rfl, hq, hne, hz, q1, q2⟩ := h
  cases rx
  obtain ⟨t, rfl⟩ := ry
  obtain ⟨its, r, ⟨⟨cls, dd, data, sl⟩, e, hc, n, hd⟩, hl⟩ := I.tuple hq
  simp only at hc hd
  subst hc hd
  have hlen := r.length
  have he : its.toArray.isEmpty = false := by
    cases its with
    | nil => simp at hlen; exact absurd hlen hne
    | cons a r' => rfl
  have hs : its.toArray.size * k ≤ sizeLine := by rw [List.size_toArray, ← hlen]; exact hz
  have road : wpAny (model X.prog X.w) X.A (call (.builtin "tuple.__mul__") [.ref l, .int (k : Nat) t]) (EP X pins σ Q) X.xe s → wpAny (model X.prog X.w) X.A (binaryOp .Mult (.ref l) (.int (k : Nat) t)) (EP X pins σ Q) X.xe s := fun hcall =>
    wpAny_binaryOp_repeat_ref (T := "tuple") (U := "int") (by decide) ⟨_, e, rfl⟩ (fun s' => typeIs_int s' k t) noFill_tuple_mul F.fills_int_mul F.slot_int_rmul repeat_tuple F.slot_int_index.lookup
      (call_meets F.slot_int_rmul (typeIs_int s k t) F.entry_int_rmul (F.args_int_rmul_2 _ _) (int_rmul_tuple k t l its.toArray n dd sl) ⟨e, rfl, ⟨_, e, rfl⟩, hcall⟩)
  refine road ?_
  by_cases h1 : k = 1
  · subst h1
    exact call_meets F.slot_tuple_mul ⟨_, e, rfl⟩ F.entry_tuple_mul (F.args_tuple_mul_2 _ _) (tuple_mul_one l its.toArray n dd sl t) ⟨e, ⟨.ref l, H, I, rfl, q1 rfl⟩⟩
  · have hn : H s.heap.objs.size = none := I.hok.fresh (Nat.le_refl _)
    by_cases h0 : k = 0
    · subst h0
      refine call_meets F.slot_tuple_mul ⟨_, e, rfl⟩ F.entry_tuple_mul (F.args_tuple_mul_2 _ _) (tuple_mul_none l its.toArray n dd sl t he) ⟨e, ⟨.ref s.heap.objs.size, _, ?_, rfl, q2 h1 _ hn⟩⟩
      exact I.laid (t' := s.toks) (fun b o e => Heap.get?_push_of_some _ e) (Nat.le_refl _) ⟨Nat.zero_le _, [], .nil, ⟨_, Heap.get?_push_size _ rfl, ⟨rfl, rfl⟩, _, rfl⟩⟩
    · have hk64 : (k : Int) < 2 ^ 63 := by
        have h3 : 1 ≤ its.toArray.size := by
          cases its with
          | nil => simp at he
          | cons a r' => simp
        have h4 : k ≤ its.toArray.size * k := Nat.le_mul_of_pos_left k h3
        have h5 : (sizeLine : Nat) < 2 ^ 63 := by decide
        lia
      refine call_meets F.slot_tuple_mul ⟨_, e, rfl⟩ F.entry_tuple_mul (F.args_tuple_mul_2 _ _) (tuple_mul_many l its.toArray n dd sl k t (by lia) hk64 he (by lia) (by lia) (by simpa using hs)) ⟨e, ?_⟩
      have f0 := foldl_rep its k []
      rw [List.nil_append] at f0
      have ek : ((k : Nat) : Int).toNat = k := by simp
      rw [ek, f0]
      refine ⟨.ref s.heap.objs.size, _, ?_, rfl, q2 h1 _ hn⟩
      refine I.laid (t' := s.toks) (fun b o e => Heap.get?_push_of_some _ e) (Nat.le_refl _) ⟨?_, (List.replicate k its).flatten, r.rep k, ⟨_, Heap.get?_push_size _ rfl, ⟨rfl, rfl⟩, _, rfl⟩⟩
      rw [len_rep, Nat.mul_comm]; exact hz
theorem call_divmodW : CallR X (.builtin "divmod") (fun xs H Q => ∃ i j, xs = [.int i, .int j] ∧ (0 < j ∧ j < 2 ^ 64) ∧ ∀ p, H p = none → Q (.ref p) (upd H p (.tup [.int (i / j), .int (i % j)]))) := by
  intro pins s σ H xs us Q I r h
  obtain ⟨i, j, rfl, ⟨h1, h2⟩, q⟩ := h
  obtain ⟨u, w', rfl, ⟨t, rfl⟩, ⟨t', rfl⟩⟩ := vals2 r
  have hb : j.natAbs.log2 < 9000 := by
    have h3 : j.natAbs.log2 < 64 := (Nat.log2_lt (by lia)).mpr (by lia)
    lia
  refine divmod_int (by lia) ?_ (.inl (PyProof.noPylong_of_log2 hb))
  rw [Int.fdiv_eq_ediv_of_nonneg i (by lia), Int.fmod_eq_emod_of_nonneg i (by lia)]
  have hn : H s.heap.objs.size = none := I.hok.fresh (Nat.le_refl _)
  refine ⟨.ref s.heap.objs.size, _, ?_, rfl, q _ hn⟩
  refine I.laid (fun b o e => Heap.get?_push_of_some _ e) (Nat.le_refl _) ⟨by simp only [List.length_cons, List.length_nil]; rw [sizeLine_eq]; decide, [.int (i / j) s.toks, .int (i % j) (s.toks + 1)], .cons ⟨_, rfl⟩ (.cons ⟨_, rfl⟩ .nil), ?_⟩
  exact ⟨_, Heap.get?_push_size s.heap rfl, ⟨rfl, rfl⟩, 0, rfl⟩
inductive IsiV (K : PySem.W.Frag) (H : Hp) : V → String → Bool → Prop where
  | int_int (i : Int) : IsiV K H (.int i) "int" true
  | int_bool (i : Int) : IsiV K H (.int i) "bool" false
  | int_tuple (i : Int) : IsiV K H (.int i) "tuple" false
  | str_tuple (x : Str) : IsiV K H (.str x) "tuple" false
  | tup_tuple {a : Addr} {xs : List V} (h : SqT K H a xs) : IsiV K H (.ref a) "tuple" true
  | lst_list {a : Addr} {xs : List V} (h : SqL K H a xs) : IsiV K H (.ref a) "list" true
  | str_str (x : Str) : IsiV K H (.str x) "str" true
  | bl_bool (b : Bool) : IsiV K H (.bl b) "bool" true
theorem call_isi : CallR X (.builtin "isinstance") (fun xs H Q => ∃ x T b, xs = [x, .ty T] ∧ IsiV X.K H x T b ∧ Q (.bl b) H) := by
  intro pins s σ H xs us Q I r h
  obtain ⟨x, T, b, rfl, hi, q⟩ := h
  obtain ⟨u, w', rfl, r1, r2⟩ := vals2 r
  cases r2
  cases hi with
  | int_int i => obtain ⟨t, rfl⟩ := r1; exact IsiPair.int_int ⟨.bl true, H, I, rfl, q⟩
  | int_bool i => obtain ⟨t, rfl⟩ := r1; exact IsiPair.int_bool ⟨.bl false, H, I.tok _, rfl, q⟩
  | int_tuple i => obtain ⟨t, rfl⟩ := r1; exact IsiPair.int_tuple ⟨.bl false, H, I.tok _, rfl, q⟩
  | str_tuple z => obtain ⟨t, rfl⟩ := r1; exact IsiPair.str_tuple ⟨.bl false, H, I.tok _, rfl, q⟩
  | tup_tuple hs =>
    cases r1
    obtain ⟨its, rv, ⟨o, e, hc, _⟩, hz⟩ := I.tuple hs
    exact IsiPair.tuple_tuple e hc ⟨.bl true, H, I, rfl, q⟩
  | lst_list hs =>
    cases r1
    obtain ⟨its, rv, pl, hz⟩ := I.list hs
    obtain ⟨o, e, hc, _⟩ := pl.isList
    exact IsiPair.list_list e hc ⟨.bl true, H, I, rfl, q⟩
  | str_str z => obtain ⟨t, rfl⟩ := r1; exact IsiPair.str_str ⟨.bl true, H, I, rfl, q⟩
  | bl_bool z => cases r1; exact IsiPair.bool_bool ⟨.bl true, H, I, rfl, q⟩
theorem all_ix (bs : List Bool) : (List.range bs.length).all (fun i => (bs[i]?).getD false) = bs.all id := by
  rw [Bool.eq_iff_iff, List.all_eq_true, List.all_eq_true]
  constructor
  · intro h b hb
    obtain ⟨i, hi, e⟩ := List.mem_iff_getElem.mp hb
    have := h i (List.mem_range.mpr hi)
    rw [List.getElem?_eq_getElem hi, Option.getD_some, e] at this
    exact this
  · intro h i hi
    have hi := List.mem_range.mp hi
    rw [List.getElem?_eq_getElem hi, Option.getD_some]
    exact h _ (List.getElem_mem hi)
theorem call_all_bl (hc : X.calm = true) : CallR X (.builtin "all") (fun xs H Q => ∃ (p : Addr) (bs : List Bool), xs = [.ref p] ∧ SqL X.K H p (bs.map V.bl) ∧ Q (.bl (bs.all id)) H) := by
  intro pins s σ H xs us Q I r h
  obtain ⟨p, bs, rfl, hq, q⟩ := h
  obtain ⟨u, rfl, rx⟩ := vals1 r
  cases rx
  obtain ⟨its, rv, pl, hz⟩ := I.list hq
  have hlen := rv.length
  rw [List.length_map] at hlen
  have hlt : p < s.heap.objs.size := by obtain ⟨o, e, _⟩ := pl.isList; exact Heap.lt_size e
  refine call_all_walk (wpAny_pyIter_list pl.isList ?_)
  refine ⟨_, _, _, _, _, _, fun i => (bs[i]?).getD false, rfl, Walks.list (A := X.A.in1) (show X.A.in1.handled = none from I.ok.hd hc) s.heap.objs.size p (Nat.ne_of_lt hlt) its.toArray, ⟨⟨_, Heap.get?_push_size _ rfl, rfl, rfl⟩, pl.isList.push _⟩, ?_, fun h' tk hk => ?_⟩
  · intro i v s' Q' E' hP hQ
    have hP' : its[i]? = some v := by
      have : its.toArray[i]? = some v := hP
      simpa using this
    have hi : i < bs.length := by rw [hlen]; exact (List.getElem?_eq_some_iff.mp hP').1
    obtain ⟨u, hu, ru⟩ := rv.get (i := i) (x := V.bl bs[i]) (by rw [List.getElem?_map, List.getElem?_eq_getElem hi]; rfl)
    rw [hP'] at hu
    cases hu
    cases ru
    have hQ' : Q' ((bs[i]?).getD false) s' := hQ
    rw [List.getElem?_eq_getElem hi, Option.getD_some] at hQ'
    exact wpAny_truthy_bool hQ'
  · have e : its.toArray.size = bs.length := by rw [List.size_toArray, hlen]
    rw [e, all_ix]
    refine ⟨.bl _, H, ?_, rfl, q⟩
    refine I.kept (t' := tk) fun b o eb => ?_
    refine hk b o (fun z => ?_) (Heap.get?_push_of_some _ eb)
    have e2 : b = s.heap.objs.size := by simpa using z
    have h2 := Heap.lt_size eb
    rw [e2] at h2
    exact Nat.lt_irrefl _ h2
end
section
variable {X : Cx}
theorem strs_are : ∀ {ys : List Str} {us : List Value}, Vals (ys.map V.str) us → StrsAre us ys
  | [], _, r => by cases r; exact .nil
  | y :: ys, _, r => by
    cases r with
    | cons r rr =>
      obtain ⟨t, rfl⟩ := r
      exact .cons _ _ (strs_are rr)
def rJoin (K : PySem.W.Frag) : V → List V → Hp → VK → Prop := fun x vs H Q => ∃ (sep : Str) (p : Addr) (ys : List Str), x = .str sep ∧ vs = [.ref p] ∧ SqL K H p (ys.map V.str) ∧ (ys.map (·.length)).sum + ys.length * sep.length ≤ 16777216 ∧ Q (.str (Txt.join sep ys)) H
theorem mt_join : MtR X "str.join" (rJoin X.K) := by
  intro pins s σ H x vs v us Q I rx rv h
  obtain ⟨sep, p, ys, rfl, rfl, hq, hz, q⟩ := h
  obtain ⟨t, rfl⟩ := rx
  obtain ⟨u, rfl, ru⟩ := rv.one
  cases ru
  obtain ⟨its, r, pl, _⟩ := I.list hq
  exact join_list pl.isList (by simpa using strs_are r) hz fun t' k => ⟨.str _, H, I.tok k, ⟨t', rfl⟩, q⟩
end
section
variable {X : Cx}
def eqVs (xs ys : List V) : Bool := (List.range (min xs.length ys.length)).all (fun j => eqV ((xs[j]?).getD .non) ((ys[j]?).getD .non)) && xs.length == ys.length
def rEqT (K : PySem.W.Frag) (neg : Bool) : R2 := fun x y H Q => ∃ p q xs ys, x = .ref p ∧ y = .ref q ∧ SqT K H p xs ∧ SqT K H q ys ∧ xs.all flatV = true ∧ ys.all flatV = true ∧ Q (.bl (if neg then !eqVs xs ys else eqVs xs ys)) H
theorem at_eq {A : Around} {s : Shared} {xs ys : List V} {us vs : List Value} (r1 : Vals xs us) (r2 : Vals ys vs) (f1 : xs.all flatV = true) (f2 : ys.all flatV = true) :
    ∀ j (h1 : j < us.toArray.size) (h2 : j < vs.toArray.size), SeqAt.EqAt A s us.toArray[j] vs.toArray[j] (eqV ((xs[j]?).getD .non) ((ys[j]?).getD .non)) := by
  intro j h1 h2
  have l1 := r1.length
  have l2 := r2.length
  rw [List.size_toArray] at h1 h2
  have j1 : j < xs.length := by lia
  have j2 : j < ys.length := by lia
  obtain ⟨u, hu, ru⟩ := r1.get (List.getElem?_eq_getElem j1)
  obtain ⟨v, hv, rv⟩ := r2.get (List.getElem?_eq_getElem j2)
  have eu : us.toArray[j] = u := by
    have := List.getElem?_eq_getElem h1
    rw [hu] at this
    simpa using (Option.some.inj this).symm
  have ev : vs.toArray[j] = v := by
    have := List.getElem?_eq_getElem h2
    rw [hv] at this
    simpa using (Option.some.inj this).symm
  rw [eu, ev, List.getElem?_eq_getElem j1, List.getElem?_eq_getElem j2, Option.getD_some, Option.getD_some]
  exact eqAt_V ru rv (List.all_eq_true.mp f1 _ (List.getElem_mem j1)) (List.all_eq_true.mp f2 _ (List.getElem_mem j2))
theorem op_eqT (hu : X.A.units < cLine) : OpR X (compareOp .Eq) (rEqT X.K false) := by
  intro pins s σ H x y v u Q I rx ry h
  obtain ⟨p, q, xs, ys, rfl, rfl, h1, h2, f1, f2, qq⟩ := h
  cases rx
  cases ry
  obtain ⟨us, r1, t1, _⟩ := I.tuple h1
  obtain ⟨vs, r2, t2, _⟩ := I.tuple h2
  refine SeqAt.eq_tupleAt (show s.heap.IsTuple p us.toArray from t1) (show s.heap.IsTuple q vs.toArray from t2) hu (at_eq r1 r2 f1 f2) ⟨.bl (eqVs xs ys), H, I, ?_, qq⟩
  show Value.bool _ = Value.bool _
  unfold eqVs
  rw [List.size_toArray, List.size_toArray, r1.length, r2.length]
def rEqTS (K : PySem.W.Frag) : R2 := fun x y H Q => ∃ p xs z, x = .ref p ∧ y = .str z ∧ SqT K H p xs ∧ Q (.bl false) H
theorem op_eqTS (hu : X.A.units < cLine) : OpR X (compareOp .Eq) (rEqTS X.K) := by
  intro pins s σ H x y v u Q I rx ry h
  obtain ⟨p, xs, z, rfl, rfl, h1, qq⟩ := h
  cases rx
  obtain ⟨t, rfl⟩ := ry
  obtain ⟨us, r1, t1, _⟩ := I.tuple h1
  exact SeqAt.RcAt.tuple_str z t (show s.heap.IsTuple p us.toArray from t1) hu X.prog X.w X.xe _ ⟨.bl false, H, I, rfl, qq⟩
theorem op_neT (hu : X.A.units < cLine) : OpR X (compareOp .NotEq) (rEqT X.K true) := by
  intro pins s σ H x y v u Q I rx ry h
  obtain ⟨p, q, xs, ys, rfl, rfl, h1, h2, f1, f2, qq⟩ := h
  cases rx
  cases ry
  obtain ⟨us, r1, t1, _⟩ := I.tuple h1
  obtain ⟨vs, r2, t2, _⟩ := I.tuple h2
  refine SeqAt.RcNeAt.tuples (show s.heap.IsTuple p us.toArray from t1) (show s.heap.IsTuple q vs.toArray from t2) hu (at_eq r1 r2 f1 f2) X.prog X.w X.xe _ ⟨.bl (!eqVs xs ys), H, I, ?_, qq⟩
  show Value.bool _ = Value.bool _
  unfold eqVs
  rw [List.size_toArray, List.size_toArray, r1.length, r2.length]
end
section
variable {X : Cx}
def rEqL (K : PySem.W.Frag) (neg : Bool) : R2 := fun x y H Q => ∃ p q xs ys, x = .ref p ∧ y = .ref q ∧ SqL K H p xs ∧ SqL K H q ys ∧ xs.all flatV = true ∧ ys.all flatV = true ∧ Q (.bl (if neg then !eqVs xs ys else eqVs xs ys)) H
theorem eqVs_len {xs ys : List V} (h : xs.length = ys.length) : eqVs xs ys = (List.range xs.length).all (fun j => eqV ((xs[j]?).getD .non) ((ys[j]?).getD .non)) := by
  unfold eqVs; rw [← h, Nat.min_self]; simp
theorem eqVs_ne {xs ys : List V} (h : ¬ xs.length = ys.length) : eqVs xs ys = false := by
  unfold eqVs; rw [Bool.and_eq_false_iff]; right; simpa using h
theorem op_eqL (hu : X.A.units < cLine) : OpR X (compareOp .Eq) (rEqL X.K false) := by
  intro pins s σ H x y v u Q I rx ry h
  obtain ⟨p, q, xs, ys, rfl, rfl, h1, h2, f1, f2, qq⟩ := h
  cases rx
  cases ry
  obtain ⟨us, r1, t1, _⟩ := I.list h1
  obtain ⟨vs, r2, t2, _⟩ := I.list h2
  have l1 := r1.length
  have l2 := r2.length
  by_cases c : xs.length = ys.length
  · refine SeqAt.eq_listAt t1.isList t2.isList (by rw [List.size_toArray, List.size_toArray]; lia) hu (at_eq r1 r2 f1 f2) ⟨.bl (eqVs xs ys), H, I, ?_, qq⟩
    show Value.bool _ = Value.bool _
    rw [eqVs_len c, List.size_toArray, l1]
  · refine SeqAt.eq_list_lengthsAt t1.isList t2.isList (by rw [List.size_toArray, List.size_toArray]; simp; lia) hu ⟨.bl (eqVs xs ys), H, I, ?_, qq⟩
    show Value.bool _ = Value.bool _
    rw [eqVs_ne c]
theorem op_neL (hu : X.A.units < cLine) : OpR X (compareOp .NotEq) (rEqL X.K true) := by
  intro pins s σ H x y v u Q I rx ry h
  obtain ⟨p, q, xs, ys, rfl, rfl, h1, h2, f1, f2, qq⟩ := h
  cases rx
  cases ry
  obtain ⟨us, r1, t1, _⟩ := I.list h1
  obtain ⟨vs, r2, t2, _⟩ := I.list h2
  have l1 := r1.length
  have l2 := r2.length
  by_cases c : xs.length = ys.length
  · refine SeqAt.RcNeAt.lists t1.isList t2.isList (by rw [List.size_toArray, List.size_toArray]; lia) hu (at_eq r1 r2 f1 f2) X.prog X.w X.xe _ ⟨.bl (!eqVs xs ys), H, I, ?_, qq⟩
    show Value.bool _ = Value.bool _
    rw [eqVs_len c, List.size_toArray, l1]
  · refine SeqAt.RcNeAt.lists_lengths t1.isList t2.isList (by rw [List.size_toArray, List.size_toArray]; simp; lia) hu X.prog X.w X.xe _ ⟨.bl (!eqVs xs ys), H, I, ?_, qq⟩
    show Value.bool _ = Value.bool _
    rw [eqVs_ne c]; rfl
end
section
variable {prog : Program} {w : World} {A : Around} {E : Value → Shared → Prop}
theorem draw_listU {it t : Addr} {items : Array Value} (hne : t ≠ it) : ∀ (n i : Nat) (s : Shared) (Q : List Value → Shared → Prop), s.heap.IsListIter it t i → s.heap.IsList t items → i + n ≤ items.size →
    (∀ h' : Heap, h'.IsListIter it t (i + n) → Heap.SameBut it s.heap h' → Q ((items.toList.drop i).take n) { s with heap := h' }) → wpAny (model prog w) A (draw (.ref it) n) Q E s
  | 0, i, s, Q, hit, _, _, hQ => by
    show wpAny _ _ (pure []) Q E s
    exact wpAny_pure (by simpa using hQ s.heap hit (Heap.SameBut.refl ..))
  | n + 1, i, s, Q, hit, ht, hle, hQ => by
    have hlt : i < items.size := by lia
    show wpAny _ _ (pyNext (.ref it) >>= _) Q E s
    refine wpAny_bind (wpAny_pyNext_list_item hit ht (x := items[i]) (by simp [hlt]) fun h₁ hit₁ hs₁ => ?_)
    refine wpAny_bind (wpAny_holding (draw_listU hne n (i + 1) _ _ hit₁ (ht.extBut hs₁.extBut hne) (by lia) fun h₂ hit₂ hs₂ => wpAny_pure ?_))
    have hd : items.toList.drop i = items[i] :: items.toList.drop (i + 1) := by simp [List.drop_eq_getElem_cons, hlt]
    have := hQ h₂ (by rw [show i + (n + 1) = i + 1 + n by lia]; exact hit₂) (hs₁.trans hs₂)
    rw [hd, List.take_succ_cons] at this
    exact this
theorem unpackItems_listU {s : Shared} {t : Addr} {items : Array Value} {Q : List Value → Shared → Prop} (hh : A.handled = none) (ht : s.heap.IsList t items)
    (hQ : ∀ h' : Heap, Heap.ExtBut s.heap.objs.size s.heap h' → Q items.toList { s with heap := h' }) : wpAny (model prog w) A (unpackItems (.ref t) items.size none) Q E s := by
  have hlt : t ≠ s.heap.objs.size := by obtain ⟨o, ho, _⟩ := ht; exact Nat.ne_of_lt (Heap.lt_size ho)
  unfold unpackItems
  refine wpAny_bind ?_
  · unfold notIterableAtAll
    refine wpAny_bind (wpAny_specialOf ht.typeIs slot_list_iter.lookup ?_)
    refine wpAny_pure ?_
    simp only [Bool.false_eq_true, if_false]
    refine wpAny_bind (wpAny_holding (wpAny_pyIter_list ht ?_))
    refine wpAny_bind (wpAny_holding (draw_listU hlt items.size 0 _ _ ⟨_, Heap.get?_push_size _ rfl, rfl, rfl⟩ (ht.push _) (by lia) fun h₁ hit₁ hs₁ => ?_))
    have hall : List.take items.size (List.drop 0 items.toList) = items.toList := by
      rw [List.drop_zero]; exact List.take_of_length_le (by simp)
    rw [hall]
    rw [if_neg (by simp)]
    have ht₁ : h₁.IsList t items := (ht.push _).extBut hs₁.extBut hlt
    refine wpAny_bind (wpAny_holding (wpAny_pyNext_list_end hh hit₁ ht₁ (by simp) fun h₂ he₂ => ?_))
    simp only [Option.isSome_none, Bool.false_eq_true, if_false]
    refine wpAny_pure (hQ h₂ fun b o hb e => he₂ b o hb (hs₁.extBut b o hb (Heap.get?_push_of_some _ e)))
end
section
variable {X : Cx} {pos : Pos}
def gTupL (K : PySem.W.Frag) (n : Nat) (t : TGs) : TG := fun v σ H Q => ∃ a xs, v = .ref a ∧ SqL K H a xs ∧ xs.length = n ∧ t xs σ H Q
theorem pg_tupL {es : List Expr} {k : Nat} {t : TGs} {n : Nat} (hc : X.calm = true) (h : PGs X es t)
    (hn : (assignEach es X.env).length = n := by rfl) (hst : (assignEach es X.env).findIdx? (·.1) = none := by rfl) : PG X (.Tuple es k pos) (gTupL X.K n t) := by
  intro pins s σ H v u Q I r hw
  obtain ⟨a, xs, e1, hq, hl, hw⟩ := hw
  subst e1
  cases r
  obtain ⟨its, rv, ht, hz⟩ := I.list hq
  rw [assign_Tuple]
  refine wpAny_bind (wpAny_standAt ?_)
  unfold unpack
  have e : (assignEach es X.env).length = its.toArray.size := by simp [hn, ← hl, rv.length]
  rw [e, hst]
  refine wpAny_bind (wpAny_holding (unpackItems_listU (I.ok.hd hc) ht.isList fun h' hx => ?_))
  have I1 : Inv X pins σ H { s with heap := h' } := I.kept (t' := s.toks) fun b o e => hx b o (Nat.ne_of_lt (Heap.lt_size e)) e
  exact h pins _ σ H xs _ Q I1 (by simpa using rv) hw
end
end L2
end
section
set_option Elab.async false
set_option linter.all false
set_option maxRecDepth 100000
set_option maxHeartbeats 4000000
namespace L2
open PySem PySem.Spec PyProof.Rows
def rStr2 : R2 := fun x y H Q => ∃ i j, x = .str i ∧ y = .str j ∧ i.length + j.length ≤ sizeLine ∧ Q (.str (i ++ j)) H
def rPlus (K : PySem.W.Frag) : R2 := fun x y H Q => rI0 (fun i j => .int (i + j)) x y H Q ∨ (rStr2 x y H Q ∨ (rCat x y H Q ∨ rCatT K x y H Q))
def rSub2 : R2 := rI0 fun i j => .int (i - j)
def rTimes (K : PySem.W.Frag) : R2 := fun x y H Q => rI CMul (fun i j => .int (i * j)) x y H Q ∨ rRepT K x y H Q
def rMod2 : R2 := rI (fun _ j => 0 < j) fun i j => .int (i % j)
def rFdiv2 : R2 := rI CDiv fun i j => .int (i / j)
def rEqG (K : PySem.W.Frag) : R2 := fun x y H Q => rEq x y H Q ∨ (rEqT K false x y H Q ∨ (rEqTS K x y H Q ∨ rEqL K false x y H Q))
def rNeG (K : PySem.W.Frag) : R2 := fun x y H Q => rNe x y H Q ∨ (rEqT K true x y H Q ∨ rEqL K true x y H Q)
def rLt2 : R2 := rI0 fun i j => .bl (decide (i < j))
def rGt2 : R2 := rI0 fun i j => .bl (decide (j < i))
def rNotN : R2 := fun x y H Q => y = .non ∧ Q (.bl (!decide (x = .non))) H
def rNeg : V → Hp → VK → Prop := rU fun i => .int (-i)
def rSl (K : PySem.W.Frag) : V → Option Int → Option Int → Hp → VK → Prop := fun x lo hi H Q => rSlL K x lo hi H Q ∨ rSlT K x lo hi H Q
def rLen (K : PySem.W.Frag) : List V → Hp → VK → Prop := fun xs H Q => ∃ x n, xs = [x] ∧ LenV K x H n ∧ Q (.int n) H
def rDivmod : List V → Hp → VK → Prop := fun xs H Q => ∃ i j, xs = [.int i, .int j] ∧ (0 < j ∧ j < 2 ^ 64) ∧ ∀ p, H p = none → Q (.ref p) (upd H p (.tup [.int (i / j), .int (i % j)]))
def rMin2 : List V → Hp → VK → Prop := fun xs H Q => ∃ i j, xs = [.int i, .int j] ∧ Q (.int (if j < i then j else i)) H
def rAll (K : PySem.W.Frag) : List V → Hp → VK → Prop := fun xs H Q => ∃ (p : Addr) (bs : List Bool), xs = [.ref p] ∧ SqL K H p (bs.map V.bl) ∧ Q (.bl (bs.all id)) H
def rIsi (K : PySem.W.Frag) : List V → Hp → VK → Prop := fun xs H Q => ∃ x T b, xs = [x, .ty T] ∧ IsiV K H x T b ∧ Q (.bl b) H
def rInt1 : List V → Hp → VK → Prop := fun xs H Q => (∃ i, xs = [.int i] ∧ Q (.int i) H) ∨ ∃ k, xs = [.bl k] ∧ Q (.int (if k then 1 else 0)) H
def rListOf (K : PySem.W.Frag) : List V → Hp → VK → Prop := fun xs H Q => ∃ p ys, xs = [.ref p] ∧ (SqL K H p ys ∨ SqT K H p ys) ∧ ∀ l, H l = none → Q (.ref l) (upd H l (.lst ys))
def rTupleOf (K : PySem.W.Frag) : List V → Hp → VK → Prop := fun xs H Q => ∃ p ys, xs = [.ref p] ∧ ((SqL K H p ys ∧ ∀ l, H l = none → Q (.ref l) (upd H l (.tup ys))) ∨ (SqT K H p ys ∧ Q (.ref p) H))
def iSeq (K : PySem.W.Frag) (tl : TE) : TI := fun σ H R => iList K tl σ H R ∨ iTup K tl σ H R
section
variable {X : Cx}
theorem op_plus : OpR X (binaryOp .Add) (rPlus X.K) := op_add.or (op_add_str.or (op_cat.or op_catT))
theorem op_times : OpR X (binaryOp .Mult) (rTimes X.K) := op_mul.or op_repT
theorem op_eqG (hu : X.A.units < cLine) : OpR X (compareOp .Eq) (rEqG X.K) := op_eq.or ((op_eqT hu).or ((op_eqTS hu).or (op_eqL hu)))
theorem op_neG (hu : X.A.units < cLine) : OpR X (compareOp .NotEq) (rNeG X.K) := op_ne.or ((op_neT hu).or (op_neL hu))
theorem sl_seq : SlR X (rSl X.K) := sl_list.or sl_tup
theorem pi_seq {tg l : Expr} {tl : TE} (hl : PE X l tl) : PI X tg l (iSeq X.K tl) := by
  intro pins s σ H R I h
  rcases h with h | h
  · exact pi_list hl pins s σ H R I h
  · exact pi_tup hl pins s σ H R I h
end
structure Callee (P : Program) (w : World) (K : PySem.W.Frag) (mg : Str → Option Value) (base : Heap) (x : Str) (ps : List Str) (k : Nat) (sp : Sp) : Prop where
  ex : ∃ (f : Addr) (fd : FuncData), mg x = some (.ref f) ∧ PySem.W.keepIn K (.ref f) = true ∧ Binds K fd ps [] ∧ FnOk P w K mg base CX0 k f fd ps sp
theorem pe_fn {X : Cx} {x : Str} {ps : List Str} {k : Nat} {sp : Sp} {e : Expr} {es : List Expr} {t : TA} {p pos : Pos} (c : Callee X.prog X.w X.K X.mg X.base x ps k sp) (hr : Room k X.A) (hg : Gl X x) (ha : PA X (e :: es) t)
    (hdb : (x == ("__debug__" : Str)) = false := by decide) (he : starEach (e :: es) X.env = (false, eval e X.env) :: starEach es X.env := by rfl) (hpl : (backTo pos (starEach es X.env)).any (·.1) = false := by rfl) :
    PE X (.Call (.Name x p) (e :: es) [] pos) (tCall sp [] E0 t) := by
  obtain ⟨f, fd, hm, hk, hb, F⟩ := c.ex
  exact pe_call F hr hg hm hk hb .nil pass0 ha hdb he hpl
structure Blt (mg : Str → Option Value) : Prop where
  len_ : mg "len" = none
  range_ : mg "range" = none
  divmod_ : mg "divmod" = none
  max_ : mg "max" = none
  min_ : mg "min" = none
  sum_ : mg "sum" = none
  all_ : mg "all" = none
  isinstance_ : mg "isinstance" = none
  int_ : mg "int" = none
  bool_ : mg "bool" = none
  list_ : mg "list" = none
  tuple_ : mg "tuple" = none
  enumerate_ : mg "enumerate" = none
  zip_ : mg "zip" = none
  sorted_ : mg "sorted" = none
  set_ : mg "set" = none
  dict_ : mg "dict" = none
  str_ : mg "str" = none
  any_ : mg "any" = none
  reversed_ : mg "reversed" = none
  abs_ : mg "abs" = none
def But (a : Addr) (H H' : Hp) : Prop := ∀ b o, b ≠ a → H b = some o → H' b = some o
theorem But.refl (a : Addr) (H : Hp) : But a H H := fun _ _ _ h => h
theorem But.trans {a : Addr} {H H1 H2 : Hp} (x : But a H H1) (y : But a H1 H2) : But a H H2 := fun c o n h => y c o n (x c o n h)
theorem But.upd_at {a : Addr} {H : Hp} {o : HO} : But a H (upd H a o) := fun b u n h => by rw [upd_ne n]; exact h
theorem But.new {a p : Addr} {H H1 : Hp} {o : HO} (x : But a H H1) (hp : H1 p = none) : But a H (upd H1 p o) := fun b u n h => by
  rw [upd_ne (ne_of_none (x b u n h) hp)]; exact x b u n h
theorem Same.new {p : Addr} {H H1 : Hp} {o : HO} (x : Same H H1) (hp : H1 p = none) : Same H (upd H1 p o) := fun b u h => by
  rw [upd_ne (ne_of_none (x b u h) hp)]; exact x b u h
theorem But.free {a p : Addr} {H H' : Hp} (x : But a H H') (n : p ≠ a) (h : H' p = none) : H p = none := by
  cases q : H p with
  | none => rfl
  | some o => rw [x p o n q] at h; cases h
theorem comp_range {js : List Nat} {k : Nat} {lo : Int} {n : Nat} {g : TG} {tc : TT} {te : TE} {R : Hp → Prop} {σ : St} {H : Hp} {D : Addr} (Pv : Nat → St → Hp → Prop) (h0 : Pv 0 (emS js k σ) (upd H D (.lst [])))
    (hs : ∀ i σ H, i < n → Pv i σ H → g (.int (lo + i)) σ H fun σ2 H2 => sApp D tc te { nx := Pv (i + 1), rt := fun _ _ => False, ct := Pv (i + 1), bk := fun _ H' => R H' } σ2 H2) (hd : ∀ σ H, Pv n σ H → R H) :
    ∃ W : Nat → Nat → St → Hp → Prop, (∃ m, W 0 m (emS js k σ) (upd H D (.lst []))) ∧ ∀ i m σ H, W i m σ H →
      ((Itr lo n).stop i H ∧ R H) ∨ ((Itr lo n).go i H ∧ ∃ N : St → Hp → Prop, (∀ σ' H', N σ' H' → ∃ m', m' < m ∧ W (i + 1) m' σ' H') ∧ ∀ x H', (Itr lo n).yld i H x H' → g x σ H' fun σ2 H2 => sApp D tc te { nx := N, rt := fun _ _ => False, ct := N, bk := fun _ H' => R H' } σ2 H2) :=
  for_range (D := { nx := fun _ H' => R H', rt := fun _ _ => False }) Pv h0 hs hd
theorem comp_list {js : List Nat} {k : Nat} {K : PySem.W.Frag} {a : Addr} {xs : List V} {g : TG} {tc : TT} {te : TE} {R : Hp → Prop} {σ : St} {H : Hp} {D : Addr} (Pv : Nat → St → Hp → Prop) (h0 : Pv 0 (emS js k σ) (upd H D (.lst []))) (hl : ∀ i σ H, i ≤ xs.length → Pv i σ H → SqL K H a xs)
    (hs : ∀ i x σ H, xs[i]? = some x → Pv i σ H → g x σ H fun σ2 H2 => sApp D tc te { nx := Pv (i + 1), rt := fun _ _ => False, ct := Pv (i + 1), bk := fun _ H' => R H' } σ2 H2) (hd : ∀ σ H, Pv xs.length σ H → R H) :
    ∃ W : Nat → Nat → St → Hp → Prop, (∃ m, W 0 m (emS js k σ) (upd H D (.lst []))) ∧ ∀ i m σ H, W i m σ H →
      ((Itl K a).stop i H ∧ R H) ∨ ((Itl K a).go i H ∧ ∃ N : St → Hp → Prop, (∀ σ' H', N σ' H' → ∃ m', m' < m ∧ W (i + 1) m' σ' H') ∧ ∀ x H', (Itl K a).yld i H x H' → g x σ H' fun σ2 H2 => sApp D tc te { nx := N, rt := fun _ _ => False, ct := N, bk := fun _ H' => R H' } σ2 H2) :=
  for_list (D := { nx := fun _ H' => R H', rt := fun _ _ => False }) Pv h0 hl hs hd
theorem comp_tup {js : List Nat} {k : Nat} {K : PySem.W.Frag} {a : Addr} {xs : List V} {g : TG} {tc : TT} {te : TE} {R : Hp → Prop} {σ : St} {H : Hp} {D : Addr} (Pv : Nat → St → Hp → Prop) (h0 : Pv 0 (emS js k σ) (upd H D (.lst []))) (hl : ∀ i σ H, i ≤ xs.length → Pv i σ H → SqT K H a xs)
    (hs : ∀ i x σ H, xs[i]? = some x → Pv i σ H → g x σ H fun σ2 H2 => sApp D tc te { nx := Pv (i + 1), rt := fun _ _ => False, ct := Pv (i + 1), bk := fun _ H' => R H' } σ2 H2) (hd : ∀ σ H, Pv xs.length σ H → R H) :
    ∃ W : Nat → Nat → St → Hp → Prop, (∃ m, W 0 m (emS js k σ) (upd H D (.lst []))) ∧ ∀ i m σ H, W i m σ H →
      ((Itt K a).stop i H ∧ R H) ∨ ((Itt K a).go i H ∧ ∃ N : St → Hp → Prop, (∀ σ' H', N σ' H' → ∃ m', m' < m ∧ W (i + 1) m' σ' H') ∧ ∀ x H', (Itt K a).yld i H x H' → g x σ H' fun σ2 H2 => sApp D tc te { nx := N, rt := fun _ _ => False, ct := N, bk := fun _ H' => R H' } σ2 H2) :=
  for_tup (D := { nx := fun _ H' => R H', rt := fun _ _ => False }) Pv h0 hl hs hd
theorem But.through {a l : Addr} {H H1 H2 : Hp} {o : HO} (x : But a H H1) (hl : H1 l = none) (y : But l (upd H1 l o) H2) : But a H H2 := fun b u n h => by
  have h1 := x b u n h
  have nl : b ≠ l := ne_of_none h1 hl
  exact y b u nl (by rw [upd_ne nl]; exact h1)
end L2
end
section
set_option Elab.async false
set_option linter.all false
set_option maxRecDepth 100000
set_option maxHeartbeats 4000000
set_option autoImplicit true
set_option relaxedAutoImplicit true
namespace L2
open PySem PySem.Spec PyProof.Rows
structure QE (X : Cx) (e : Expr) (t : TE) : Prop where
  up : PE X e t
structure QT (X : Cx) (e : Expr) (t : TT) : Prop where
  up : PT X e t
structure QW (X : Cx) (e : Expr) (t : TT) : Prop where
  up : PW X e t
structure QA (X : Cx) (e : List Expr) (t : TA) : Prop where
  up : PA X e t
structure QS (X : Cx) (e : Stmt) (t : TS) : Prop where
  up : PS X e t
structure QSs (X : Cx) (e : List Stmt) (t : TS) : Prop where
  up : PSs X e t
structure QG (X : Cx) (e : Expr) (t : TG) : Prop where
  up : PG X e t
structure QGs (X : Cx) (e : List Expr) (t : TGs) : Prop where
  up : PGs X e t
structure QI (X : Cx) (a b : Expr) (t : TI) : Prop where
  up : PI X a b t
structure QO (X : Cx) (e : Option Expr) (t : TO) : Prop where
  up : PO X e t
structure QIfs (X : Cx) (e : List Expr) (t : TT) : Prop where
  up : PIfs X e t
theorem qv (i : Nat) {x : Str} {pos : Pos} (hN : X.N[i]? = some x := by rfl) (hv : Vis X.env.scope x := by first | exact Or.inl rfl | exact Or.inr (Or.inl rfl) | exact Or.inr (Or.inr rfl)) (hd : (x == ("__debug__" : Str)) = false := by decide) (hcd : (x == ("__classdict__" : Str)) = false := by decide) : QE X (.Name x pos) (tVar i) :=
  ⟨pv i hN hv hd hcd⟩
theorem qe_int {i j pos} : QE X (.Constant (.int i) j pos) (tC (.int i)) :=
  ⟨pe_int ⟩
theorem qe_bl {b j pos} : QE X (.Constant (.bool b) j pos) (tC (.bl b)) :=
  ⟨pe_bl ⟩
theorem qe_non {j pos} : QE X (.Constant .none j pos) (tC .non) :=
  ⟨pe_non ⟩
theorem qe_str {x j pos} : QE X (.Constant (.str x) j pos) (tC (.str x)) :=
  ⟨pe_str ⟩
theorem qe_op {op : Operator} {r : R2} (ho : OpR X (binaryOp op) r) (ha : QE X a ta) (hb : QE X b tb) : QE X (.BinOp a op b pos) (tOp r ta tb) :=
  ⟨pe_op ho ha.up hb.up⟩
theorem qe_un {op : UnaryOp} {r : V → Hp → VK → Prop} (ho : UnR X (unaryOp op) r) (ha : QE X a ta) : QE X (.UnaryOp op a pos) (tUn r ta) :=
  ⟨pe_un ho ha.up⟩
theorem qe_cmpR {op : CmpOp} {r : R2} (ho : OpR X (compareOp op) r) (ha : QE X a ta) (hb : QE X b tb) (hm : behindInMarks op b = false) : QE X (.Compare a [op] [b] pos) (tOp r ta tb) :=
  ⟨pe_cmpR ho ha.up hb.up hm⟩
theorem qe_slice {lo hi : Option Expr} {r : V → Option Int → Option Int → Hp → VK → Prop} (hr : SlR X r) (he : QE X e te) (hl : QO X lo tl) (hu : QO X hi th) : QE X (.Subscript e (.Slice lo hi none p2) pos) (tSl r te tl th) :=
  ⟨pe_slice hr he.up hl.up hu.up⟩
theorem qe_ix {r : R2} (hr : IxR X r) (ha : QE X a ta) (hb : QE X b tb) (hs : PlainIx b) : QE X (.Subscript a b pos) (tOp r ta tb) :=
  ⟨pe_ix hr ha.up hb.up hs⟩
theorem qe_tup {x1} (h : QA X es t) : QE X (.Tuple es x1 pos) (tTup t) :=
  ⟨pe_tup h.up⟩
theorem qe_lst (h : QA X es t) : QE X (.List es pos) (tLst t) :=
  ⟨pe_lst h.up⟩
theorem qe_bm {id : String} (pa : PlainAttrs T) (slot : Slot T name id) (hty : typeOf (.builtin id) = pure (.type "method_descriptor")) (hm : MtR X id r) (ho : QE X o to) (ha : QA X (e :: es) t) (hbase : attributeBase o name X.env (eval o X.env) = eval o X.env := by rfl) (hfew : ((backTo cpos (starEach (e :: es) X.env)).all (fun x => !x.1) && (backToKw cpos (keywordEach [] X.env)).all (fun x => x.1.isSome)
      && decide ((e :: es).length + ([] : List Keyword).length + (if ([] : List Keyword).isEmpty then 0 else 1) < 30)) = true := by rfl) (hline : (apos.endLine == cpos.line) = true := by rfl) (hs : starEach (e :: es) X.env = (false, eval e X.env) :: starEach es X.env := by rfl) (hplain : (backTo cpos (starEach es X.env)).any (·.1) = false := by rfl) : QE X (.Call (.Attribute o name apos) (e :: es) [] cpos) (tBM X.K T r to t) :=
  ⟨pe_bm pa slot hty hm ho.up ha.up hbase hfew hline hs hplain⟩
theorem qe_bm0 {id : String} (pa : PlainAttrs T) (slot : Slot T name id) (hty : typeOf (.builtin id) = pure (.type "method_descriptor")) (hm : MtR X id r) (ho : QE X o to) (hbase : attributeBase o name X.env (eval o X.env) = eval o X.env := by rfl) (hline : (apos.endLine == cpos.line) = true := by rfl) : QE X (.Call (.Attribute o name apos) [] [] cpos) (tBM0 X.K T r to) :=
  ⟨pe_bm0 pa slot hty hm ho.up hbase hline⟩
theorem qe_callB {id : String} (hc : CallR X (.builtin id) r) (hg : Gl X x) (hm : X.mg x = none) (hv : bootBuiltins x = some (.builtin id)) (ha : QA X (e :: es) t) (hn : x ≠ "__name__" := by decide) (hdb : (x == ("__debug__" : Str)) = false := by decide) (he : starEach (e :: es) X.env = (false, eval e X.env) :: starEach es X.env := by rfl) (hpl : (backTo pos (starEach es X.env)).any (·.1) = false := by rfl) : QE X (.Call (.Name x p) (e :: es) [] pos) (tCB r t) :=
  ⟨pe_callB hc hg hm hv ha.up hn hdb he hpl⟩
theorem qe_callTy (hc : CallR X (.type T) r) (hg : Gl X x) (hm : X.mg x = none) (hv : bootBuiltins x = some (.type T)) (ha : QA X (e :: es) t) (hn : x ≠ "__name__" := by decide) (hdb : (x == ("__debug__" : Str)) = false := by decide) (he : starEach (e :: es) X.env = (false, eval e X.env) :: starEach es X.env := by rfl) (hpl : (backTo pos (starEach es X.env)).any (·.1) = false := by rfl) : QE X (.Call (.Name x p) (e :: es) [] pos) (tCB r t) :=
  ⟨pe_callTy hc hg hm hv ha.up hn hdb he hpl⟩
theorem qe_fn {X : Cx} {x : Str} {ps : List Str} {k : Nat} {sp : Sp} {e : Expr} {es : List Expr} {t : TA} {p pos : Pos} (c : Callee X.prog X.w X.K X.mg X.base x ps k sp) (hr : Room k X.A) (hg : Gl X x) (ha : QA X (e :: es) t) (hdb : (x == ("__debug__" : Str)) = false := by decide) (he : starEach (e :: es) X.env = (false, eval e X.env) :: starEach es X.env := by rfl) (hpl : (backTo pos (starEach es X.env)).any (·.1) = false := by rfl) : QE X (.Call (.Name x p) (e :: es) [] pos) (tCall sp [] E0 t) :=
  ⟨pe_fn c hr hg ha.up hdb he hpl⟩
theorem qe_comp {wi : TI} (ok : CompOk sc N scope NY js) (hsc : X.env.scope = sc) (hN : X.N = N) (hk : NY.length = N.length + k) (hc : X.calm = true) (hit : QI X target iter wi) (hg : ∀ cl C s₀ H₀ fp, QG (cxComp X NY scope cl C s₀ H₀ fp) target g) (hi : ∀ cl C s₀ H₀ fp, QIfs (cxComp X NY scope cl C s₀ H₀ fp) ifs tc) (he : ∀ cl C s₀ H₀ fp, QE (cxComp X NY scope cl C s₀ H₀ fp) elt te) (hs : ∀ x, foldedSetIterable iter X.env x = pure x := by intro _; rfl) : QE X (.ListComp elt [⟨target, iter, ifs, 0⟩] scope pos) (tComp js k wi g tc te) :=
  ⟨pe_comp ok hsc hN hk hc hit.up (fun cl C s₀ H₀ fp => (hg cl C s₀ H₀ fp).up) (fun cl C s₀ H₀ fp => (hi cl C s₀ H₀ fp).up) (fun cl C s₀ H₀ fp => (he cl C s₀ H₀ fp).up) hs⟩
theorem qs_comp {wi : TI} {i : Nat} {y : Str} {py spos : Pos} (ok : CompOk sc N scope NY js) (hsc : X.env.scope = sc) (hN : X.N = N) (hk : NY.length = N.length + k) (hc : X.calm = true) (hit : QI X target iter wi) (hg : ∀ cl C s₀ H₀ fp, QG (cxComp X NY scope cl C s₀ H₀ fp) target g) (hi : ∀ cl C s₀ H₀ fp, QIfs (cxComp X NY scope cl C s₀ H₀ fp) ifs tc) (he : ∀ cl C s₀ H₀ fp, QE (cxComp X NY scope cl C s₀ H₀ fp) elt te) (nd : X.N.Nodup) (hy : X.N[i]? = some y) (hl : Loc X.env.scope y) (hsw : swapsWith (.ListComp elt [⟨target, iter, ifs, 0⟩] scope pos) (some (.Name y py)) spos.line X.env = pure true) (hs : ∀ x, foldedSetIterable iter X.env x = pure x := by intro _; rfl) (hf : X.fn y = true ∨ X.env.scope.names.lookup y = some .local := by first | exact .inl rfl | exact .inr rfl | assumption) : QS X (.Assign [.Name y py] (.ListComp elt [⟨target, iter, ifs, 0⟩] scope pos) spos) (tAsg (tComp js k wi g tc te) (gName i)) :=
  ⟨ps_comp ok hsc hN hk hc hit.up (fun cl C s₀ H₀ fp => (hg cl C s₀ H₀ fp).up) (fun cl C s₀ H₀ fp => (hi cl C s₀ H₀ fp).up) (fun cl C s₀ H₀ fp => (he cl C s₀ H₀ fp).up) nd hy hl hsw hs hf⟩
theorem qo_none  : QO X none tNoPart :=
  ⟨po_none ⟩
theorem qo_some (h : QE X e te) : QO X (some e) (tPart te) :=
  ⟨po_some h.up⟩
theorem qa_nil  : QA X [] tNil :=
  ⟨pa_nil ⟩
theorem qa_cons (ha : QE X e te) (hr : QA X es t) (hs : starEach (e :: es) X.env = (false, eval e X.env) :: starEach es X.env := by rfl) : QA X (e :: es) (tCons te t) :=
  ⟨pa_cons ha.up hr.up hs⟩
theorem qt_cmpR {op : CmpOp} {r : R2} (ho : OpR X (compareOp op) r) (ha : QE X a ta) (hb : QE X b tb) (hm : behindInMarks op b = false) : QT X (.Compare a [op] [b] pos) (tTest (tOp r ta tb)) :=
  ⟨pt_cmpR ho ha.up hb.up hm⟩
theorem qt_not (ha : QT X a tA) : QT X (.UnaryOp .Not a pos) (tNot tA) :=
  ⟨pt_not ha.up⟩
theorem qw_and {rest : List Expr} (ha : QT X a tA) (hb : QW X (.BoolOp .And (b :: rest) pos) tB') : QW X (.BoolOp .And (a :: b :: rest) pos) (tAnd tA tB') :=
  ⟨pw_and ha.up hb.up⟩
theorem qw_and1 (ha : QT X a tA) : QW X (.BoolOp .And [a] pos) tA :=
  ⟨pw_and1 ha.up⟩
theorem qw_or {rest : List Expr} (ha : QT X a tA) (hb : QW X (.BoolOp .Or (b :: rest) pos) tB') : QW X (.BoolOp .Or (a :: b :: rest) pos) (tOr tA tB') :=
  ⟨pw_or ha.up hb.up⟩
theorem qw_or1 (ha : QT X a tA) : QW X (.BoolOp .Or [a] pos) tA :=
  ⟨pw_or1 ha.up⟩
theorem QW.pt {X : Cx} {e : Expr} {t : TT} (h : QW X e t) : QT X e t :=
  ⟨PW.pt h.up⟩
theorem qt_val {e : Expr} {t : TE} (h : QE X e t) (he : ∀ whole, isTrue e X.env whole = (do let v ← whole; standAt e.pos; holding [v] (truthy v)) := by intro _; rfl) : QT X e (tB t) :=
  ⟨pt_val h.up he⟩
theorem qi_range1 {a : Expr} {ta : TA} {p pos : Pos} (hg : Gl X "range") (hm : X.mg "range" = none) (ha : QA X [a] ta) (hs : starEach [a] X.env = [(false, eval a X.env)] := by rfl) : QI X tg (.Call (.Name "range" p) [a] [] pos) (iRng1 ta) :=
  ⟨pi_range1 hg hm ha.up hs⟩
theorem qi_enum {a : Expr} {ta : TA} {p pos : Pos} (hg : Gl X "enumerate") (hm : X.mg "enumerate" = none) (ha : QA X [a] ta) (hs : starEach [a] X.env = [(false, eval a X.env)] := by rfl) : QI X (.Tuple elts k tpos) (.Call (.Name "enumerate" p) [a] [] pos) (iEnum X.K ta) :=
  ⟨pi_enum hg hm ha.up hs⟩
theorem qi_seq {tg l : Expr} {tl : TE} (hl : QE X l tl) : QI X tg l (iSeq X.K tl) :=
  ⟨pi_seq hl.up⟩
theorem qg_name {i : Nat} {x : Str} (hN : X.N.Nodup) (hi : X.N[i]? = some x) (hx : Loc X.env.scope x) (hf : X.fn x = true ∨ X.env.scope.names.lookup x = some .local := by first | exact .inl rfl | exact .inr rfl | assumption) : QG X (.Name x pos) (gName i) :=
  ⟨pg_name hN hi hx hf⟩
theorem qg_tup {es : List Expr} {k : Nat} {t : TGs} {n : Nat} (hc : X.calm = true) (h : QGs X es t) (hn : (assignEach es X.env).length = n := by rfl) (hst : (assignEach es X.env).findIdx? (·.1) = none := by rfl) : QG X (.Tuple es k pos) (gTup X.K n t) :=
  ⟨pg_tup hc h.up hn hst⟩
theorem qg_tupL {es : List Expr} {k : Nat} {t : TGs} {n : Nat} (hc : X.calm = true) (h : QGs X es t) (hn : (assignEach es X.env).length = n := by rfl) (hst : (assignEach es X.env).findIdx? (·.1) = none := by rfl) : QG X (.Tuple es k pos) (gTupL X.K n t) :=
  ⟨pg_tupL hc h.up hn hst⟩
theorem qgs_nil  : QGs X [] gNil :=
  ⟨pgs_nil ⟩
theorem qgs_cons {e : Expr} {es : List Expr} {t : TG} {u : TGs} (h1 : QG X e t) (h2 : QGs X es u) (hs : (assignEach (e :: es) X.env).map (·.2) = assign e X.env :: (assignEach es X.env).map (·.2) := by rfl) : QGs X (e :: es) (gCons t u) :=
  ⟨pgs_cons h1.up h2.up hs⟩
theorem qg_sub {o i : Expr} {to ti : TE} {t : TSet} (ho : QE X o to) (hi : QE X i ti) (hs : PSet X t) (ha : ∀ v, assign (.Subscript o i pos) X.env v = (do
      let ov ← holding [v] (eval o X.env)
      let iv ← holding [v, ov] (eval i X.env)
      standAt pos
      holding [v, ov, iv] (setItem ov iv v)
      release [v, ov, iv] []) := by intro _; rfl) : QG X (.Subscript o i pos) (gSub to ti t) :=
  ⟨pg_sub ho.up hi.up hs ha⟩
theorem qs_set {i : Nat} {x : Str} {e : Expr} {te : TE} {pos' : Pos} (hN : X.N.Nodup) (hi : X.N[i]? = some x) (hx : Loc X.env.scope x) (he : QE X e te) (hs : swapsWith e (some (.Name x pos')) pos.line X.env = pure false := by rfl) (hf : X.fn x = true ∨ X.env.scope.names.lookup x = some .local := by first | exact .inl rfl | exact .inr rfl | assumption) : QS X (.Assign [.Name x pos'] e pos) (tAsg te (gName i)) :=
  ⟨ps_set hN hi hx he.up hs hf⟩
theorem qs_asg {tg e : Expr} {te : TE} {g : TG} (he : QE X e te) (hg : QG X tg g) (hs : swapsWithSole [tg] e pos.line X.env = pure false := by rfl) (hw : swappedStores [tg] e X.env = pure none := by rfl) (h1 : (assignEach [tg] X.env).map (·.2) = [assign tg X.env] := by rfl) : QS X (.Assign [tg] e pos) (tAsg te g) :=
  ⟨ps_asg he.up hg.up hs hw h1⟩
theorem qs_expr (he : QE X e te) (hs : swapsWith e none pos.line X.env = pure false := by rfl) : QS X (.Expr e pos) (tDrop te) :=
  ⟨ps_expr he.up hs⟩
theorem qs_ret (he : QE X e te) : QS X (.Return (some e) pos) (tRet te) :=
  ⟨ps_ret he.up⟩
theorem qs_if {c : Expr} {a b : List Stmt} {tc : TT} (hc : QT X c tc) (ha : QSs X a t) (hb : QSs X b u) : QS X (.If c a b pos) (tIfS tc t u) :=
  ⟨ps_if hc.up ha.up hb.up⟩
theorem qs_for {iter : Expr} {body : List Stmt} {wi : TI} {g : TG} {tb : TS} {pos : Pos} (hp : PassesOwn (model X.prog X.w) X.A X.env X.xe) (hc : X.calm = true) (hi : QI X tg iter wi) (hg : QG X tg g) (hb : QSs X body tb) (hs : ∀ x, foldedSetIterable iter X.env x = pure x := by intro _; rfl) : QS X (.For tg iter body [] pos) (tFor wi g tb) :=
  ⟨ps_for hp hc hi.up hg.up hb.up hs⟩
theorem qss_cons {st : Stmt} {rest : List Stmt} (h1 : QS X st t) (h2 : QSs X rest u) : QSs X (st :: rest) (tSeq t u) :=
  ⟨pss_cons h1.up h2.up⟩
theorem qss_one {st : Stmt} (h1 : QS X st t) : QSs X [st] t :=
  ⟨pss_one h1.up⟩
theorem qss_nil  : QSs X [] tNext :=
  ⟨pss_nil ⟩
theorem qe_bltn {x : Str} {v : V} {u : Value} {pos : Pos} (hg : Gl X x) (hm : X.mg x = none) (hv : bootBuiltins x = some u) (r : RelV v u) (hn : x ≠ "__name__" := by decide) (hd : (x == ("__debug__" : Str)) = false := by decide) : QE X (.Name x pos) (tC v) :=
  ⟨pe_bltn hg hm hv r hn hd⟩
theorem qif_nil {X : Cx} : QIfs X [] tYes :=
  ⟨pif_nil ⟩
theorem qif_one {X : Cx} {c : Expr} {t : TT} (h : QT X c t) : QIfs X [c] t :=
  ⟨pif_one h.up⟩
end L2
end
section
set_option Elab.async false
set_option linter.all false
set_option maxRecDepth 100000
namespace L2
open PySem PySem.Spec PyProof.Rows
section
variable {κ : Type} [DecidableEq κ]
def valV (kvs : List (κ × V)) (k : κ) : Option V := (kvs.find? fun kv => decide (kv.1 = k)).map (·.2)
theorem valV_pos {p : κ × V} {r : List (κ × V)} {k : κ} (e : p.1 = k) : valV (p :: r) k = some p.2 := by simp [valV, List.find?_cons, e]
theorem valV_neg {p : κ × V} {r : List (κ × V)} {k : κ} (e : ¬ p.1 = k) : valV (p :: r) k = valV r k := by simp [valV, List.find?_cons, e]
theorem KV.val {kvs : List (κ × V)} {vs : List (κ × Value)} (r : KV kvs vs) (k : κ) : RelO (valV kvs k) (valueAt vs k) := by
  unfold KV at r
  induction r with
  | nil => exact True.intro
  | @cons p q ps qs h t ih =>
    obtain ⟨h1, h2⟩ := h
    by_cases e : p.1 = k
    · have e' : q.1 = k := h1.symm.trans e
      have b : valueAt (q :: qs) k = some q.2 := by simp [valueAt, List.find?_cons, e']
      rw [valV_pos e, b]; exact h2
    · have e' : ¬ q.1 = k := fun z => e (h1.trans z)
      have b : valueAt (q :: qs) k = valueAt qs k := by simp [valueAt, List.find?_cons, e']
      rw [valV_neg e, b]; exact ih
theorem KV.length {kvs : List (κ × V)} {vs : List (κ × Value)} (r : KV kvs vs) : kvs.length = vs.length := Paired.length r
end
section
variable {P : Program} {w : World} {H : Hp} {h : Heap} {a : Addr}
theorem rd_of {u : HO} (ok : HOk P w H h) (e : Rd H a u) : ObjOk P w H h a u := e.ok ok
theorem dk_rd {kvs : List (Key × V)} (ok : HOk P w H h) (e : Rd H a (.dK kvs)) : kvs.length ≤ sizeLine ∧ (a == sysModules) = false ∧ ∃ vs, KV kvs vs ∧ h.DictOf (mixKind P w) a vs :=
  show ObjOk P w H h a (.dK kvs) from rd_of ok e
theorem dk_of {kvs : List (Key × V)} (ok : HOk P w H h) (e : H a = some (.dK kvs)) : kvs.length ≤ sizeLine ∧ (a == sysModules) = false ∧ ∃ vs, KV kvs vs ∧ h.DictOf (mixKind P w) a vs := dk_rd ok (.inl e)
end
section
variable {X : Cx} {pins : List (Addr × Obj)} {σ : St} {H : Hp} {s : Shared} {a : Addr} {y v : V} {u r : Value} {o : Option V} {A : Around} {E : Value → Shared → Prop}
end
section
variable {X : Cx} {pins : List (Addr × Obj)} {σ : St} {H : Hp} {s : Shared} {a : Addr} {kvs : List (Key × V)} {k : Key} {u : Value} {A : Around} {E : Value → Shared → Prop}
end
section
variable {X : Cx} {o i e value : Expr} {pos pos' tpos : Pos} {td ty tv : TE}
end
section
variable {X : Cx} {pos : Pos}
end
section
variable {X : Cx} {pins : List (Addr × Obj)} {σ : St} {H : Hp} {s : Shared} {a : Addr} {y d : V} {u r : Value} {o : Option V} {A : Around} {E : Value → Shared → Prop}
end
section
variable {X : Cx} {o e f : Expr} {apos cpos : Pos} {td ty tx : TE}
end
section
variable {X : Cx} {pins : List (Addr × Obj)} {σ : St} {H : Hp} {s : Shared} {a : Addr} {kvs : List (Key × V)} {A : Around} {E : Value → Shared → Prop}
end
section
variable {X : Cx} {pins : List (Addr × Obj)} {σ : St} {H : Hp} {s : Shared} {a : Addr} {y : V} {u : Value} {A : Around} {E : Value → Shared → Prop}
end
end L2
namespace L2
open PySem PySem.Spec PyProof.Rows
section
variable {X : Cx}
end
section
variable {κ : Type} [DecidableEq κ]
end
end L2
end
section
set_option Elab.async false
set_option linter.all false
set_option maxRecDepth 100000
set_option maxHeartbeats 4000000
namespace L2
open PySem PySem.Spec PyProof.Rows
section
variable {X : Cx}
end
section
variable {P : Program} {w : World} {K : PySem.W.Frag} {mg : Str → Option Value} {base : Heap}
end
end L2
end
section
set_option Elab.async false
set_option linter.all false
set_option maxRecDepth 100000
set_option maxHeartbeats 4000000
namespace L2
open PySem PySem.Spec PyProof.Rows
end L2
end
section
set_option Elab.async false
set_option linter.all false
set_option maxRecDepth 100000
set_option maxHeartbeats 4000000
namespace PySem.W
open PySem PySem.Calls PyProof.Rows PyProof.V PySem.Spec
theorem lri_no_len : typeLookup (.type "list_reverseiterator") "__len__" = pure none := by rw [typeLookup_type, builtinLookup_eq_fast]; kernel_rfl
theorem lri_hint : typeLookup (.type "list_reverseiterator") "__length_hint__" = pure (some (.builtin "list_reverseiterator.__length_hint__")) := by rw [typeLookup_type, builtinLookup_eq_fast]; kernel_rfl
section
variable {prog : Program} {w : World} {A : Around} {E : Value → Shared → Prop} {s : Shared} {r l : Addr}
theorem hint_rev {Q : Bool → Shared → Prop} (hT : s.TypeIs (.ref r) "list_reverseiterator") (h : Q false s) : wpAny (model prog w) A (Builtin.List.listLengthHint (.ref r)) Q E s := by
  unfold Builtin.List.listLengthHint
  refine wpAny_bind (wpAny_specialOf hT lri_no_len ?_)
  refine wpAny_ite_split (fun hab => absurd hab (by decide)) (fun _ => ?_)
  refine wpAny_ite_split (fun hab => absurd hab (by decide)) (fun _ => ?_)
  refine wpAny_bind (wpAny_specialOf hT lri_hint ?_)
  generalize hid : ("list_reverseiterator.__length_hint__" : String) = id0
  wp_delta
  rw [show splitId id0 = some ("list_reverseiterator", "__length_hint__") from by subst hid; decide +kernel]
  subst hid
  refine wpAny_bind (wpAny_isInstance (T := "list_reverseiterator") (b := true) hT (by rw [isSubtype_type]; kernel_rfl) ?_)
  refine wpAny_ite_split (fun hab => absurd hab (by decide)) (fun _ => ?_)
  refine wpAny_ite_split (fun _ => ?_) (fun hab => absurd (by decide +kernel) hab)
  refine wpAny_ite_split (fun hab => absurd hab (by decide +kernel)) (fun _ => ?_)
  exact wpAny_pure h
theorem rev_extend {items : Array Value} {R : Result → Shared → Prop} (hh : A.handled = none) (hl : s.heap.IsList l items) (hit : s.heap.IsRevIter r l ((items.size : Int) - 1)) (hne : l ≠ r) (S : Addr) (hSr : S ≠ r) (hSl : S ≠ l) (res : Value) (c₀ : Nat) (hS : s.heap.get? S = some { cls := .type "list", data := .seq #[] c₀ })
    (hR : ∀ h' tk acc' c', (∀ b o, b ≠ S → b ≠ r → s.heap.get? b = some o → h'.get? b = some o) → h'.get? S = some { cls := .type "list", dict := none, data := .seq acc' c', slots := #[] } → ItemsOf (fun i v => items[items.size - 1 - i]? = some v) acc' items.size → R (.ok (.ret res)) { s with heap := h', toks := tk }) (hn : items.size ≤ sizeLine) :
    wpAny (model prog w) A.in1 (Builtin.List.listExtendWith (.ref S) (.ref r) res)
      (fun fin s' => match fin with | .done f => R (.ok f) s' | .again c' => c'.quiet = true ∧ codeAny (model prog w) A c' R s') (fun e s' => R (.error e) s') s := by
  have hSf : S ∉ [r, l] := by simp only [List.mem_cons, List.not_mem_nil, or_false, not_or]; exact ⟨hSr, hSl⟩
  have W := Walks.listRev (prog := prog) (w := w) (A := A.in1) hh r l hne items
  have key : ∀ (h : Heap) (c₁ tk : Nat), (0 ≤ items.size ∧ h.IsRevIter r l ((items.size : Int) - 1 - ((0 : Nat) : Int)) ∧ h.IsList l items) → (∀ b o, b ≠ S → s.heap.get? b = some o → h.get? b = some o) →
      h.get? S = some { cls := .type "list", data := .seq #[] c₁ } → codeAny (model prog w) A (.builtin "list.extend.loop" ⟨[.ref S, .ref r, res], []⟩) R { s with heap := h, toks := tk } := by
    intro h c₁ tk hst hk hS₁
    refine codeAny_extend_loopS W.toS hn S hSf res items.size 0 _ #[] c₁ rfl (Nat.zero_le _) hst hS₁ (ItemsOf.nil _) fun s' acc' c' hm hS' hacc => ?_
    rw [Moved.eq_with hm]
    refine hR s'.heap s'.toks acc' c' (fun b o hb hbr e => hm.heap b o (fun hmem => ?_) (hk b o hb e)) hS' hacc
    rcases List.mem_cons.mp hmem with e' | hmem
    · exact hb e'
    · exact hbr (List.mem_singleton.mp hmem)
  have st0 : 0 ≤ items.size ∧ s.heap.IsRevIter r l ((items.size : Int) - 1 - ((0 : Nat) : Int)) ∧ s.heap.IsList l items := ⟨Nat.zero_le _, (by have e : (items.size : Int) - 1 - ((0 : Nat) : Int) = (items.size : Int) - 1 := (by omega); rw [e]; exact hit), hl⟩
  unfold Builtin.List.listExtendWith
  refine wpAny_bind (wpAny_typeOf (T := "list_reverseiterator") hit.typeIs ?_)
  have h1 : Builtin.List.listSameRef (.ref S) (.ref r) = false := by simp [Builtin.List.listSameRef, hSr]
  have h2 : (Value.type "list_reverseiterator" == Value.type "list") = false := by decide
  have h3 : (Value.type "list_reverseiterator" == Value.type "tuple") = false := by decide
  simp only [h1, h2, h3, Bool.or_false, Bool.false_eq_true, if_false]
  refine wpAny_bind (wpAny_pyIter_revIter hit ?_)
  refine wpAny_bind (wpAny_holding (hint_rev hit.typeIs ?_))
  refine wpAny_ite_split (fun _ => ?_) (fun _ => wpAny_pure ⟨plainId_quiet PySem.F.plain_extend_loop _, key _ c₀ _ st0 (fun b o _ e => e) hS⟩)
  refine wpAny_bind (wpAny_rule ?_)
  refine wpAny_bind ?_
  show wpAny _ _ (updateSeq S (·.push .none) >>= fun _ => updateSeq S (·.pop)) _ _ _
  refine wpAny_bind (wpAny_updateSeq hS rfl ?_)
  have hS₂ := Heap.get?_update_self (Obj.mapSeq (·.push Value.none)) hS rfl
  refine wpAny_updateSeq (hz := by seq_fits) hS₂ rfl ?_
  have hS₃ := Heap.get?_update_self (Obj.mapSeq (·.pop)) hS₂ rfl
  refine wpAny_pure ⟨plainId_quiet PySem.F.plain_extend_loop _, key _ _ _ ?_ (fun b o hb e => ?_) hS₃⟩
  · refine W.frame 0 _ _ st0 fun b hb o e => ?_
    have hbS : b ≠ S := fun h => hSf (h ▸ hb)
    exact (Heap.get?_update_other _ _ (Ne.symm hbS)).trans ((Heap.get?_update_other _ _ (Ne.symm hbS)).trans e)
  · exact (Heap.get?_update_other _ _ (Ne.symm hb)).trans ((Heap.get?_update_other _ _ (Ne.symm hb)).trans e)
theorem rev_init {items : Array Value} {R : Result → Shared → Prop} (hh : A.handled = none) (hl : s.heap.IsList l items) (hit : s.heap.IsRevIter r l ((items.size : Int) - 1)) (hne : l ≠ r) (S : Addr) (hSr : S ≠ r) (hSl : S ≠ l) (hS : s.heap.get? S = some { cls := .type "list", data := .seq #[] })
    (hR : ∀ h' tk acc' c', (∀ b o, b ≠ S → b ≠ r → s.heap.get? b = some o → h'.get? b = some o) → h'.get? S = some { cls := .type "list", dict := none, data := .seq acc' c', slots := #[] } → ItemsOf (fun i v => items[items.size - 1 - i]? = some v) acc' items.size → R (.ok (.ret .none)) { s with heap := h', toks := tk }) (hn : items.size ≤ sizeLine) :
    wpAny (model prog w) A.in1 (Builtin.«list.__init__» ⟨[.ref S, .ref r], []⟩)
      (fun fin s' => match fin with | .done f => R (.ok f) s' | .again c' => c'.quiet = true ∧ codeAny (model prog w) A c' R s') (fun e s' => R (.error e) s') s := by
  show wpAny _ _ (do let old ← Builtin.List.listItems (.ref S); Builtin.List.listUpdate (.ref S) (fun _ => #[]); letGo old.toList.reverse; Builtin.List.listExtendWith (.ref S) (.ref r) .none) _ _ s
  refine wpAny_bind ?_
  unfold Builtin.List.listItems
  refine wpAny_bind (wpAny_seqItems hS rfl (wpAny_pure ?_))
  show wpAny _ _ (updateSeq S (fun _ => #[]) >>= fun _ => letGo (#[] : Array Value).toList.reverse >>= fun _ => Builtin.List.listExtendWith (.ref S) (.ref r) .none) _ _ s
  refine wpAny_bind (wpAny_updateSeq hS rfl ?_)
  have hS₂ := Heap.get?_update_self (Obj.mapSeq (fun _ => (#[] : Array Value))) hS rfl
  have oth : ∀ b o, b ≠ S → s.heap.get? b = some o → (s.heap.update S (Obj.mapSeq (fun _ => (#[] : Array Value)))).get? b = some o :=
    fun b o hb e => (Heap.get?_update_other _ _ (Ne.symm hb)).trans e
  refine wpAny_bind (wpAny_letGo ?_)
  refine rev_extend (items := items) hh (hl.at fun o e => oth l o hSl.symm e) (hit.at fun o e => oth r o hSr.symm e) hne S hSr hSl .none _ hS₂ (fun h' tk acc' c' hk hS' hacc => ?_) hn
  exact hR h' tk acc' c' (fun b o hb hbr e => hk b o hb hbr (oth b o hb e)) hS' hacc
theorem call_list_rev {items : Array Value} {Q : Value → Shared → Prop} (hh : A.handled = none) (hl : s.heap.IsList l items) (hit : s.heap.IsRevIter r l ((items.size : Int) - 1)) (hne : l ≠ r) (hn : items.size ≤ sizeLine)
    (hQ : ∀ h' tk acc' c', (∀ b o, b ≠ r → s.heap.get? b = some o → h'.get? b = some o) → h'.get? s.heap.objs.size = some { cls := .type "list", dict := none, data := .seq acc' c', slots := #[] } → ItemsOf (fun i v => items[items.size - 1 - i]? = some v) acc' items.size → Q (.ref s.heap.objs.size) { s with heap := h', toks := tk }) :
    wpAny (model prog w) A (call (.type "list") [.ref r]) Q E s := by
  refine callType_codes (Q₁ := fun obj s₁ => obj = .ref s.heap.objs.size ∧ s₁ = { s with heap := s.heap.push { cls := .type "list", data := .seq #[] } }) PySem.F.called_list (PySem.F.typeCall_list_1 _) PySem.F.entry_list_init
    (code_list_new _ ⟨rfl, rfl⟩) fun obj s₁ h₁ => ?_
  obtain ⟨rfl, rfl⟩ := h₁
  have hS : (s.heap.push { cls := .type "list", data := .seq #[] }).get? s.heap.objs.size = some { cls := .type "list", data := .seq #[] } := Heap.get?_push_size _ rfl
  have lr : r < s.heap.objs.size := let ⟨_, ho, _⟩ := hit; Heap.lt_size ho
  have ll : l < s.heap.objs.size := let ⟨_, ho, _⟩ := hl; Heap.lt_size ho
  refine ⟨⟨_, hS, rfl⟩, PySem.F.args_list_init_2 _ _, rev_init (A := A.in1) (items := items) hh (hl.at fun o e => Heap.get?_push_of_some _ e) (hit.at fun o e => Heap.get?_push_of_some _ e) hne _ (Nat.ne_of_gt lr) (Nat.ne_of_gt ll) hS (fun h' tk acc' c' hk hS' hacc => ?_) hn⟩
  exact ⟨rfl, hQ h' tk acc' c' (fun b o hb e => hk b o (Nat.ne_of_lt (Heap.lt_size e)) hb (Heap.get?_push_of_some _ e)) hS' hacc⟩
end
end PySem.W
namespace L2
open PySem PySem.Spec PyProof.Rows
def tListRev (K : PySem.W.Frag) (t : TA) : TE := fun σ H Q => t σ H fun vs H1 => ∃ p ys, vs = [.ref p] ∧ SqL K H1 p ys ∧ ∀ l, H1 l = none → Q (.ref l) (upd H1 l (.lst ys.reverse))
section
variable {X : Cx}
theorem rev_vals {ys : List V} {its : List Value} {acc : Array Value} (r : Vals ys its) (h : ItemsOf (fun i v => its.toArray[its.toArray.size - 1 - i]? = some v) acc its.toArray.size) : Vals ys.reverse acc.toList := by
  have e : acc.toList = its.reverse := by
    apply List.ext_getElem?
    intro i
    by_cases hi : i < its.length
    · have hs : acc.size = its.length := by have := h.1; simpa using this
      have h1 : acc[i]? = some acc[i] := Array.getElem?_eq_getElem (by omega)
      have h2 := h.2 i _ h1
      rw [Array.getElem?_toList, h1, List.getElem?_reverse hi]
      simpa using h2.symm
    · have hs : acc.size = its.length := by have := h.1; simpa using this
      rw [List.getElem?_eq_none (by rw [Array.length_toList]; omega), List.getElem?_eq_none (by rw [List.length_reverse]; omega)]
  rw [e]
  exact r.reverse
theorem pe_listRev {a : Expr} {ta : TA} {p1 p2 pos pos2 : Pos} (hg : Gl X "list") (hg2 : Gl X "reversed") (hm : X.mg "list" = none) (hm2 : X.mg "reversed" = none) (hc : X.calm = true) (ha : PA X [a] ta)
    (hs2 : starEach [a] X.env = [(false, eval a X.env)] := by rfl) (hs : starEach [.Call (.Name "reversed" p2) [a] [] pos2] X.env = [(false, eval (.Call (.Name "reversed" p2) [a] [] pos2) X.env)] := by rfl) :
    PE X (.Call (.Name "list" p1) [.Call (.Name "reversed" p2) [a] [] pos2] [] pos) (tListRev X.K ta) := by
  intro pins s σ H Q I h
  refine wpAny_Call_Name_kw (ld_blt I hg hm boot_list ?_)
  refine PyProof.Rows.callWith_type1 ?_ hs rfl
  rw [hs]
  show wpAny _ _ (spliced ((false, eval (.Call (.Name "reversed" p2) [a] [] pos2) X.env) :: backTo pos [])) _ _ s
  refine Calls.spliced_cons ?_
  refine wpAny_Call_Name_kw (ld_blt I hg2 hm2 boot_reversed ?_)
  refine PyProof.Rows.callWith_type1 (thn (ha pos2 pins s σ H _ I h) fun us s1 ⟨vs, H1, I1, r1, q1⟩ => ?_) hs2 rfl
  obtain ⟨l, ys, rfl, hq, q⟩ := q1
  obtain ⟨u, rfl, rx⟩ := vals1 r1
  cases rx
  obtain ⟨its, rv, pl, hz⟩ := I1.list hq
  have ll : l < s1.heap.objs.size := let ⟨_, ho, _⟩ := pl.isList; Heap.lt_size ho
  refine call_reversed_list pl.isList (Calls.spliced_nil ?_)
  have hlen := rv.length
  refine PySem.W.call_list_rev (items := its.toArray) (I1.ok.hd hc) (pl.isList.push _) ⟨_, Heap.get?_push_size _ rfl, rfl, rfl⟩ (Nat.ne_of_lt ll) (by rw [List.size_toArray, ← hlen]; exact hz) fun h' tk acc c' hk hS hacc => ?_
  have sz : (s1.heap.push (revObj l ((its.toArray.size : Int) - 1))).objs.size = s1.heap.objs.size + 1 := size_push' ..
  have kp : ∀ b o, s1.heap.get? b = some o → h'.get? b = some o := fun b o e => hk b o (Nat.ne_of_lt (Heap.lt_size e)) (Heap.get?_push_of_some _ e)
  refine ⟨.ref (s1.heap.push (revObj l ((its.toArray.size : Int) - 1))).objs.size, _, I1.laid (t' := tk) kp (by rw [sz]; exact Nat.le_succ _) (show ObjOk X.prog X.w _ h' _ (.lst ys.reverse) from ⟨by rw [List.length_reverse]; exact hz, acc.toList, c', rev_vals rv hacc, ?_⟩), rfl, q _ (I1.hok.fresh (by rw [sz]; exact Nat.le_succ _))⟩
  rw [Array.toArray_toList]; exact hS
theorem qe_listRev {a : Expr} {ta : TA} {p1 p2 pos pos2 : Pos} (hg : Gl X "list") (hg2 : Gl X "reversed") (hm : X.mg "list" = none) (hm2 : X.mg "reversed" = none) (hc : X.calm = true) (ha : QA X [a] ta)
    (hs2 : starEach [a] X.env = [(false, eval a X.env)] := by rfl) (hs : starEach [.Call (.Name "reversed" p2) [a] [] pos2] X.env = [(false, eval (.Call (.Name "reversed" p2) [a] [] pos2) X.env)] := by rfl) :
    QE X (.Call (.Name "list" p1) [.Call (.Name "reversed" p2) [a] [] pos2] [] pos) (tListRev X.K ta) := ⟨pe_listRev hg hg2 hm hm2 hc ha.up hs2 hs⟩
end
end L2
end
section
set_option Elab.async false
set_option linter.all false
set_option maxRecDepth 100000
set_option maxHeartbeats 4000000
namespace HT
open PySem PyProof.Rows
section
variable {prog : Program} {w : World} {A : Around} {E : Value → Shared → Prop} {s : Shared}
theorem cat_tup0 {t b : Addr} {vs ws : List Value} {Q : Value → Shared → Prop} (ht : IsTup s.heap t vs.toArray) (hb : IsTup s.heap b ws.toArray) (hv : vs = []) (h : Q (.ref b) s) : wpAny (model prog w) A (binaryOp .Add (.ref t) (.ref b)) Q E s := by
  obtain ⟨⟨cls, dd, data, sl⟩, ho, hc, n, hd⟩ := id ht
  obtain ⟨⟨cls2, dd2, data2, sl2⟩, ho2, hc2, n2, hd2⟩ := id hb
  simp only at hc hd hc2 hd2
  subst hc hd hc2 hd2
  exact concat_meets ⟨_, ho, rfl⟩ ⟨_, ho2, rfl⟩ noFill_tuple_add seq_tuple_add PySem.F.slot_tuple_add PySem.F.entry_tuple_add (PySem.F.args_tuple_add_2 _ _)
      (tuple_addW0 t b vs.toArray ws.toArray n n2 dd dd2 sl sl2 (by simp [hv])) ⟨ho, ho2, h⟩
theorem getItem_tuple_all {t sl : Addr} {items : Array Value} {vl vu : Value} {lo hi : Option Int} {Q : Value → Shared → Prop} (ht : IsTup s.heap t items) (hs : s.heap.IsSliceOf sl vl vu .none) (pl : IsPart vl lo) (pu : IsPart vu hi)
    (hw : sIx items.size 0 lo = 0 ∧ sIx items.size items.size hi = items.size) (h : Q (.ref t) s) : wpAny (model prog w) A (getItem (.ref t) (.ref sl)) Q E s := by
  obtain ⟨os, hos, hcs, hds⟩ := id hs
  have hTs : s.TypeIs (.ref sl) "slice" := ⟨os, hos, hcs⟩
  unfold getItem
  try with_reducible refine wpAny_holding ?_
  first | refine wpAny_bind (wpAny_pure ?_) | skip
  refine wpAny_bind (wpAny_sequenceKey ht.typeIs (by decide) ?_)
  refine wpAny_bind (wpAny_callSpecial?_slot (name := Str.ofString "__getitem__") ht.typeIs PyProof.Rows.slot_tuple_getitem
    (wpAny_call_entry PyProof.Rows.slot_tuple_getitem ht.typeIs entry_tuple_getitem ?_ (args_tuple_getitem _ _)))
  show wpAny _ _ (Builtin.Tuple.tupleItemsOf (.ref t) >>= _) _ _ s
  refine wpAny_bind (tupleItemsOf_ ht ?_)
  refine wpAny_bind (wpAny_typeOf hTs ?_)
  rw [if_pos (by decide)]
  refine wpAny_bind (sliceApplied_gen hs pl pu ?_)
  have hyes : (((sIx items.size 0 lo : Nat) : Int) == 0 && (1 : Int) == 1 && (sIx items.size items.size hi - sIx items.size 0 lo) == items.size) = true := by
    rw [hw.1, hw.2]; simp
  show wpAny _ _ (if (((sIx items.size 0 lo : Nat) : Int) == 0 && (1 : Int) == 1 && (sIx items.size items.size hi - sIx items.size 0 lo) == items.size) = true then _ else _) _ _ s
  rw [if_pos hyes]
  refine wpAny_bind (m := Builtin.Tuple.tupleIsExact (.ref t)) ?_
  unfold Builtin.Tuple.tupleIsExact
  refine wpAny_bind (wpAny_typeOf ht.typeIs (wpAny_pure ?_))
  rw [if_pos (by decide)]
  exact wpAny_bind (wpAny_rule (wpAny_pure ⟨_, rfl, wpAny_pure h⟩))
end
end HT
namespace L2
open PySem PySem.Spec PyProof.Rows
section
variable {X : Cx}
def rCatT0 (K : PySem.W.Frag) : R2 := fun x y H Q => ∃ a b ys, x = .ref a ∧ y = .ref b ∧ SqT K H a [] ∧ SqT K H b ys ∧ Q (.ref b) H
theorem op_catT0 : OpR X (binaryOp .Add) (rCatT0 X.K) := by
  intro pins s σ H x y v u Q I rx ry h
  obtain ⟨a, b, ys, rfl, rfl, ha, hb, q⟩ := h
  cases rx
  cases ry
  obtain ⟨its, r1, p1, _⟩ := I.tuple ha
  obtain ⟨its2, r2, p2, _⟩ := I.tuple hb
  exact HT.cat_tup0 p1 p2 (r1.nil_iff.mpr rfl) ⟨.ref b, H, I, rfl, q⟩
def rPlusW (K : PySem.W.Frag) : R2 := fun x y H Q => rCatT0 K x y H Q ∨ rPlus K x y H Q
theorem op_plusW : OpR X (binaryOp .Add) (rPlusW X.K) := op_catT0.or op_plus
def rSlTA (K : PySem.W.Frag) : V → Option Int → Option Int → Hp → VK → Prop := fun x lo hi H Q => ∃ a xs, x = .ref a ∧ SqT K H a xs ∧ (HT.sIx xs.length 0 lo = 0 ∧ HT.sIx xs.length xs.length hi = xs.length) ∧ Q (.ref a) H
theorem sl_tupA : SlR X (rSlTA X.K) := by
  intro pins s σ H x v vl vu lo hi sl Q I rx hs pl pu h
  obtain ⟨a, xs, rfl, hx, hw, q⟩ := h
  cases rx
  obtain ⟨its, r, ht, hz⟩ := I.tuple hx
  have hlen : its.toArray.size = xs.length := by rw [List.size_toArray]; exact r.length.symm
  refine ⟨"tuple", _, PyProof.Rows.slot_tuple_getitem.lookup, ht.typeIs, ?_⟩
  exact HT.getItem_tuple_all ht hs pl pu (by rw [hlen]; exact hw) ⟨.ref a, H, I, rfl, q⟩
def rSlW (K : PySem.W.Frag) : V → Option Int → Option Int → Hp → VK → Prop := fun x lo hi H Q => rSlTA K x lo hi H Q ∨ rSl K x lo hi H Q
theorem sl_seqW : SlR X (rSlW X.K) := sl_tupA.or sl_seq
def rEqT0 (K : PySem.W.Frag) : R2 := fun x y H Q => ∃ p q xs, x = .ref p ∧ y = .ref q ∧ SqT K H p xs ∧ SqT K H q [] ∧ Q (.bl (decide (xs = []))) H
theorem op_eqT0 (hu : X.A.units < cLine) : OpR X (compareOp .Eq) (rEqT0 X.K) := by
  intro pins s σ H x y v u Q I rx ry h
  obtain ⟨p, q, xs, rfl, rfl, h1, h2, qq⟩ := h
  cases rx
  cases ry
  obtain ⟨us, r1, t1, _⟩ := I.tuple h1
  obtain ⟨vs, r2, t2, _⟩ := I.tuple h2
  have ev : vs = [] := r2.nil_iff.mpr rfl
  subst ev
  refine SeqAt.eq_tupleAt (e := fun _ => true) (show s.heap.IsTuple p us.toArray from t1) (show s.heap.IsTuple q ([] : List Value).toArray from t2) hu (fun j h1 h2 => absurd h2 (by simp)) ⟨.bl (decide (xs = [])), H, I, ?_, qq⟩
  show Value.bool _ = Value.bool _
  congr 1
  rw [List.size_toArray, ← r1.length]
  cases xs <;> simp
def rEqW (K : PySem.W.Frag) : R2 := fun x y H Q => rEqT0 K x y H Q ∨ rEqG K x y H Q
theorem op_eqW (hu : X.A.units < cLine) : OpR X (compareOp .Eq) (rEqW X.K) := (op_eqT0 hu).or (op_eqG hu)
end
end L2
end
section
set_option Elab.async false
set_option linter.all false
set_option maxRecDepth 100000
set_option maxHeartbeats 4000000
namespace PySem
open Sem (wp)
namespace F
end F
def ItAt (tp : Bool) (h : Heap) (i l : Addr) (k : Nat) : Prop := match tp with
  | true => h.IsTupleIter i l k
  | false => h.IsListIter i l k
def SqAtH (tp : Bool) (h : Heap) (l : Addr) (xs : Array Value) : Prop := match tp with
  | true => h.IsTuple l xs
  | false => h.IsList l xs
section
variable {prog : Program} {w : World} {A : Around} {E : Value → Shared → Prop} {s : Shared}
end
section
variable {prog : Program} {w : World} {A : Around} {E : Value → Shared → Prop} {s : Shared} {t1 t2 : Bool}
end
section
variable {prog : Program} {w : World} {A : Around} {E : Value → Shared → Prop} {s : Shared} {t1 t2 : Bool}
end
end PySem
namespace PySem
open Sem (wp)
section
variable {prog : Program} {w : World} {A : Around} {R : Result → Shared → Prop} {t1 t2 : Bool} {K : Type} [DecidableEq K] {knd : KeyKind prog w K}
end
section
variable {prog : Program} {w : World} {A : Around} {E : Value → Shared → Prop} {s : Shared} {t1 t2 : Bool} {K : Type} [DecidableEq K] {knd : KeyKind prog w K}
end
end PySem
namespace L2
open PySem PySem.Spec PyProof.Rows
section
variable {X : Cx}
end
end L2
end
section
set_option Elab.async false
set_option linter.all false
set_option maxRecDepth 100000
set_option maxHeartbeats 4000000
namespace L2
open PySem PySem.Spec PyProof.Rows
section
variable {X : Cx} {C : Addr} {m x : Str} {ps : List Str} {k : Nat} {sp : Sp} {e o : Expr} {es : List Expr} {ta : TE} {t : TA} {p pos apos : Pos}
end
section
variable {X : Cx}
theorem deep_all {es : List Bool} {us vs : List Value} (h1 : us.length = es.length) (h2 : vs.length = es.length) : ((List.range (min us.toArray.size vs.toArray.size)).all (fun j => (es[j]?).getD false) && us.toArray.size == vs.toArray.size) = es.all id := by
  rw [List.size_toArray, List.size_toArray, h1, h2, Nat.min_self, all_ix]
  simp
end
end L2
end
section
set_option Elab.async false
set_option linter.all false
set_option maxRecDepth 100000
set_option maxHeartbeats 4000000
namespace L2
open PySem PySem.Spec PyProof.Rows
inductive EqN (K : PySem.W.Frag) (H : Hp) : Nat → V → V → Bool → Prop where
  | flat {d : Nat} {x y : V} (hx : flatV x = true) (hy : flatV y = true) : EqN K H d x y (eqV x y)
  | same {d : Nat} {a : Addr} : EqN K H d (.ref a) (.ref a) true
  | lists {d : Nat} {a b : Addr} {us vs : List V} {es : List Bool} (n : a ≠ b) (ha : SqL K H a us) (hb : SqL K H b vs) (l1 : us.length = vs.length) (l2 : es.length = us.length) (h : ∀ (j : Nat) x y e, us[j]? = some x → vs[j]? = some y → es[j]? = some e → EqN K H d x y e) : EqN K H (d + 1) (.ref a) (.ref b) (es.all id)
  | listsL {d : Nat} {a b : Addr} {us vs : List V} (n : a ≠ b) (ha : SqL K H a us) (hb : SqL K H b vs) (l1 : us.length ≠ vs.length) : EqN K H (d + 1) (.ref a) (.ref b) false
  | tups {d : Nat} {a b : Addr} {us vs : List V} {es : List Bool} (n : a ≠ b) (ha : SqT K H a us) (hb : SqT K H b vs) (l1 : us.length = vs.length) (l2 : es.length = us.length) (h : ∀ (j : Nat) x y e, us[j]? = some x → vs[j]? = some y → es[j]? = some e → EqN K H d x y e) : EqN K H (d + 1) (.ref a) (.ref b) (es.all id)
section
variable {X : Cx}
theorem hits_of {A : Around} {s : Shared} {kb : List (Key × V)} {vb : List (Key × Value)} (rb : KV kb vb) {ka : List (Key × V)} {va : List (Key × Value)} (ra : KV ka va) : ∀ (f : Nat → V), (∀ (j : Nat) k v, ka[j]? = some (k, v) → valV kb k = some (f j)) → (∀ (j : Nat) k v u w, ka[j]? = some (k, v) → RelV v u → RelV (f j) w → SeqAt.EqAt A s u w true) → PySem.W.KeqHits A s vb va true := by
  induction ra with
  | nil => intro f _ _; exact .nil
  | @cons p q ps qs r _ ih =>
    intro f h1 h2
    obtain ⟨k, v⟩ := p
    obtain ⟨k', u⟩ := q
    obtain ⟨e, rv⟩ := r
    have e' : k = k' := e
    subst e'
    have hv := h1 0 k v rfl
    have rel := rb.val k
    rw [hv] at rel
    obtain ⟨w, hw, rw'⟩ := RelO.some_of rel
    have hh := ih (fun j => f (j + 1)) (fun j k v e => h1 (j + 1) k v e) fun j k v u w e => h2 (j + 1) k v u w e
    exact .hit hw (h2 0 k v u w rfl rv rw') hh
theorem each_at {A : Around} {s : Shared} {xs ys : List V} {us vs : List Value} {es : List Bool} (r1 : Vals xs us) (r2 : Vals ys vs) (hl : xs.length = ys.length) (he : es.length = xs.length)
    (h : ∀ (j : Nat) a b e u v, xs[j]? = some a → ys[j]? = some b → es[j]? = some e → RelV a u → RelV b v → SeqAt.EqAt A s u v e) :
    ∀ j (h1 : j < us.toArray.size) (h2 : j < vs.toArray.size), SeqAt.EqAt A s us.toArray[j] vs.toArray[j] ((es[j]?).getD false) := by
  intro j h1 h2
  have l1 := r1.length
  have l2 := r2.length
  rw [List.size_toArray] at h1 h2
  have j1 : j < xs.length := by lia
  have j2 : j < ys.length := by lia
  have j3 : j < es.length := by lia
  obtain ⟨u, hu', ru⟩ := r1.get (List.getElem?_eq_getElem j1)
  obtain ⟨v, hv, rv⟩ := r2.get (List.getElem?_eq_getElem j2)
  have eu : us.toArray[j] = u := by
    have := List.getElem?_eq_getElem h1
    rw [hu'] at this
    simpa using (Option.some.inj this).symm
  have ev : vs.toArray[j] = v := by
    have := List.getElem?_eq_getElem h2
    rw [hv] at this
    simpa using (Option.some.inj this).symm
  rw [eu, ev, List.getElem?_eq_getElem j3, Option.getD_some]
  exact h j _ _ _ _ _ (List.getElem?_eq_getElem j1) (List.getElem?_eq_getElem j2) (List.getElem?_eq_getElem j3) ru rv
theorem each_all {es : List Bool} {us : List Value} (h1 : us.length = es.length) : (List.range us.toArray.size).all (fun j => (es[j]?).getD false) = es.all id := by
  rw [List.size_toArray, h1, all_ix]
theorem eqN_at {pins : List (Addr × Obj)} {σ : St} {H : Hp} {s : Shared} (I : Inv X pins σ H s) {d : Nat} {x y : V} {b : Bool} (h : EqN X.K H d x y b) : ∀ {A : Around} {u v : Value}, A.units + d < cLine → RelV x u → RelV y v → SeqAt.EqAt A s u v b := by
  induction h with
  | flat hx hy => exact fun _ rx ry => eqAt_V rx ry hx hy
  | same =>
    intro A u v _ rx ry
    cases rx
    cases ry
    exact SeqAt.EqAt.same _
  | @lists d a b us vs es n ha hb hl he h ih =>
    intro A u v hu rx ry
    cases rx
    cases ry
    obtain ⟨us', r1, t1, _⟩ := I.list ha
    obtain ⟨vs', r2, t2, _⟩ := I.list hb
    have l1 := r1.length
    have l2 := r2.length
    have := SeqAt.EqAt.of_refs n (SeqAt.RcAt.lists (A := A) t1.isList t2.isList (by rw [List.size_toArray, List.size_toArray]; lia) (by lia) (each_at (A := A.in1) r1 r2 hl he fun j a b e u v e1 e2 e3 ru rv => ih j a b e e1 e2 e3 (by show A.units + 1 + d < cLine; lia) ru rv))
    rw [each_all (by lia)] at this
    exact this
  | @listsL d a b us vs n ha hb hl =>
    intro A u v hu rx ry
    cases rx
    cases ry
    obtain ⟨us', r1, t1, _⟩ := I.list ha
    obtain ⟨vs', r2, t2, _⟩ := I.list hb
    have l1 := r1.length
    have l2 := r2.length
    exact SeqAt.EqAt.of_refs n (SeqAt.RcAt.lists_lengths (A := A) t1.isList t2.isList (by rw [List.size_toArray, List.size_toArray]; simp; lia) (by lia))
  | @tups d a b us vs es n ha hb hl he h ih =>
    intro A u v hu rx ry
    cases rx
    cases ry
    obtain ⟨us', r1, t1, _⟩ := I.tuple ha
    obtain ⟨vs', r2, t2, _⟩ := I.tuple hb
    have l1 := r1.length
    have l2 := r2.length
    have := SeqAt.EqAt.of_refs n (SeqAt.RcAt.tuples (A := A) (show s.heap.IsTuple a us'.toArray from t1) (show s.heap.IsTuple b vs'.toArray from t2) (by lia) (each_at (A := A.in1) r1 r2 hl he fun j a b e u v e1 e2 e3 ru rv => ih j a b e e1 e2 e3 (by show A.units + 1 + d < cLine; lia) ru rv))
    rw [deep_all (by lia) (by lia)] at this
    exact this
def rEqN (K : PySem.W.Frag) (neg : Bool) : R2 := fun x y H Q => ∃ (p q : Addr) (xs ys : List V), x = .ref p ∧ y = .ref q ∧ ((SqL K H p xs ∧ SqL K H q ys) ∨ (SqT K H p xs ∧ SqT K H q ys ∧ xs.length = ys.length)) ∧
  ((xs.length ≠ ys.length ∧ Q (.bl neg) H) ∨ ∃ es : List Bool, xs.length = ys.length ∧ es.length = xs.length ∧ (∀ (j : Nat) a b e, xs[j]? = some a → ys[j]? = some b → es[j]? = some e → EqN K H 4 a b e) ∧ Q (.bl (if neg then !es.all id else es.all id)) H)
theorem op_eqN (hu : X.A.units + 5 < cLine) : OpR X (compareOp .Eq) (rEqN X.K false) := by
  intro pins s σ H x y v u Q I rx ry h
  obtain ⟨p, q, xs, ys, rfl, rfl, hk, hc⟩ := h
  cases rx
  cases ry
  have hu' : X.A.units < cLine := by lia
  rcases hk with ⟨h1, h2⟩ | ⟨h1, h2, hl0⟩
  · obtain ⟨us, r1, t1, _⟩ := I.list h1
    obtain ⟨vs, r2, t2, _⟩ := I.list h2
    have l1 := r1.length
    have l2 := r2.length
    rcases hc with ⟨hl, qq⟩ | ⟨es, hl, he, hE, qq⟩
    · exact SeqAt.eq_list_lengthsAt t1.isList t2.isList (by rw [List.size_toArray, List.size_toArray]; simp; lia) hu' ⟨.bl false, H, I, rfl, qq⟩
    · refine SeqAt.eq_listAt t1.isList t2.isList (by rw [List.size_toArray, List.size_toArray]; lia) hu' (each_at (A := X.A.in1) r1 r2 hl he fun j a b e u v e1 e2 e3 ru rv => eqN_at I (hE j a b e e1 e2 e3) (by show X.A.units + 1 + 4 < cLine; lia) ru rv) ⟨.bl (es.all id), H, I, ?_, qq⟩
      show Value.bool _ = Value.bool _
      rw [each_all (by lia)]
  · obtain ⟨us, r1, t1, _⟩ := I.tuple h1
    obtain ⟨vs, r2, t2, _⟩ := I.tuple h2
    have l1 := r1.length
    have l2 := r2.length
    rcases hc with ⟨hl, _⟩ | ⟨es, hl, he, hE, qq⟩
    · exact absurd hl0 hl
    · refine SeqAt.eq_tupleAt (show s.heap.IsTuple p us.toArray from t1) (show s.heap.IsTuple q vs.toArray from t2) hu' (each_at (A := X.A.in1) r1 r2 hl he fun j a b e u v e1 e2 e3 ru rv => eqN_at I (hE j a b e e1 e2 e3) (by show X.A.units + 1 + 4 < cLine; lia) ru rv) ⟨.bl (es.all id), H, I, ?_, qq⟩
      show Value.bool _ = Value.bool _
      rw [deep_all (by lia) (by lia)]
theorem op_neN (hu : X.A.units + 5 < cLine) : OpR X (compareOp .NotEq) (rEqN X.K true) := by
  intro pins s σ H x y v u Q I rx ry h
  obtain ⟨p, q, xs, ys, rfl, rfl, hk, hc⟩ := h
  cases rx
  cases ry
  have hu' : X.A.units < cLine := by lia
  rcases hk with ⟨h1, h2⟩ | ⟨h1, h2, hl0⟩
  · obtain ⟨us, r1, t1, _⟩ := I.list h1
    obtain ⟨vs, r2, t2, _⟩ := I.list h2
    have l1 := r1.length
    have l2 := r2.length
    rcases hc with ⟨hl, qq⟩ | ⟨es, hl, he, hE, qq⟩
    · exact SeqAt.RcNeAt.lists_lengths t1.isList t2.isList (by rw [List.size_toArray, List.size_toArray]; simp; lia) hu' X.prog X.w X.xe _ ⟨.bl true, H, I, rfl, qq⟩
    · refine SeqAt.RcNeAt.lists t1.isList t2.isList (by rw [List.size_toArray, List.size_toArray]; lia) hu' (each_at (A := X.A.in1) r1 r2 hl he fun j a b e u v e1 e2 e3 ru rv => eqN_at I (hE j a b e e1 e2 e3) (by show X.A.units + 1 + 4 < cLine; lia) ru rv) X.prog X.w X.xe _ ⟨.bl (!es.all id), H, I, ?_, qq⟩
      show Value.bool _ = Value.bool _
      rw [each_all (by lia)]
  · obtain ⟨us, r1, t1, _⟩ := I.tuple h1
    obtain ⟨vs, r2, t2, _⟩ := I.tuple h2
    have l1 := r1.length
    have l2 := r2.length
    rcases hc with ⟨hl, _⟩ | ⟨es, hl, he, hE, qq⟩
    · exact absurd hl0 hl
    · refine SeqAt.RcNeAt.tuples (show s.heap.IsTuple p us.toArray from t1) (show s.heap.IsTuple q vs.toArray from t2) hu' (each_at (A := X.A.in1) r1 r2 hl he fun j a b e u v e1 e2 e3 ru rv => eqN_at I (hE j a b e e1 e2 e3) (by show X.A.units + 1 + 4 < cLine; lia) ru rv) X.prog X.w X.xe _ ⟨.bl (!es.all id), H, I, ?_, qq⟩
      show Value.bool _ = Value.bool _
      rw [deep_all (by lia) (by lia)]
def rEqDk (K : PySem.W.Frag) (neg : Bool) : R2 := fun x y H Q => ∃ (a b : Addr) (ka kb : List (Key × V)) (f : Nat → V), x = .ref a ∧ y = .ref b ∧ H a = some (.dK ka) ∧ H b = some (.dK kb) ∧ ka.length = kb.length ∧ (∀ (j : Nat) k v, ka[j]? = some (k, v) → valV kb k = some (f j)) ∧ (∀ (j : Nat) k v, ka[j]? = some (k, v) → EqN K H 4 v (f j) true) ∧ Q (.bl (!neg)) H
theorem op_eqDk (hu : X.A.units + 5 < cLine) : OpR X (compareOp .Eq) (rEqDk X.K false) := by
  intro pins s σ H x y v u Q I rx ry h
  obtain ⟨a, b, ka, kb, f, rfl, rfl, ha, hb, hl, hf, hE, qq⟩ := h
  cases rx
  cases ry
  obtain ⟨_, la, va, ra, da⟩ := dk_of I.hok ha
  obtain ⟨_, lb, vb, rb, db⟩ := dk_of I.hok hb
  refine PySem.W.keq_eq (r := true) la lb da db (by lia) (fun _ => hits_of rb ra f hf fun j k v u w e ru rw' => eqN_at I (hE j k v e) (by show X.A.units + 1 + 4 < cLine; lia) ru rw') ⟨.bl true, H, I, ?_, qq⟩
  show Value.bool _ = Value.bool _
  rw [← ra.length, ← rb.length, hl]; simp
theorem op_neDk (hu : X.A.units + 5 < cLine) : OpR X (compareOp .NotEq) (rEqDk X.K true) := by
  intro pins s σ H x y v u Q I rx ry h
  obtain ⟨a, b, ka, kb, f, rfl, rfl, ha, hb, hl, hf, hE, qq⟩ := h
  cases rx
  cases ry
  obtain ⟨_, la, va, ra, da⟩ := dk_of I.hok ha
  obtain ⟨_, lb, vb, rb, db⟩ := dk_of I.hok hb
  refine PySem.W.keq_ne (r := true) la lb da db (by lia) (fun _ => hits_of rb ra f hf fun j k v u w e ru rw' => eqN_at I (hE j k v e) (by show X.A.units + 1 + 4 < cLine; lia) ru rw') ⟨.bl false, H, I, ?_, qq⟩
  show Value.bool _ = Value.bool _
  rw [← ra.length, ← rb.length, hl]; simp
def rEqU (K : PySem.W.Frag) : R2 := fun x y H Q => rEqN K false x y H Q ∨ (rEqDk K false x y H Q ∨ rEqG K x y H Q)
def rNeU (K : PySem.W.Frag) : R2 := fun x y H Q => rEqN K true x y H Q ∨ (rEqDk K true x y H Q ∨ rNeG K x y H Q)
theorem op_eqU (hu : X.A.units + 5 < cLine) : OpR X (compareOp .Eq) (rEqU X.K) := (op_eqN hu).or ((op_eqDk hu).or (op_eqG (by lia)))
theorem op_neU (hu : X.A.units + 5 < cLine) : OpR X (compareOp .NotEq) (rNeU X.K) := (op_neN hu).or ((op_neDk hu).or (op_neG (by lia)))
end
end L2
end
section
set_option Elab.async false
set_option linter.all false
set_option maxRecDepth 100000
set_option maxHeartbeats 4000000
namespace L2
open PySem PySem.Spec PyProof.Rows
section
variable {X : Cx} {pins : List (Addr × Obj)} {σ : St} {H : Hp} {s : Shared} {d : Addr} {kvs : List (Key × V)} {u u' : HO}
end
section
variable {X : Cx} {tg : Expr}
end
end L2
end
section
set_option Elab.async false
set_option linter.all false
set_option maxRecDepth 100000
set_option maxHeartbeats 4000000
namespace PySem
open Sem (wp)
section
variable {prog : Program} {w : World} {A : Around} {R : Result → Shared → Prop} {K : Type} [DecidableEq K] {knd : KeyKind prog w K}
end
section
variable {prog : Program} {w : World} {A : Around} {E : Value → Shared → Prop} {s : Shared} {K : Type} [DecidableEq K] {knd : KeyKind prog w K}
end
end PySem
end
section
set_option Elab.async false
set_option linter.all false
set_option maxRecDepth 100000
set_option maxHeartbeats 4000000
namespace L2
open PySem PySem.Spec PyProof.Rows
section
variable {X : Cx}
end
end L2
end
section
set_option Elab.async false
set_option linter.all false
set_option maxRecDepth 100000
set_option maxHeartbeats 4000000
namespace L2
open PySem PySem.Spec PyProof.Rows
section
variable {X : Cx}
theorem vals_strs : ∀ {us : List Value} {ss : List Str}, StrsAre us ss → Vals (ss.map V.str) us
  | _, _, .nil => .nil
  | _, _, .cons x t r => .cons ⟨t, rfl⟩ (vals_strs r)
def rSortLS (K : PySem.W.Frag) : List V → Hp → VK → Prop := fun xs H Q => ∃ (p : Addr) (ss : List Str), xs = [.ref p] ∧ SqL K H p (ss.map V.str) ∧ ss.length < 64 ∧ ∀ (l : Addr) (ss' : List Str), H l = none → ss'.Perm ss → sortedS ss' = true → Q (.ref l) (upd H l (.lst (ss'.map V.str)))
theorem call_sortLS : CallR X (.builtin "sorted") (rSortLS X.K) := by
  intro pins s σ H xs us Q I r h
  obtain ⟨p, ss, rfl, hq, h64, q⟩ := h
  obtain ⟨u, rfl, rx⟩ := vals1 r
  cases rx
  obtain ⟨its, r', pl, hz⟩ := I.list hq
  have hl := r'.length
  rw [List.length_map] at hl
  refine sorted_strs pl.isList (strs_are r') (by rw [← hl]; exact h64) fun out ss' a1 a2 a3 => ?_
  obtain ⟨e, he⟩ := sortedAll_at s.heap its out
  have hn := vals_strs a1
  have hlen : ss'.length = ss.length := a2.length_eq
  refine ⟨.ref (s.heap.objs.size + 1), _, I.laid (t' := s.toks) (fun b u q => sortedAll_old q) (Nat.le_succ _) (show ObjOk X.prog X.w _ _ _ (.lst (ss'.map V.str)) from ⟨?_, out.toList, e, hn, ?_⟩), rfl, q _ _ (I.hok.fresh (Nat.le_succ _)) a2 a3⟩
  · rw [List.length_map, hlen]; exact Nat.le_trans (Nat.le_of_lt h64) (by decide)
  · rw [Array.toArray_toList]; exact he
end
end L2
end
section
set_option linter.all false
namespace L2
open PySem PyProof.Rows
def LeS (a b : Str) : Prop := ¬ (b.cps.toList < a.cps.toList)
theorem LeS.trans {a b c : Str} (h : LeS a b) (k : LeS b c) : LeS a c := fun z => by
  have h1 := List.not_lt.mp h
  have h2 := List.not_lt.mp k
  exact List.not_lt.mpr (List.le_trans h1 h2) z
theorem LeS.anti {a b : Str} (h : LeS a b) (k : LeS b a) : a = b := by
  have := List.le_antisymm (List.not_lt.mp h) (List.not_lt.mp k)
  cases a; cases b
  simp only [Str.mk.injEq]
  exact Array.toList_inj.mp this
theorem rising_pw : ∀ (r : List Str) (p : Str), risingS p r = true → (p :: r).Pairwise LeS
  | [], p, _ => List.pairwise_singleton _ _
  | x :: r, p, h => by
    have h' : (!PySem.Spec.ltCps x.cps.toList p.cps.toList && risingS x r) = true := h
    rw [Bool.and_eq_true, ltCps_eq] at h'
    have hx : LeS p x := by simpa [LeS] using h'.1
    have ih := rising_pw r x h'.2
    refine List.pairwise_cons.mpr ⟨fun y hy => ?_, ih⟩
    rcases List.mem_cons.mp hy with rfl | hy
    · exact hx
    · exact hx.trans ((List.pairwise_cons.mp ih).1 y hy)
theorem sorted_pw : ∀ {l : List Str}, sortedS l = true → l.Pairwise LeS
  | [], _ => List.Pairwise.nil
  | x :: r, h => rising_pw r x h
theorem pw_one : ∀ {l m : List Str}, l.Pairwise LeS → m.Pairwise LeS → l.Nodup → m.Nodup → (∀ x, x ∈ l ↔ x ∈ m) → l = m
  | [], [], _, _, _, _, _ => rfl
  | [], y :: m, _, _, _, _, h => absurd ((h y).mpr List.mem_cons_self) (by simp)
  | x :: l, [], _, _, _, _, h => absurd ((h x).mp List.mem_cons_self) (by simp)
  | x :: l, y :: m, hl, hm, nl, nm, h => by
    have hl' := List.pairwise_cons.mp hl
    have hm' := List.pairwise_cons.mp hm
    have nl' := List.nodup_cons.mp nl
    have nm' := List.nodup_cons.mp nm
    have e : x = y := by
      rcases List.mem_cons.mp ((h x).mp List.mem_cons_self) with e | hx
      · exact e
      · rcases List.mem_cons.mp ((h y).mpr List.mem_cons_self) with e | hy
        · exact e.symm
        · exact LeS.anti (hl'.1 y hy) (hm'.1 x hx)
    subst e
    have : l = m := pw_one hl'.2 hm'.2 nl'.2 nm'.2 fun z => by
      constructor
      · intro hz
        rcases List.mem_cons.mp ((h z).mp (List.mem_cons_of_mem _ hz)) with rfl | q
        · exact absurd hz nl'.1
        · exact q
      · intro hz
        rcases List.mem_cons.mp ((h z).mpr (List.mem_cons_of_mem _ hz)) with rfl | q
        · exact absurd hz nm'.1
        · exact q
    rw [this]
end L2
end
section
set_option Elab.async false
set_option linter.all false
set_option maxRecDepth 100000
set_option maxHeartbeats 4000000
namespace Bg
open PySem L2
structure AllAt {α : Type} (R : V → α → Prop) (vs : List V) (rs : List α) : Prop where
  len : vs.length = rs.length
  at_ : ∀ (i : Nat) v r, vs[i]? = some v → rs[i]? = some r → R v r
theorem AllAt.imp {α : Type} {R R' : V → α → Prop} {vs : List V} {rs : List α} (h : AllAt R vs rs) (f : ∀ v r, R v r → R' v r) : AllAt R' vs rs := ⟨h.len, fun i v r a b => f v r (h.at_ i v r a b)⟩
theorem AllAt.get {α : Type} {R : V → α → Prop} {vs : List V} {rs : List α} (h : AllAt R vs rs) {i : Nat} (hi : i < rs.length) : ∃ v r, vs[i]? = some v ∧ rs[i]? = some r ∧ R v r := by
  have h1 : i < vs.length := by rw [h.len]; exact hi
  exact ⟨vs[i], rs[i], List.getElem?_eq_getElem h1, List.getElem?_eq_getElem hi, h.at_ i _ _ (List.getElem?_eq_getElem h1) (List.getElem?_eq_getElem hi)⟩
theorem AllAt.of_v {α : Type} {R : V → α → Prop} {vs : List V} {rs : List α} (h : AllAt R vs rs) {i : Nat} {v : V} (e : vs[i]? = some v) : ∃ r, rs[i]? = some r ∧ R v r := by
  have h1 := (List.getElem?_eq_some_iff.mp e).1
  obtain ⟨v', r, e1, e2, q⟩ := h.get (i := i) (by rw [← h.len]; exact h1)
  rw [e] at e1; cases e1
  exact ⟨r, e2, q⟩
def ScrAt (K : PySem.W.Frag) (H : Hp) (a : Addr) (ns : List Int) : Prop :=
  (∃ o, H a = some (.frz o (.lst (ns.map V.int)))) ∨ ∃ (o : Obj) (its : Array Value) (n : Nat), K.lookup a = some o ∧ o.cls = .type "list" ∧ o.dict = none ∧ o.data = .seq its n ∧ its.size ≤ sizeLine ∧ Vals (ns.map V.int) its.toList
theorem ScrAt.sq {K : PySem.W.Frag} {H : Hp} {a : Addr} {ns : List Int} (h : ScrAt K H a ns) : SqL K H a (ns.map V.int) := by
  rcases h with ⟨o, h⟩ | h
  · exact .inl (.inr ⟨o, h⟩)
  · exact .inr h
def Fz (H H' : Hp) : Prop := ∀ p o u, H p = some (.frz o u) → H' p = some (.frz o u)
theorem Fz.of_but {a : Addr} {ys : List V} {H H' : Hp} (x : But a H H') (ha : H a = some (.lst ys)) : Fz H H' := fun p o u h => x p _ (by rintro rfl; rw [h] at ha; cases ha) h
theorem Fz.of_same {H H' : Hp} (x : Same H H') : Fz H H' := fun p o u h => x p _ h
theorem ScrAt.mono {K : PySem.W.Frag} {H H' : Hp} {a : Addr} {ns : List Int} (h : ScrAt K H a ns) (f : Fz H H') : ScrAt K H' a ns := by
  rcases h with ⟨o, h⟩ | h
  · exact .inl ⟨o, f _ _ _ h⟩
  · exact .inr h
def Stt (K : PySem.W.Frag) (H : Hp) (st : Addr) (k : Nat) : Prop := ∃ scr ns c, H st = some (.lst [.ref scr, .int (k : Nat), .int c]) ∧ ScrAt K H scr ns ∧ ns.length ≤ 63
theorem Stt.lst {K : PySem.W.Frag} {H : Hp} {st : Addr} {k : Nat} (h : Stt K H st k) : ∃ ys, H st = some (.lst ys) := by
  obtain ⟨scr, ns, c, e, _⟩ := h; exact ⟨_, e⟩
theorem Stt.mono {K : PySem.W.Frag} {H H' : Hp} {a st : Addr} {k : Nat} {ys : List V} (h : Stt K H st k) (x : But a H H') (ha : H a = some (.lst ys)) (n : st ≠ a) : Stt K H' st k := by
  obtain ⟨scr, ns, c, e, q, l⟩ := h
  exact ⟨scr, ns, c, x _ _ n e, q.mono (.of_but x ha), l⟩
theorem Stt.same {K : PySem.W.Frag} {H H' : Hp} {st : Addr} {k : Nat} (h : Stt K H st k) (x : Same H H') : Stt K H' st k := by
  obtain ⟨scr, ns, c, e, q, l⟩ := h
  exact ⟨scr, ns, c, x _ _ e, q.mono (.of_same x), l⟩
theorem Stt.new {K : PySem.W.Frag} {H : Hp} {st p : Addr} {o : HO} {k : Nat} (h : Stt K H st k) (hp : H p = none) : Stt K (upd H p o) st k := h.same ((Same.refl H).new hp)
def sp_draw (K : PySem.W.Frag) : Sp := fun vs H Q _ => ∃ (st : Addr) (m : Int) (k : Nat), vs = [.ref st, .int m] ∧ Stt K H st k ∧ k ≤ 1000000 ∧ 0 < m ∧ m < 2 ^ 64 ∧
  ∀ (d : Int) (H' : Hp), 0 ≤ d → d < m → Stt K H' st (k + 1) → But st H H' → Q (.int d) H'
def resv : List Str := ["part", "call", "say", "jump", "test", "give"]
structure Nm (y : Str) : Prop where
  l1 : 1 ≤ y.length
  l8 : y.length ≤ 8
  abc : ∀ c ∈ y.cps.toList, 97 ≤ c ∧ c ≤ 122
  no : y ∉ resv
def sp_names (K : PySem.W.Frag) : Sp := fun vs H Q _ => ∃ (st : Addr) (n k : Nat), vs = [.ref st, .int (n : Nat)] ∧ Stt K H st k ∧ k ≤ 900000 ∧ n ≤ 20 ∧
  ∀ (l : Addr) (ys : List Str) (k' : Nat) (H' : Hp), H l = none → ys.length = n → ys.Nodup → (∀ y ∈ ys, Nm y) → H' l = some (.lst (ys.map V.str)) → Stt K H' st k' → k' ≤ k + 11 → But st H H' → Q (.ref l) H'
def sp_law (K : PySem.W.Frag) : Sp := fun vs H Q _ => ∃ (scr : Addr) (ns : List Int), vs = [.ref scr] ∧ ScrAt K H scr ns ∧ ns.length ≤ 63 ∧ ∀ H', Q (.bl true) H'
abbrev k_draw : Nat := 0
abbrev K_draw : Nat := 1
abbrev k_names : Nat := 1
abbrev K_names : Nat := 2
end Bg
end
section
set_option Elab.async false
set_option linter.all false
set_option maxRecDepth 100000
set_option maxHeartbeats 4000000
namespace Bg
open PySem L2
theorem if_dec {c : Prop} [Decidable c] {A B : Prop} (h1 : c → A) (h2 : ¬ c → B) : if decide c = true then A else B := by
  by_cases h : c
  · rw [decide_eq_true h]; exact iteT (h1 h)
  · rw [decide_eq_false h]; exact iteF (h2 h)
theorem if_not {c : Prop} [Decidable c] {A B : Prop} (h1 : ¬ c → A) (h2 : c → B) : if (!decide c) = true then A else B := by
  by_cases h : c
  · rw [decide_eq_true h]; exact iteF (h2 h)
  · rw [decide_eq_false h]; exact iteT (h1 h)
theorem if_bl {b : Bool} {A B : Prop} (h1 : b = true → A) (h2 : b = false → B) : if b = true then A else B := by
  cases b with
  | true => exact iteT (h1 rfl)
  | false => exact iteF (h2 rfl)
theorem atI_of {α : Type} {xs : List α} {i : Int} {v : α} (h0 : 0 ≤ i) (e : xs[i.toNat]? = some v) : atI xs i = some v := by
  have h1 := (List.getElem?_eq_some_iff.mp e).1
  unfold atI ixN
  rw [if_pos h0, if_pos (by lia)]
  exact e
theorem ixL {K : PySem.W.Frag} {p : Addr} {xs : List V} {i : Int} {v : V} {H : Hp} {Q : VK} (h : SqL K H p xs) (h0 : 0 ≤ i) (e : xs[i.toNat]? = some v) (q : Q v H) : rIx K (.ref p) (.int i) H Q :=
  .inl ⟨p, xs, i, v, rfl, rfl, h, atI_of h0 e, q⟩
theorem ixT {K : PySem.W.Frag} {p : Addr} {xs : List V} {i : Int} {v : V} {H : Hp} {Q : VK} (h : H p = some (.tup xs)) (h0 : 0 ≤ i) (e : xs[i.toNat]? = some v) (q : Q v H) : rIx K (.ref p) (.int i) H Q :=
  .inr (.inl ⟨p, xs, i, v, rfl, rfl, SqT.of h, atI_of h0 e, q⟩)
theorem ixS {K : PySem.W.Frag} {z : Str} {i : Int} {c : Nat} {H : Hp} {Q : VK} (hz : z.length ≤ sizeLine) (h0 : 0 ≤ i) (e : z.cps.toList[i.toNat]? = some c) (q : Q (.str ⟨#[c]⟩) H) : rIx K (.str z) (.int i) H Q :=
  .inr (.inr ⟨z, i, c, rfl, rfl, hz, atI_of h0 e, q⟩)
theorem setL {p : Addr} {xs : List V} {i : Int} {v : V} {H : Hp} {Q : Hp → Prop} (h : H p = some (.lst xs)) (h0 : 0 ≤ i) (h1 : i.toNat < xs.length) (q : Q (upd H p (.lst (xs.set i.toNat v)))) : rSetL (.ref p) (.int i) v H Q := by
  refine ⟨p, xs, i, i.toNat, rfl, rfl, h, ?_, q⟩
  unfold ixN
  rw [if_pos h0, if_pos (by lia)]
theorem smallL {n : Nat} (h : n ≤ 100000) : n < sizeLine := Nat.lt_of_le_of_lt h (by decide)
theorem app_yes {D : Addr} {te : TE} {E : Ends} {σ : St} {H : Hp} (h : te σ H fun y H2 => ∃ ys, H2 D = some (.lst ys) ∧ ys.length < sizeLine ∧ E.nx σ (upd H2 D (.lst (ys ++ [y])))) : sApp D tYes te E σ H := by
  unfold sApp tYes
  dsimp only
  rw [if_pos rfl]
  exact h
theorem cut_take (xs : List V) (c : Nat) : cutV xs none (some (c : Int)) = xs.take c := by
  unfold cutV
  rw [HT.sIx_none, HT.sIx_nat, List.drop_zero, Nat.sub_zero, ← List.take_eq_take_min]
theorem cut_drop (xs : List V) (c : Nat) : cutV xs (some (c : Int)) none = xs.drop c := by
  unfold cutV
  rw [HT.sIx_none, HT.sIx_nat]
  by_cases h : c ≤ xs.length
  · rw [Nat.min_eq_left h]; exact List.take_of_length_le (by rw [List.length_drop]; lia)
  · rw [Nat.min_eq_right (by lia), List.drop_length, List.drop_of_length_le (by lia), List.take_nil]
theorem flat_strs (ys : List Str) : (ys.map V.str).all flatV = true := by
  rw [List.all_eq_true]
  intro v hv
  obtain ⟨y, _, rfl⟩ := List.mem_map.mp hv
  rfl
theorem inV_strs (y : Str) (ls : List Str) : inV (.str y) (ls.map V.str) = decide (y ∈ ls) := by
  unfold inV
  rw [List.any_map, Bool.eq_iff_iff, List.any_eq_true, decide_eq_true_eq]
  constructor
  · rintro ⟨z, hz, e⟩
    have e' : (z == y) = true := e
    have : z = y := by simpa using e'
    rw [← this]; exact hz
  · intro h
    exact ⟨y, h, by show (y == y) = true; simp⟩
end Bg
end
section
set_option Elab.async false
set_option linter.all false
namespace Bg
open PySem L2
structure Wk where
  ins : List Str
  out : Option Str
def optV : Option Str → V
  | none => .non
  | some y => .str y
def WkA (H : Hp) (v : V) (w : Wk) : Prop := ∃ p t, v = .ref p ∧ H p = some (.tup [.ref t, optV w.out]) ∧ H t = some (.tup (w.ins.map V.str))
theorem WkA.tp {H H' : Hp} {v : V} {w : Wk} (h : WkA H v w) (x : ∀ b xs, H b = some (.tup xs) → H' b = some (.tup xs)) : WkA H' v w := by
  obtain ⟨p, t, e, a, b⟩ := h
  exact ⟨p, t, e, x _ _ a, x _ _ b⟩
def wn (last : List Str) : List Wk → Str → Bool
  | [], y => decide (y ∈ last)
  | w :: r, y => decide (y ∈ w.ins) || (!decide (w.out = some y) && wn last r y)
def TxS (H : Hp) (v : V) (ss : List Str) : Prop := ∃ p, v = .ref p ∧ H p = some (.tup (ss.map V.str))
structure PtOk (last : List Str) (ws : List Wk) (k : Nat) (ss : List Str) : Prop where
  srt : ss.Pairwise LeS
  nd : ss.Nodup
  mem : ∀ y, y ∈ ss ↔ wn last (ws.drop k) y = true
structure Pts (last : List Str) (ws : List Wk) (pss : List (List Str)) : Prop where
  len : pss.length = ws.length + 1
  at_ : ∀ (k : Nat) ss, pss[k]? = some ss → PtOk last ws k ss
theorem Pts.one {last : List Str} {ws : List Wk} {pss qss : List (List Str)} (h : Pts last ws pss) (h' : Pts last ws qss) : pss = qss := by
  refine List.ext_getElem? fun k => ?_
  rcases Nat.lt_or_ge k (ws.length + 1) with lt | ge
  · obtain ⟨a, ea⟩ : ∃ a, pss[k]? = some a := ⟨_, List.getElem?_eq_getElem (by rw [h.len]; exact lt)⟩
    obtain ⟨b, eb⟩ : ∃ b, qss[k]? = some b := ⟨_, List.getElem?_eq_getElem (by rw [h'.len]; exact lt)⟩
    have A := h.at_ k a ea
    have B := h'.at_ k b eb
    rw [ea, eb, pw_one A.srt B.srt A.nd B.nd fun x => by rw [A.mem, B.mem]]
  · rw [List.getElem?_eq_none (by rw [h.len]; exact ge), List.getElem?_eq_none (by rw [h'.len]; exact ge)]
structure Few (dd last : List Str) (ws : List Wk) : Prop where
  d64 : dd.length < 64
  w100 : ws.length ≤ 100
  l100 : last.length ≤ 100
  ins : ∀ w ∈ ws, w.ins.length ≤ 100 ∧ ∀ y ∈ w.ins, y ∈ dd
  lst : ∀ y ∈ last, y ∈ dd
def WksA (H : Hp) (wp lt : Addr) (ws : List Wk) (last : List Str) : Prop := (∃ wvs, H wp = some (.tup wvs) ∧ AllAt (WkA H) wvs ws) ∧ H lt = some (.tup (last.map V.str))
def sp_p_without (_ : PySem.W.Frag) : Sp := fun vs H Q _ => ∃ (t : Addr) (m : Option Str) (ss : List Str), vs = [.ref t, optV m] ∧ H t = some (.tup (ss.map V.str)) ∧ ss.length ≤ 1000 ∧
  ∀ (p : Addr) (H' : Hp), H' p = some (.tup ((ss.filter fun y => !decide (m = some y)).map V.str)) → Same H H' → Q (.ref p) H'
def sp_p_wanted_at (_ : PySem.W.Frag) : Sp := fun vs H Q _ => ∃ (wp lt : Addr) (ws : List Wk) (last dd : List Str), vs = [.ref wp, .ref lt] ∧ WksA H wp lt ws last ∧ Few dd last ws ∧
  ∀ (l : Addr) (tvs : List V) (pss : List (List Str)) (H' : Hp), H l = none → H' l = some (.lst tvs) → AllAt (TxS H') tvs pss → Pts last ws pss → Same H H' → Q (.ref l) H'
def crw (pl : Int) (ws : List Wk) (pss : List (List Str)) : Nat → Nat → Option (Str × Nat × List Str)
  | 0, _ => none
  | f + 1, k =>
    if pl < ((pss.getD k []).length : Int) then some ("ahead", k, pss.getD k []) else
    match (ws[k]?).bind (·.out) with
    | some y => if pl - 1 < (((pss.getD (k + 1) []).filter fun z => !decide (some y = some z)).length : Int) then some ("behind", k, (pss.getD (k + 1) []).filter fun z => !decide (some y = some z)) else crw pl ws pss f (k + 1)
    | none => crw pl ws pss f (k + 1)
def CrA (H : Hp) (v : V) : Option (Str × Nat × List Str) → Prop
  | none => v = .non
  | some (wd, k, ss) => ∃ p t, v = .ref p ∧ H p = some (.tup [.str wd, .int (k : Nat), .ref t]) ∧ H t = some (.tup (ss.map V.str))
def sp_p_crowded (_ : PySem.W.Frag) : Sp := fun vs H Q _ => ∃ (pl : Int) (wp lt : Addr) (ws : List Wk) (last dd : List Str) (pss : List (List Str)), vs = [.int pl, .ref wp, .ref lt] ∧ WksA H wp lt ws last ∧ Few dd last ws ∧ Pts last ws pss ∧
  ∀ (v : V) (H' : Hp), CrA H' v (crw pl ws pss (ws.length + 1) 0) → Same H H' → Q v H'
def sp_crowded (_ : PySem.W.Frag) : Sp := fun vs H Q _ => ∃ (pl : Int) (wp l : Addr) (wvs tvs : List V) (ws : List Wk) (pss : List (List Str)), vs = [.int pl, .ref wp, .ref l] ∧ H wp = some (.tup wvs) ∧ AllAt (WkA H) wvs ws ∧ H l = some (.lst tvs) ∧ AllAt (TxS H) tvs pss ∧
  pss.length = ws.length + 1 ∧ ws.length ≤ 100 ∧ (∀ ss ∈ pss, ss.length ≤ 1000) ∧ ∀ (v : V) (H' : Hp), CrA H' v (crw pl ws pss (ws.length + 1) 0) → Same H H' → Q v H'
def sp_thing (K : PySem.W.Frag) : Sp := fun vs H Q _ => ∃ (st nm : Addr) (k : Nat) (ys : List Str), vs = [.ref st, .ref nm] ∧ Stt K H st k ∧ k ≤ 900000 ∧ nm ≠ st ∧ H nm = some (.lst (ys.map V.str)) ∧ ys.length ≤ 20 ∧
  ∀ (m : Option Str) (H' : Hp), (∀ y, m = some y → y ∈ ys) → Stt K H' st (k + 1) → But st H H' → Q (optV m) H'
def sp_works (K : PySem.W.Frag) : Sp := fun vs H Q _ => ∃ (st nm : Addr) (m k : Nat) (ys : List Str), vs = [.ref st, .ref nm, .int (m : Nat)] ∧ Stt K H st k ∧ k ≤ 500000 ∧ nm ≠ st ∧ H nm = some (.lst (ys.map V.str)) ∧ 1 ≤ ys.length ∧ ys.length ≤ 20 ∧ m ≤ 100 ∧
  ∀ (wp : Addr) (wvs : List V) (ws : List Wk) (k' : Nat) (H' : Hp), H' wp = some (.tup wvs) → AllAt (WkA H') wvs ws → ws.length ≤ m → (∀ w ∈ ws, w.ins.length ≤ 8 ∧ (∀ y ∈ w.ins, y ∈ ys)) → Stt K H' st k' → k' ≤ k + 2000 → But st H H' → Q (.ref wp) H'
def sp_is_wanted (_ : PySem.W.Frag) : Sp := fun vs H Q _ => ∃ (wp lt : Addr) (k : Nat) (y : Str) (ws : List Wk) (last : List Str), vs = [.ref wp, .ref lt, .int (k : Nat), .str y] ∧ WksA H wp lt ws last ∧ k ≤ ws.length ∧
  ∀ (H' : Hp), Same H H' → Q (.bl (wn last (ws.drop k) y)) H'
def sp_points (_ : PySem.W.Frag) : Sp := fun vs H Q _ => ∃ (wp lt nm : Addr) (ws : List Wk) (last ys : List Str), vs = [.ref wp, .ref lt, .ref nm] ∧ WksA H wp lt ws last ∧ Few ys last ws ∧ H nm = some (.lst (ys.map V.str)) ∧ ys.Nodup ∧
  ∀ (l : Addr) (tvs : List V) (pss : List (List Str)) (H' : Hp), H l = none → H' l = some (.lst tvs) → AllAt (TxS H') tvs pss → Pts last ws pss → Same H H' → Q (.ref l) H'
def sp_last (K : PySem.W.Frag) : Sp := fun vs H Q _ => ∃ (st nm : Addr) (m k : Nat) (ys : List Str), vs = [.ref st, .ref nm, .int (m : Nat)] ∧ Stt K H st k ∧ k ≤ 500000 ∧ nm ≠ st ∧ H nm = some (.lst (ys.map V.str)) ∧ ys.length ≤ 20 ∧ m ≤ 100 ∧
  ∀ (lt : Addr) (last : List Str) (k' : Nat) (H' : Hp), H' lt = some (.tup (last.map V.str)) → last.length ≤ 20 → (∀ y ∈ last, y ∈ ys) → Stt K H' st k' → k' ≤ k + 100 → But st H H' → Q (.ref lt) H'
abbrev k_p_without : Nat := 0
abbrev K_p_without : Nat := 1
abbrev k_p_wanted_at : Nat := 1
abbrev K_p_wanted_at : Nat := 2
abbrev k_p_crowded : Nat := 2
abbrev K_p_crowded : Nat := 3
abbrev k_thing : Nat := 1
abbrev K_thing : Nat := 2
abbrev k_works : Nat := 2
abbrev K_works : Nat := 3
abbrev k_is_wanted : Nat := 0
abbrev K_is_wanted : Nat := 1
abbrev k_points : Nat := 1
abbrev K_points : Nat := 2
abbrev k_crowded : Nat := 0
abbrev K_crowded : Nat := 1
abbrev k_last : Nat := 1
abbrev K_last : Nat := 2
abbrev k_law : Nat := 3
abbrev K_law : Nat := 4
end Bg
end
section
set_option Elab.async false
set_option linter.all false
set_option maxRecDepth 100000
set_option maxHeartbeats 4000000
namespace Bg
open PySem PySem.Spec PyProof.Rows L2
abbrev PS_draw : List Str := ["_law_state", "_law_many"]
abbrev N_draw : List Str := ["_law_state", "_law_many", "_law_script", "_law_k", "_law_digit", "_law_cell"]
def t_draw_1 (K : PySem.W.Frag) : TS := (tRet (tOp (rMod2) (tOp (rMod2) (tOp (rTimes K) (tVar 5) (tVar 5)) (tC (.int 1999999973))) (tVar 1)))
def t_draw_2 (K : PySem.W.Frag) : TS := (tSeq (tAsg (tOp (rMod2) (tOp (rTimes K) (tVar 5) (tVar 5)) (tC (.int 2147483587))) (gName 5)) (t_draw_1 K))
def t_draw_3 (K : PySem.W.Frag) : TS := (tSeq (tAsg (tOp (rMod2) (tOp (rTimes K) (tOp (rMod2) (tVar 5) (tC (.int 2147483629))) (tOp (rPlus K) (tVar 3) (tC (.int 3)))) (tC (.int 2147483629))) (gName 5)) (t_draw_2 K))
def t_draw_4 (K : PySem.W.Frag) : TS := (tSeq (tIfS (tTest (tOp (rGt2) (tCB (rLen K) (tCons (tVar 2) tNil)) (tC (.int 0)))) (tAsg (tOp (rPlus K) (tVar 5) (tOp (rTimes K) (tOp (rIx K) (tVar 2) (tOp (rMod2) (tOp (rTimes K) (tVar 3) (tC (.int 7))) (tCB (rLen K) (tCons (tVar 2) tNil)))) (tOp (rPlus K) (tC (.int 48271)) (tVar 3)))) (gName 5)) tNext) (t_draw_3 K))
def t_draw_5 (K : PySem.W.Frag) : TS := (tSeq (tAsg (tOp (rPlus K) (tOp (rTimes K) (tVar 3) (tC (.int 7919))) (tC (.int 5))) (gName 5)) (t_draw_4 K))
def t_draw_6 (K : PySem.W.Frag) : TS := (tRet (tVar 4))
def t_draw_7 (K : PySem.W.Frag) : TS := (tIfS (tTest (tOp ((rIn K true)) (tOp (rIx K) (tVar 0) (tC (.int 2))) (tTup (tCons (tC (.int 0)) (tCons (tUn rNeg (tC (.int 1))) tNil))))) (tSeq (tAsg (tCB (rDivmod) (tCons (tOp (rIx K) (tVar 0) (tC (.int 2))) (tCons (tVar 1) tNil))) (gTup K 2 (gCons (gSub (tVar 0) (tC (.int 2)) rSetL) (gCons (gName 4) gNil)))) (t_draw_6 K)) tNext)
def t_draw_8 (K : PySem.W.Frag) : TS := (tSeq (tIfS (tAnd (tTest (tOp (rLt2) (tOp (rPlus K) (tOp (rFdiv2) (tVar 3) (tC (.int 12))) (tC (.int 1))) (tCB (rLen K) (tCons (tVar 2) tNil)))) (tTest (tOp (rEqG K) (tOp (rMod2) (tOp (rIx K) (tVar 2) (tC (.int 0))) (tC (.int 2))) (tC (.int 1))))) (tSeq (tIfS (tTest (tOp (rEqG K) (tOp (rMod2) (tVar 3) (tC (.int 12))) (tC (.int 0)))) (tAsg (tOp (rIx K) (tVar 2) (tOp (rPlus K) (tOp (rFdiv2) (tVar 3) (tC (.int 12))) (tC (.int 1)))) (gSub (tVar 0) (tC (.int 2)) rSetL)) tNext) (t_draw_7 K)) (tIfS (tTest (tOp (rLt2) (tVar 3) (tCB (rLen K) (tCons (tVar 2) tNil)))) (tRet (tOp (rMod2) (tOp (rIx K) (tVar 2) (tVar 3)) (tVar 1))) tNext)) (t_draw_5 K))
def t_draw_9 (K : PySem.W.Frag) : TS := (tSeq (tAsg (tOp (rPlus K) (tVar 3) (tC (.int 1))) (gSub (tVar 0) (tC (.int 1)) rSetL)) (t_draw_8 K))
def t_draw (K : PySem.W.Frag) : TS := (tSeq (tAsg (tSl (rSl K) (tVar 0) tNoPart (tPart (tC (.int 2)))) (gTupL K 2 (gCons (gName 2) (gCons (gName 3) gNil)))) (t_draw_9 K))
abbrev PS_names : List Str := ["_law_state", "_law_many"]
abbrev N_names : List Str := ["_law_state", "_law_many", "_law_letters", "_law_size", "_law_at", "_law_first", "_law_base", "_law_found", "_law_k", "_law_some", "_law_name"]
def t_names_1 (K : PySem.W.Frag) : TS := (tRet (tVar 7))
def t_names_2 (K : PySem.W.Frag) : TS := (tDrop (tBM K "list" rAppend (tVar 7) (tCons (tVar 10) tNil)))
def t_names_3 (K : PySem.W.Frag) : TS := (tSeq (tIfS (tOr (tTest (tOp ((rIn K false)) (tVar 10) (tTup (tCons (tC (.str "part")) (tCons (tC (.str "call")) (tCons (tC (.str "say")) (tCons (tC (.str "jump")) (tCons (tC (.str "test")) (tCons (tC (.str "give")) tNil))))))))) (tAnd (tTest (tOp (rLt2) (tVar 3) (tC (.int 8)))) (tTest (tOp (rEqG K) (tOp (rMod2) (tOp (rPlus K) (tVar 3) (tVar 8)) (tC (.int 3))) (tC (.int 1)))))) (tAsg (tOp (rPlus K) (tVar 10) (tC (.str "x"))) (gName 10)) tNext) (t_names_2 K))
def t_names_4 (K : PySem.W.Frag) : TS := (tSeq (tAsg (tBM K "str" (rJoin K) (tC (.str "")) (tCons (tVar 9) tNil)) (gName 10)) (t_names_3 K))
def t_names_5 (K : PySem.W.Frag) : TS := (tSeq (tAsg (tOp (rPlus K) (tOp (rPlus K) (tSl (rSl K) (tVar 6) tNoPart (tPart (tVar 4))) (tLst (tCons (tOp (rIx K) (tVar 2) (tOp (rMod2) (tOp (rPlus K) (tVar 5) (tOp (rTimes K) (tC (.int 5)) (tVar 8))) (tC (.int 26)))) tNil))) (tSl (rSl K) (tVar 6) (tPart (tOp (rPlus K) (tVar 4) (tC (.int 1)))) tNoPart)) (gName 9)) (t_names_4 K))
def t_names_6 (K : PySem.W.Frag) : TS := (tSeq (tFor (iRng1 (tCons (tVar 1) tNil)) (gName 8) (t_names_5 K)) (t_names_1 K))
def t_names_7 (K : PySem.W.Frag) : TS := (tSeq (tAsg (tLst tNil) (gName 7)) (t_names_6 K))
def t_names_8 (K : PySem.W.Frag) : TS := (tSeq (tAsg (tComp [] 1 (iRng1 (tCons (tVar 3) tNil)) (gName 11) tYes (tOp (rIx K) (tVar 2) (tOp (rMod2) (tOp (rPlus K) (tVar 5) (tOp (rTimes K) (tOp (rTimes K) (tC (.int 7)) (tVar 11)) (tCall (sp_draw K) [] E0 (tCons (tVar 0) (tCons (tC (.int 4)) tNil))))) (tC (.int 26))))) (gName 6)) (t_names_7 K))
def t_names_9 (K : PySem.W.Frag) : TS := (tSeq (tAsg (tCall (sp_draw K) [] E0 (tCons (tVar 0) (tCons (tC (.int 26)) tNil))) (gName 5)) (t_names_8 K))
def t_names_10 (K : PySem.W.Frag) : TS := (tSeq (tAsg (tCall (sp_draw K) [] E0 (tCons (tVar 0) (tCons (tVar 3) tNil))) (gName 4)) (t_names_9 K))
def t_names_11 (K : PySem.W.Frag) : TS := (tSeq (tAsg (tOp (rPlus K) (tC (.int 1)) (tCall (sp_draw K) [] E0 (tCons (tVar 0) (tCons (tC (.int 8)) tNil)))) (gName 3)) (t_names_10 K))
def t_names (K : PySem.W.Frag) : TS := (tSeq (tAsg (tC (.str "abcdefghijklmnopqrstuvwxyz")) (gName 2)) (t_names_11 K))
end Bg
end
section
set_option Elab.async false
set_option linter.all false
set_option maxRecDepth 100000
set_option maxHeartbeats 4000000
namespace L2
open PySem PySem.Spec PyProof.Rows
section
variable {X : Cx} {tg : Expr}
end
end L2
end
section
set_option Elab.async false
set_option linter.all false
set_option maxRecDepth 100000
set_option maxHeartbeats 4000000
namespace L2
open PySem PySem.Spec PyProof.Rows
section
variable {X : Cx} {tg l o e f : Expr} {tl td ty tx : TE} {apos cpos : Pos}
theorem hu5_of {A : Around} {k : Nat} (hr : Room k A) : A.units + 5 < cLine := Nat.lt_of_le_of_lt (Nat.add_le_add_left (by decide : 5 ≤ 64) _) hr.units
end
end L2
end
section
set_option Elab.async false
set_option linter.all false
set_option maxRecDepth 100000
set_option maxHeartbeats 4000000
namespace L2
open PySem PySem.Spec PyProof.Rows
def SqB (K : PySem.W.Frag) (tp : Bool) (H : Hp) (a : Addr) (xs : List V) : Prop := match tp with
  | true => SqT K H a xs
  | false => SqL K H a xs
theorem Inv.seqB {X : Cx} {pins : List (Addr × Obj)} {σ : St} {H : Hp} {s : Shared} {tp : Bool} {a : Addr} {xs : List V} (I : Inv X pins σ H s) (h : SqB X.K tp H a xs) : ∃ its : List Value, Vals xs its ∧ SqAtH tp s.heap a its.toArray := by
  cases tp with
  | true => obtain ⟨its, r, p, _⟩ := I.tuple h; exact ⟨its, r, p⟩
  | false => obtain ⟨its, r, p, _⟩ := I.list h; exact ⟨its, r, p.isList⟩
section
variable {X : Cx} {elts : List Expr} {k : Nat} {tpos : Pos}
end
end L2
end
section
set_option Elab.async false
set_option linter.all false
set_option maxRecDepth 100000
set_option maxHeartbeats 4000000
namespace PySem.SeqAt
open AutoSeq1 (wpAny_loadPart')
open MeetsSeq MeetsSeq2 MeetsSeq3 SeqRoads2
end PySem.SeqAt
namespace L2
open PySem PySem.Spec PyProof.Rows
section
variable {X : Cx} {o e : Expr} {es : List Expr} {to ta tb : TE} {t : TA} {apos cpos : Pos}
end
section
variable {X : Cx} {C : Addr} {m x : Str} {ps : List Str} {k : Nat} {sp : Sp} {e : Expr} {es : List Expr} {t : TA} {p pos apos : Pos}
end
end L2
end
section
set_option Elab.async false
set_option linter.all false
namespace Bg
open PySem PySem.Spec PyProof.Rows L2
end Bg
end
section
namespace BgSet
open PySem
set_option maxRecDepth 100000
def Ris (ps : Array Nat) : Prop := ps.toList.Pairwise (· < ·)
theorem Ris.at {ps : Array Nat} (hr : Ris ps) {i j a b : Nat} (hij : i < j) (ha : ps[i]? = some a) (hb : ps[j]? = some b) : a < b := by
  rw [← Array.getElem?_toList] at ha hb
  obtain ⟨hi, rfl⟩ := List.getElem?_eq_some_iff.mp ha
  obtain ⟨hj, rfl⟩ := List.getElem?_eq_some_iff.mp hb
  exact List.pairwise_iff_getElem.mp hr i j hi hj hij
theorem below_go {ps : Array Nat} {j : Nat} (hr : Ris ps) : ∀ fl lo hi, hi - lo ≤ fl → hi ≤ ps.size → lo ≤ hi →
    (∀ i a, i < lo → ps[i]? = some a → a < j) → (∀ i a, hi ≤ i → ps[i]? = some a → j ≤ a) →
    SetTable.below.go ps j fl lo hi ≤ ps.size ∧ (∀ i a, i < SetTable.below.go ps j fl lo hi → ps[i]? = some a → a < j)
      ∧ (∀ i a, SetTable.below.go ps j fl lo hi ≤ i → ps[i]? = some a → j ≤ a) := by
  intro fl
  induction fl with
  | zero =>
    intro lo hi hf hs hl h1 h2
    have : lo = hi := by lia
    subst this
    exact ⟨hs, h1, h2⟩
  | succ fl ih =>
    intro lo hi hf hs hl h1 h2
    unfold SetTable.below.go
    by_cases hlt : lo < hi
    · rw [if_pos hlt]
      have hm : (lo + hi) / 2 < ps.size := by lia
      have hg : ps[(lo + hi) / 2]? = some (ps.getD ((lo + hi) / 2) j) := by
        simp [Array.getD, hm]
      dsimp only
      by_cases hc : ps.getD ((lo + hi) / 2) j < j
      · rw [if_pos hc]
        refine ih _ _ (by lia) hs (by lia) (fun i a hi' ha => ?_) h2
        rcases Nat.lt_or_ge i ((lo + hi) / 2) with hq | hq
        · exact Nat.lt_trans (hr.at hq ha hg) hc
        · have : i = (lo + hi) / 2 := by lia
          subst this; rw [hg] at ha; cases ha; exact hc
      · rw [if_neg hc]
        refine ih _ _ (by lia) (by lia) (by lia) h1 (fun i a hi' ha => ?_)
        rcases Nat.lt_or_ge ((lo + hi) / 2) i with hq | hq
        · exact Nat.le_of_lt (Nat.lt_of_le_of_lt (Nat.not_lt.mp hc) (hr.at hq hg ha))
        · have : i = (lo + hi) / 2 := by lia
          subst this; rw [hg] at ha; cases ha; exact Nat.not_lt.mp hc
    · rw [if_neg hlt]
      have : lo = hi := by lia
      subst this
      exact ⟨hs, h1, h2⟩
theorem below_ok {ps : Array Nat} (hr : Ris ps) (j : Nat) : SetTable.below ps j ≤ ps.size ∧ (∀ i a, i < SetTable.below ps j → ps[i]? = some a → a < j)
    ∧ (∀ i a, SetTable.below ps j ≤ i → ps[i]? = some a → j ≤ a) := by
  refine below_go hr ps.size 0 ps.size (Nat.le_refl _) (Nat.le_refl _) (Nat.zero_le _) (fun i a h => absurd h (Nat.not_lt_zero _)) (fun i a h ha => ?_)
  rw [Array.getElem?_eq_none h] at ha; cases ha
theorem below_zero {ps : Array Nat} (hr : Ris ps) : SetTable.below ps 0 = 0 := by
  obtain ⟨h1, h2, -⟩ := below_ok hr 0
  rcases Nat.eq_zero_or_pos (SetTable.below ps 0) with h | h
  · exact h
  · have hlt : 0 < ps.size := by lia
    exact absurd (h2 0 ps[0] h (Array.getElem?_eq_getElem hlt)) (Nat.not_lt_zero _)
theorem below_next {ps : Array Nat} (hr : Ris ps) {i p : Nat} (hp : ps[i]? = some p) : SetTable.below ps (p + 1) = i + 1 := by
  obtain ⟨h1, h2, h3⟩ := below_ok hr (p + 1)
  have hlo : i < SetTable.below ps (p + 1) := by
    rcases Nat.lt_or_ge i (SetTable.below ps (p + 1)) with h | h
    · exact h
    · exact absurd (h3 i p h hp) (by lia)
  rcases Nat.lt_or_ge (i + 1) (SetTable.below ps (p + 1)) with h | h
  · have hlt : i + 1 < ps.size := by lia
    have hq := Array.getElem?_eq_getElem hlt
    have a1 := h2 _ _ h hq
    have a2 := hr.at (Nat.lt_succ_self i) hp hq
    lia
  · lia
theorem ris_insert {ps : Array Nat} (hr : Ris ps) {j : Nat} (hn : ∀ i : Nat, ps[i]? ≠ some j) : Ris (SetTable.insertAt ps (SetTable.below ps j) j) := by
  obtain ⟨h1, h2, h3⟩ := below_ok hr j
  unfold Ris
  rw [SetTable.toList_insertAt]
  have hlow : ∀ a ∈ ps.toList.take (SetTable.below ps j), a < j := fun a ha => by
    obtain ⟨i, hi⟩ := List.getElem?_of_mem ha
    rw [List.getElem?_take] at hi
    split at hi
    · rename_i hlt; exact h2 i a hlt (by rw [← Array.getElem?_toList]; exact hi)
    · cases hi
  have hhigh : ∀ a ∈ ps.toList.drop (SetTable.below ps j), j < a := fun a ha => by
    obtain ⟨i, hi⟩ := List.getElem?_of_mem ha
    rw [List.getElem?_drop, Array.getElem?_toList] at hi
    have := h3 _ a (Nat.le_add_right _ _) hi
    rcases Nat.lt_or_eq_of_le this with h | h
    · exact h
    · subst h; exact absurd hi (hn _)
  refine List.pairwise_append.mpr ⟨hr.sublist (List.take_sublist _ _), List.pairwise_cons.mpr ⟨hhigh, hr.sublist (List.drop_sublist _ _)⟩, fun a ha b hb => ?_⟩
  rcases List.mem_cons.mp hb with rfl | hb
  · exact hlow a ha
  · exact Nat.lt_trans (hlow a ha) (hhigh b hb)
structure Tab (led : Bool) (t : SetTable) : Prop where
  led : t.led = led
  dum : t.dummies = #[]
  ris : t.plain = true → Ris t.place
theorem Tab.fresh (a b : Nat) (led : Bool) : Tab led (SetTable.fresh a b led) := ⟨rfl, rfl, fun _ => List.Pairwise.nil⟩
theorem Tab.standIn {led : Bool} {t : SetTable} (h : Tab led t) (n : Nat) : Tab led (t.standIn n) :=
  ⟨h.led, rfl, fun hp => by simp [SetTable.standIn] at hp⟩
theorem Tab.orStandIn {led : Bool} {t : SetTable} (h : Tab led t) (n : Nat) : Tab led (t.orStandIn n) := by
  unfold SetTable.orStandIn
  split
  · exact h
  · exact h.standIn n
theorem has_none (j : Nat) : SetTable.has #[] j = false := by
  unfold SetTable.has; simp
theorem slot_empty {t : SetTable} (hd : t.dummies = #[]) {j : Nat} : t.slot j ≠ .dummy := by
  unfold SetTable.slot
  rw [hd, has_none]
  dsimp only
  split <;> simp
theorem probe_free {t : SetTable} (hd : t.dummies = #[]) {f : Nat → Int} {h : Int} : ∀ fl (p : SetTable.Probe) (j : Nat) (d : Option Nat), p.dummy = none →
    SetTable.probe.go t f h fl p = some (.empty j d) → d = none ∧ t.slot j = .empty := by
  intro fl
  induction fl with
  | zero => intro p j d hp hq; unfold SetTable.probe.go at hq; cases hq
  | succ fl ih =>
    intro p j d hp hq
    unfold SetTable.probe.go at hq
    have hadv : (t.advance p).dummy = none := by
      unfold SetTable.advance; split <;> exact hp
    cases hs : t.slot p.j with
    | empty => rw [hs] at hq; simp only [Option.some.injEq, SetTable.Met.empty.injEq] at hq; obtain ⟨rfl, rfl⟩ := hq; exact ⟨hp, hs⟩
    | dummy => exact absurd hs (slot_empty hd)
    | live i =>
      rw [hs] at hq
      simp only at hq
      split at hq
      · cases hq
      · exact ih _ j d hadv hq
theorem free_slot {t : SetTable} (hd : t.dummies = #[]) {h : Int} {sl : Nat} {wd : Bool} (hq : t.freeSlot h = some (sl, wd)) : t.slot sl = .empty := by
  unfold SetTable.freeSlot SetTable.probe at hq
  split at hq
  · rename_i j d he
    obtain ⟨rfl, hs⟩ := probe_free hd _ _ j d rfl he
    simp only [Option.getD_none, Option.some.injEq, Prod.mk.injEq] at hq
    rw [← hq.1]; exact hs
  · cases hq
theorem slot_not {t : SetTable} (hr : Ris t.place) {j : Nat} (hs : t.slot j = .empty) : ∀ i : Nat, t.place[i]? ≠ some j := by
  intro i hi
  obtain ⟨h1, h2, h3⟩ := below_ok hr j
  have hb : SetTable.below t.place j = i := by
    rcases Nat.lt_trichotomy (SetTable.below t.place j) i with h | h | h
    · have hlt : SetTable.below t.place j < t.place.size := by
        have := (Array.getElem?_eq_some_iff.mp hi).1; lia
      have hq := Array.getElem?_eq_getElem hlt
      have a1 := h3 _ _ (Nat.le_refl _) hq
      have a2 := hr.at h hq hi
      lia
    · exact h
    · exact absurd (h2 i j h hi) (Nat.lt_irrefl _)
  unfold SetTable.slot at hs
  rw [hb] at hs
  dsimp only at hs
  rw [hi] at hs
  simp at hs
theorem Tab.put {led : Bool} {t : SetTable} (h : Tab led t) {sl : Nat} (hs : t.slot sl = .empty) : Tab led (t.put sl).1 := by
  refine ⟨h.led, ?_, fun hp => ?_⟩
  · show (if SetTable.has t.dummies sl = true then _ else t.dummies) = #[]
    rw [h.dum, has_none]; rfl
  · exact ris_insert (h.ris hp) (slot_not (h.ris hp) hs)
theorem Tab.layNew {led : Bool} {t : SetTable} (h : Tab led t) (es : Array (Int × Value)) (hs : Int) (x : Value) : Tab led (layNew t es hs x).2.1 := by
  unfold PySem.layNew
  split
  · rename_i sl wd hq
    exact (h.put (free_slot h.dum hq)).orStandIn _
  · exact h.standIn _
theorem Tab.off {led : Bool} {t : SetTable} (h : Tab led t) : Tab led { t with plain := false } := ⟨h.led, h.dum, fun hp => by simp at hp⟩
theorem live_sub (g : Nat → Option Nat) : ∀ l : List Nat, ((l.filterMap fun j => (g j).map (j, ·)).map (·.1)).Sublist l
  | [] => List.Sublist.refl _
  | j :: l => by
    rw [List.filterMap_cons]
    cases hg : g j with
    | none => simpa using (live_sub g l).cons j
    | some b => simpa using (live_sub g l).cons_cons j
theorem Tab.relaid {led : Bool} {t t' : SetTable} {hs : Array Int} {n : Nat} {o : Array Nat} (h : Tab led t) (hq : t.relaid hs n = some (t', o)) : Tab led t' := by
  unfold SetTable.relaid SetTable.laid at hq
  cases ho : SetTable.layClean (SetTable.sizeAbove n - 1) hs with
  | none => rw [ho] at hq; simp at hq
  | some ow =>
    rw [ho] at hq
    simp only [Option.bind_eq_bind, Option.bind_some, Option.pure_def, Option.some.injEq, Prod.mk.injEq] at hq
    rw [← hq.1]
    refine ⟨h.led, rfl, fun _ => ?_⟩
    unfold Ris
    rw [List.toList_toArray]
    exact (List.pairwise_lt_range).sublist (live_sub (fun j => ow.getD j none) _)
theorem Tab.relay {led : Bool} {t : SetTable} (h : Tab led t) (es : Array (Int × Value)) (n : Nat) : Tab led (relayAll t es n).2.1 := by
  unfold relayAll
  split
  · rename_i t' o hq
    dsimp only
    split
    · exact h.relaid hq
    · exact h.standIn _
  · exact h.standIn _
theorem plain_relay {t : SetTable} (h : t.plain = false) (es : Array (Int × Value)) (n : Nat) : (relayAll t es n).2.1.plain = false := by
  unfold relayAll
  split
  · rename_i t' o hq
    dsimp only
    split
    · unfold SetTable.relaid SetTable.laid at hq
      cases ho : SetTable.layClean (SetTable.sizeAbove n - 1) (es.map (·.1)) with
      | none => rw [ho] at hq; simp at hq
      | some ow =>
        rw [ho] at hq
        simp only [Option.bind_eq_bind, Option.bind_some, Option.pure_def, Option.some.injEq, Prod.mk.injEq] at hq
        rw [← hq.1]; exact h
    · rfl
  · rfl
end BgSet
end
section
namespace BgSet
open PySem
set_option maxRecDepth 100000
section
variable {prog : Program} {w : World} {K : Type} [DecidableEq K]
def Apart (kd : KeyKind prog w K) (l : List (Int × Value)) : Prop :=
  l.Pairwise fun e e' => ∀ k, kd.is k e.2 = true → kd.is k e'.2 = false
theorem Apart.perm {kd : KeyKind prog w K} {l l' : List (Int × Value)} (h : Apart kd l) (p : l'.Perm l) : Apart kd l' := by
  refine (p.pairwise_iff (fun {x y} hxy k hk => ?_)).mpr h
  cases hx : kd.is k x.2 with
  | false => rfl
  | true => have := hxy k hx; rw [hk] at this; cases this
def SetTb (kd : KeyKind prog w K) (h : Heap) (a : Addr) (S : K → Bool) (n : Nat) (led np : Bool) : Prop :=
  ∃ o es ep t, h.get? a = some o ∧ o.ExactSet ∧ o.data = .set es ep t ∧ ElemsOf kd es.toList ∧ (∀ k, S k = true ↔ ∃ e ∈ es.toList, kd.is k e.2 = true)
    ∧ es.size < scanBound ∧ t.fits es.size = true ∧ es.size = n ∧ Tab led t ∧ (np = true → n ≠ 0 → t.plain = false) ∧ Apart kd es.toList
variable {kd : KeyKind prog w K} {A : Around} {E : Value → Shared → Prop} {s : Shared}
theorem SetTb.congr {h : Heap} {a : Addr} {S S' : K → Bool} {n n' : Nat} {led np : Bool} (hS : SetTb kd h a S n led np) (e : ∀ k, S k = S' k) (en : n = n') : SetTb kd h a S' n' led np := by
  cases (funext e : S = S'); cases en; exact hS
theorem SetTb.keep {h h' : Heap} {a : Addr} {S : K → Bool} {n : Nat} {led np : Bool} (hS : SetTb kd h a S n led np) (e : ∀ o, h.get? a = some o → h'.get? a = some o) : SetTb kd h' a S n led np := by
  obtain ⟨o, es, ep, t, ho, r⟩ := hS
  exact ⟨o, es, ep, t, e o ho, r⟩
theorem SetTb.fresh {h : Heap} {a : Addr} {led np : Bool} {x y : Nat} (hg : h.get? a = some { cls := .type "set", dict := none, data := .set #[] 0 (.fresh x y led) }) :
    SetTb kd h a (fun _ => false) 0 led np :=
  ⟨_, #[], 0, _, hg, ⟨rfl, rfl, rfl⟩, rfl, fun e he => by simp at he, fun k => by simp, by decide, rfl, rfl, Tab.fresh x y led, fun _ hn => absurd rfl hn, List.Pairwise.nil⟩
structure Laid (kd : KeyKind prog w K) (S : K → Bool) (n : Nat) (led np : Bool) (es : Array (Int × Value)) (t : SetTable) : Prop where
  el : ElemsOf kd es.toList
  mem : ∀ k, S k = true ↔ ∃ e ∈ es.toList, kd.is k e.2 = true
  few : es.size < scanBound
  fit : t.fits es.size = true
  many : es.size = n
  tab : Tab led t
  off : np = true → t.plain = false
  apart : Apart kd es.toList
theorem Laid.relay {S : K → Bool} {n : Nat} {led np : Bool} {es : Array (Int × Value)} {t : SetTable} (h : Laid kd S n led np es t) (wn : Nat) :
    Laid kd S n led np (relayAll t es wn).1 (relayAll t es wn).2.1 := by
  have hp := relayAll_perm t es wn
  have hz : (relayAll t es wn).1.size = es.size := by rw [← Array.length_toList, hp.length_eq, Array.length_toList]
  exact ⟨h.el.perm hp, fun k => (h.mem k).trans ⟨fun ⟨e, he, q⟩ => ⟨e, hp.mem_iff.mpr he, q⟩, fun ⟨e, he, q⟩ => ⟨e, hp.mem_iff.mp he, q⟩⟩,
    by rw [hz]; exact h.few, relayAll_fits t es wn, by rw [hz]; exact h.many, h.tab.relay es wn, fun e => plain_relay (h.off e) es wn, h.apart.perm hp⟩
theorem Laid.stored {S : K → Bool} {n : Nat} {led np : Bool} {es' : Array (Int × Value)} {t' : SetTable} (L : Laid kd S n led np es' t')
    {h : Heap} {a : Addr} {o : Obj} {es : Array (Int × Value)} {ep : Nat} {t : SetTable} (ho : h.get? a = some o) (hex : o.ExactSet) (hd : o.data = .set es ep t) :
    (h.update a (Obj.putSet es' t')).get? a = some { o with data := .set es' (ep + 1) t' } ∧ SetTb kd (h.update a (Obj.putSet es' t')) a S n led np := by
  have hg := (SetOf_store (knd := kd) ho hex hd L.el L.mem L.few L.fit).1
  exact ⟨hg, _, es', ep + 1, t', hg, hex, rfl, L.el, L.mem, L.few, L.fit, L.many, L.tab, fun e _ => L.off e, L.apart⟩
theorem addTailT {g : Bool → Sem Unit} (hg : ∀ (b : Bool) (s₁ : Shared) (Q' : Unit → Shared → Prop), Q' () s₁ → wpAny (model prog w) A (g b) Q' E s₁)
    {a : Addr} {o : Obj} {es : Array (Int × Value)} {ep : Nat} {t : SetTable} (ho : s.heap.get? a = some o) (hex : o.ExactSet) (hd : o.data = .set es ep t)
    {es1 : Array (Int × Value)} {t2 : SetTable} {S : K → Bool} {n : Nat} {led np : Bool} (L : Laid kd S n led np es1 t2) {wd : Bool} {R : Option Bool → Shared → Prop}
    (hR : ∀ h', Heap.SameBut a s.heap h' → SetTb kd h' a S n led np → R (some true) { s with heap := h' }) :
    wpAny (model prog w) A (do
        storeSet a es1 t2
        if (!wd && t2.tooFull) = true then do
            g (relayAll t2 es1 (SetTable.grown es1.size)).2.2
            storeSet a (relayAll t2 es1 (SetTable.grown es1.size)).1 (relayAll t2 es1 (SetTable.grown es1.size)).2.1
            pure (some true)
          else pure (some true)) R E s := by
  refine wpAny_bind (wpAny_storeSet_of ho hd ?_ (fits_of_scanBound L.few))
  obtain ⟨g1, T1⟩ := L.stored ho hex hd
  have sb := Heap.SameBut.update s.heap a (Obj.putSet es1 t2)
  split
  · have L2 := L.relay (SetTable.grown es1.size)
    refine wpAny_bind (hg _ _ _ ?_)
    refine wpAny_bind (wpAny_storeSet_of g1 rfl ?_ (fits_of_scanBound L2.few))
    obtain ⟨-, T2⟩ := L2.stored g1 hex rfl
    exact wpAny_pure (hR _ (sb.trans (Heap.SameBut.update _ a _)) T2)
  · exact wpAny_pure (hR _ sb T1)
theorem setAddT {a : Addr} {S : K → Bool} {n : Nat} {led np : Bool} {k : K} {x : Value} {Q : Bool → Shared → Prop} (hkey : kd.is k x = true) (hsc : x.scannable = true)
    (hnp : np = true → plainKind x = false) (hS : SetTb kd s.heap a S n led np) (hroom : n + 1 < scanBound)
    (hQ : ∀ h', Heap.SameBut a s.heap h' → SetTb kd h' a (fun k' => S k' || decide (k' = k)) (if S k then n else n + 1) led np → Q (!S k) { s with heap := h' }) :
    wpAny (model prog w) A (setAddHashed a x (kd.hash k)) Q E s := by
  obtain ⟨o, es, ep, t, ho, hex, hd, hel, hmem, hb, hf, hn, htab, hoff, hap⟩ := hS
  have hb1 : es.size + 1 < scanBound := by rw [hn]; exact hroom
  unfold setAddHashed setAddHashedIn
  refine wpAny_holding (wpAny_bind (wpAny_setState_of ho hd hf ?_))
  dsimp only
  rw [byScan_of hsc hb hel]
  simp only [↓reduceIte]
  unfold setAddByScan
  refine wpAny_bind ?_
  refine wpAny_bind (wpAny_rule ?_)
  refine wpAny_bind (wpAny_setScan_of hkey ho hd hf hel ?_)
  cases hr : List.findIdx? (fun e => kd.is k e.2) es.toList with
  | some j =>
    dsimp only
    obtain ⟨hj, hpj, -⟩ := List.findIdx?_eq_some_iff_getElem.mp hr
    have hk : S k = true := (hmem k).mpr ⟨_, List.getElem_mem hj, hpj⟩
    refine wpAny_pure (wpAny_pure ?_)
    have es0 : s = { s with heap := s.heap } := by cases s; rfl
    have done := hQ s.heap (Heap.SameBut.refl a s.heap) (SetTb.congr (S := S) (n := n) ⟨o, es, ep, t, ho, hex, hd, hel, hmem, hb, hf, hn, htab, hoff, hap⟩
      (fun k' => by by_cases e : k' = k <;> simp [e, hk]) (by rw [hk]; rfl))
    rw [hk] at done; rw [es0]; exact done
  | none =>
    dsimp only
    have hall := List.findIdx?_eq_none_iff.mp hr
    have hk : S k = false := by
      cases hk : S k with
      | false => rfl
      | true => obtain ⟨e, he, hp⟩ := (hmem k).mp hk; rw [hall e he] at hp; cases hp
    have hper := layNew_perm t es (kd.hash k) x
    have hfit := layNew_fits t es (kd.hash k) x
    have htb := htab.layNew es (kd.hash k) x
    generalize layNew t es (kd.hash k) x = L at hper hfit htb ⊢
    obtain ⟨es1, t1, wd, gv⟩ := L
    dsimp only at hper hfit htb ⊢
    rw [Array.toList_push] at hper
    have hz : es1.size = n + 1 := by rw [← Array.length_toList, hper.length_eq, List.length_append, Array.length_toList, hn]; rfl
    have hap1 : Apart kd es1.toList := by
      refine Apart.perm (List.pairwise_append.mpr ⟨hap, List.pairwise_singleton _ _, fun e he e' he' k' hk' => ?_⟩) hper
      rw [List.mem_singleton] at he'; subst he'
      cases hq : kd.is k' x with
      | false => rfl
      | true => cases kd.inj x k' k hq hkey; rw [hall e he] at hk'; cases hk'
    have hL : ∀ t2 : SetTable, t2.fits es1.size = true → Tab led t2 → (np = true → t2.plain = false) → Laid kd (fun k' => S k' || decide (k' = k)) (n + 1) led np es1 t2 :=
      fun t2 f2 tb2 o2 => ⟨(hel.push hkey hsc).perm hper, mem_push_iff hkey hmem hper, by rw [hz]; exact hroom, f2, hz, tb2, o2, hap1⟩
    have hend : ∀ h', Heap.SameBut a s.heap h' → SetTb kd h' a (fun k' => S k' || decide (k' = k)) (n + 1) led np → Q true { s with heap := h' } := by
      intro h' sb T; have q := hQ h' sb; rw [hk] at q; exact q T
    have gw : ∀ (c : Bool) {s₁ : Shared} {Q₁ : Unit → Shared → Prop}, Q₁ () s₁ →
        wpAny (model prog w) A (match c with | true => rule "set.scan.the-table-gave-way" | false => pure ()) Q₁ E s₁ := fun c s₁ Q₁ hq => by
      cases c <;> first | exact wpAny_pure hq | exact wpAny_rule hq
    refine wpAny_bind (gw _ ?_)
    split
    · refine wpAny_bind ?_
      rw [hashByValue_scannable 8 hsc]
      refine wpAny_pure ?_
      refine addTailT (n := n + 1) (led := led) (np := np) ?_ ho hex hd (hL _ ?_ ?_ ?_) ?_
      · exact fun b s₁ Q' hq => gw b hq
      · split
        · exact hfit
        · exact SetTable.fits_plain_off hfit
      · split
        · exact htb
        · exact htb.off
      · intro e; rw [hnp e]; rfl
      · intro h' sb T; dsimp only; exact wpAny_pure (hend h' sb T)
    · rename_i hpl
      refine wpAny_bind (wpAny_pure ?_)
      simp only [↓reduceIte]
      refine addTailT (n := n + 1) (led := led) (np := np) ?_ ho hex hd (hL _ hfit htb (fun _ => by simpa using hpl)) ?_
      · exact fun b s₁ Q' hq => gw b hq
      · intro h' sb T; dsimp only; exact wpAny_pure (hend h' sb T)
end
end BgSet
end
section
namespace BgSet
open PySem
set_option maxRecDepth 100000
set_option maxHeartbeats 1000000
theorem it_owner : Manifest.owners.lookup (String.ofList ['r', 'o', 't', 'a', 'r', 'e', 't', 'i', '_', 't', 'e', 's'].reverse) = some Manifest.sig_set_iterator := by kernel_rfl
theorem it_next : Slot "set_iterator" "__next__" "set_iterator.__next__" :=
  .of (owner := "set_iterator") (n := "__next__") (by rw [typeLookup_type, builtinLookup_eq_fast]; kernel_rfl) (by decide +kernel) (by decide +kernel)
    (by decide +kernel) (by first | exact .inl (by decide +kernel) | exact .inr (by decide +kernel))
    (by rw [isSubtype_type]; kernel_rfl)
theorem it_next_entry : entryFor table "set_iterator.__next__" = some Builtin.«set_iterator.__next__» := entryFor_of_tree (by kernel_rfl)
theorem it_next_args (v : Value) : argsOk "set_iterator.__next__" ⟨[v], []⟩ := by
  unfold argsOk
  rw [signature?_of (id := "set_iterator.__next__") (n := ['_', '_', 't', 'x', 'e', 'n', '_', '_']) (o := ['r', 'o', 't', 'a', 'r', 'e', 't', 'i', '_', 't', 'e', 's']) (by kernel_rfl) it_owner]
  kernel_rfl
theorem it_iter : Slot "set_iterator" "__iter__" "set_iterator.__iter__" :=
  .of (owner := "set_iterator") (n := "__iter__") (by rw [typeLookup_type, builtinLookup_eq_fast]; kernel_rfl) (by decide +kernel) (by decide +kernel)
    (by decide +kernel) (by first | exact .inl (by decide +kernel) | exact .inr (by decide +kernel))
    (by rw [isSubtype_type]; kernel_rfl)
theorem it_iter_entry : entryFor table "set_iterator.__iter__" = some Builtin.«dict_keyiterator.__iter__» :=
  entryFor_alias (id' := "dict_keyiterator.__iter__") (by kernel_rfl) rfl (by decide +kernel) (by kernel_rfl)
theorem it_iter_args (v : Value) : argsOk "set_iterator.__iter__" ⟨[v], []⟩ := by
  unfold argsOk
  rw [signature?_of (id := "set_iterator.__iter__") (n := ['_', '_', 'r', 'e', 't', 'i', '_', '_']) (o := ['r', 'o', 't', 'a', 'r', 'e', 't', 'i', '_', 't', 'e', 's']) (by kernel_rfl) it_owner]
  kernel_rfl
theorem set_iter_entry : entryFor table "set.__iter__" = some Builtin.«frozenset.__iter__» :=
  entryFor_alias (id' := "frozenset.__iter__") (by kernel_rfl) rfl (by decide +kernel) (by kernel_rfl)
def byText (w : World) : Bool := w.params.followText "set-order"
theorem erase_perm {α : Type} : ∀ {l : List α} {i : Nat} (hi : i < l.length), (l[i] :: l.eraseIdx i).Perm l
  | x :: l, 0, _ => List.Perm.refl _
  | x :: l, i + 1, hi => by
    have hi' : i < l.length := by simpa using hi
    have h := erase_perm hi'
    simp only [List.getElem_cons_succ, List.eraseIdx_cons_succ]
    exact (List.Perm.swap _ _ _).trans (h.cons x)
theorem pick_go {α : Type} (nx : Nat → Nat) : ∀ (fl k : Nat) (left : List α) (out : Array α), left.length ≤ fl → (pickOrder.go nx fl k left out).toList.Perm (out.toList ++ left) := by
  intro fl
  induction fl with
  | zero => intro k left out h; cases left with
    | nil => simp [pickOrder.go]
    | cons x l => simp at h
  | succ fl ih =>
    intro k left out h
    unfold pickOrder.go
    cases hl : left[nx k % left.length]? with
    | none =>
      have : left = [] := by
        cases left with
        | nil => rfl
        | cons x l => rw [List.getElem?_eq_getElem (Nat.mod_lt _ (by simp))] at hl; cases hl
      subst this; simp
    | some x =>
      obtain ⟨hi, hx⟩ := List.getElem?_eq_some_iff.mp hl
      have hp := erase_perm hi
      rw [hx] at hp
      refine (ih (k + 1) _ _ (by rw [List.length_eraseIdx]; split <;> lia)).trans ?_
      rw [Array.toList_push, List.append_assoc]
      exact hp.append_left out.toList
theorem pick_perm {α : Type} (nx : Nat → Nat) (xs : Array α) : (pickOrder nx xs).toList.Perm xs.toList := by
  have := pick_go nx xs.size 0 xs.toList #[] (by simp)
  simpa [pickOrder] using this
section
variable {prog : Program} {w : World} {A : Around} {E : Value → Shared → Prop} {s : Shared}
theorem wp_draw {src : Source} {n : Nat} {Q : Nat → Shared → Prop} (hn : n ≠ 0) (h : ∀ i d, i < n → Q i { s with drawn := d }) : wpAny (model prog w) A (choose src n) Q E s := fun Γ p hΓ => by
  show Sem.wp _ _ (Sem.choose src n Sem.pure) _ _ _ _
  rw [Sem.wp_choose]
  refine ⟨hn, ?_⟩
  rw [Sem.wp_pure]
  exact h _ _ (Nat.mod_lt _ (Nat.pos_of_ne_zero hn))
theorem wp_order {α : Type} : ∀ (n : Nat) (xs : List α) {s : Shared} {Q : List α → Shared → Prop}, xs.length = n → (∀ ys d, ys.Perm xs → Q ys { s with drawn := d }) → wpAny (model prog w) A (drawOrder n xs) Q E s := by
  intro n
  induction n with
  | zero =>
    intro xs s Q hl h
    have : xs = [] := by simpa using hl
    subst this
    unfold drawOrder
    exact wpAny_pure (h [] s.drawn (List.Perm.refl _))
  | succ n ih =>
    intro xs s Q hl h
    cases xs with
    | nil => simp at hl
    | cons x l =>
      unfold drawOrder
      refine wpAny_bind (wp_draw (by simp) fun i d hi => ?_)
      rw [List.getElem?_eq_getElem hi]
      dsimp only
      refine wpAny_bind (ih _ (by rw [List.length_eraseIdx, if_pos hi]; lia) fun ys d' hp => ?_)
      exact wpAny_pure (h _ d' ((hp.cons _).trans (erase_perm hi)))
end
end BgSet
end
section
namespace BgSet
open PySem
set_option maxRecDepth 100000
set_option maxHeartbeats 1000000
def ItAt (h : Heap) (I : Addr) (f : Value) (i : Nat) (a : Addr) (n ep : Nat) : Prop :=
  h.get? I = some { cls := .type "set_iterator", dict := none, data := .fields #[f, .int (i : Int) 0, .ref a, .int (n : Int) 0, .int (ep : Int) 0], slots := #[] }
theorem ItAt.type {s : Shared} {I a : Addr} {f : Value} {i n ep : Nat} (h : ItAt s.heap I f i a n ep) : s.TypeIs (.ref I) "set_iterator" := ⟨_, h, rfl⟩
structure SetAt (h : Heap) (a : Addr) (es : Array (Int × Value)) (ep : Nat) (t : SetTable) : Prop where
  at_ : ∃ o, h.get? a = some o ∧ o.cls = .type "set" ∧ o.data = .set es ep t
  fit : t.fits es.size = true
theorem SetAt.keep {h h' : Heap} {a : Addr} {es : Array (Int × Value)} {ep : Nat} {t : SetTable} (x : SetAt h a es ep t) (k : ∀ o, h.get? a = some o → h'.get? a = some o) : SetAt h' a es ep t := by
  obtain ⟨⟨o, ho, r⟩, f⟩ := x
  exact ⟨⟨o, k o ho, r⟩, f⟩
section
variable {prog : Program} {w : World} {A : Around} {E : Value → Shared → Prop} {s : Shared} {I a : Addr} {i n ep : Nat} {es : Array (Int × Value)} {t : SetTable}
theorem SetAt.state {Q : (Array (Int × Value) × Nat × SetTable) → Shared → Prop} (x : SetAt s.heap a es ep t) (h : Q (es, ep, t) s) : wpAny (model prog w) A (setState a) Q E s := by
  obtain ⟨⟨o, ho, -, hd⟩, f⟩ := x
  exact wpAny_setState_of ho hd f h
theorem SetAt.entries {Q : Array (Int × Value) → Shared → Prop} (x : SetAt s.heap a es ep t) (h : Q es s) : wpAny (model prog w) A (setEntries a) Q E s := by
  unfold setEntries
  exact wpAny_bind (x.state (wpAny_pure h))
theorem SetAt.epoch {Q : Nat → Shared → Prop} (x : SetAt s.heap a es ep t) (h : Q ep s) : wpAny (model prog w) A (setEpoch a) Q E s := by
  unfold setEpoch
  exact wpAny_bind (x.state (wpAny_pure h))
theorem by_text {Q : Bool → Shared → Prop} (h : Q (byText w) s) : wpAny (model prog w) A setsByText Q E s := by
  unfold setsByText
  exact wpAny_bind (wpAny_askSetting (wpAny_pure h))
theorem next_text {sl : Nat} {Q : Option (Value × Nat) → Shared → Prop} (hb : byText w = true) (x : SetAt s.heap a es ep t)
    (h : Q (((pickOrder (w.params.setOrder a ep) es)[i]?).map fun e => (e.2, sl)) s) : wpAny (model prog w) A (setNext a sl i ep) Q E s := by
  unfold setNext
  refine wpAny_bind (x.state ?_)
  dsimp only
  refine wpAny_bind (by_text ?_)
  rw [hb]
  simp only [bne_self_eq_false, Bool.false_eq_true, ↓reduceIte]
  refine wpAny_bind ?_
  unfold setWalk
  refine wpAny_bind (x.state ?_)
  dsimp only
  refine wpAny_bind (by_text ?_)
  rw [hb]
  simp only [↓reduceIte]
  exact wpAny_bind (wpAny_askSetting (wpAny_pure (wpAny_pure h)))
theorem next_place {sl : Nat} {Q : Option (Value × Nat) → Shared → Prop} (hb : byText w = false) (x : SetAt s.heap a es ep t) (hl : t.led = true) (hp : t.plain = true ∨ es.size ≤ 1)
    (h : Q (match es[SetTable.below t.place sl]?, t.place[SetTable.below t.place sl]? with | some (_, x), some j => some (x, j + 1) | _, _ => none) s) :
    wpAny (model prog w) A (setNext a sl i ep) Q E s := by
  unfold setNext
  refine wpAny_bind (x.state ?_)
  dsimp only
  refine wpAny_bind (by_text ?_)
  rw [hb]
  simp only [Bool.false_eq_true, ↓reduceIte]
  refine wpAny_ite_split (fun hd => ?_) (fun _ => ?_)
  · change (!t.plain && decide (es.size > 1)) = true at hd
    rcases hp with hp | hp
    · rw [hp] at hd; cases hd
    · rw [Bool.and_eq_true, decide_eq_true_eq] at hd; omega
  · refine wpAny_bind ?_
    show wpAny _ _ (if (!t.led && !es.isEmpty) = true then _ else _) _ _ _
    rw [hl]
    simp only [Bool.not_true, Bool.false_and, Bool.false_eq_true, ↓reduceIte]
    exact wpAny_pure (wpAny_pure h)
theorem itF_item {sl nx : Nat} {x : Value} {Q : Option Value → Shared → Prop} (hI : ItAt s.heap I (.int (sl : Int) 0) i a n ep) (S : SetAt s.heap a es ep t) (hn : es.size = n)
    (hx : ∀ {E' : Value → Shared → Prop} {Q' : Option (Value × Nat) → Shared → Prop}, Q' (some (x, nx)) s → wpAny (model prog w) A.in1 (setNext a sl i ep) Q' E' s)
    (hQ : ∀ h', ItAt h' I (.int (nx : Int) 0) (i + 1) a n ep → Heap.SameBut I s.heap h' → Q (some x) { s with heap := h' }) :
    wpAny (model prog w) A (pyNext (.ref I)) Q E s := by
  unfold pyNext
  refine wpAny_bind (wpAny_attempt (wpAny_callSpecial?_slot (name := Str.ofString "__next__") hI.type it_next (wpAny_call_entry it_next hI.type it_next_entry ?_ (it_next_args _))))
  unfold Builtin.«set_iterator.__next__»
  refine wpAny_bind (m := slotArgs _ _ _) (wpAny_pure ?_)
  refine wpAny_bind (wpAny_fieldsOf hI rfl ?_)
  dsimp only
  refine wpAny_bind (S.entries ?_)
  rw [hn]
  simp only [bne_self_eq_false, Bool.false_eq_true, ↓reduceIte, Int.toNat_natCast]
  refine wpAny_bind (hx ?_)
  dsimp only
  refine wpAny_bind (PySem.wpAny_setField_rec hI (by simp) fun h1 g1 sb1 => ?_)
  refine wpAny_bind (PySem.wpAny_setField_rec g1 (by simp) fun h2 g2 sb2 => ?_)
  refine wpAny_pure ⟨_, rfl, wpAny_pure (hQ h2 ?_ (sb1.trans sb2))⟩
  unfold ItAt
  rw [g2]
  simp [rawInt]
theorem it_stop {Q : Option Value → Shared → Prop} {h1 : Heap} (hh : A.handled = none) (sb : Heap.SameBut I s.heap h1)
    (hQ : ∀ h', Heap.ExtBut I s.heap h' → Q none { s with heap := h' }) :
    wpAny (model prog w) A.in1 (newExc (.type "StopIteration") [] >>= fun e => (raiseNew e : Sem Fin)) (fun fin s' => ∃ v, fin = .done (.ret v) ∧ wpAny (model prog w) A (pure (some v)) Q E s')
      (fun e s' => wpAny (model prog w) A (do if ← isInstance e (.type "StopIteration") then pure none else throw e) Q E s') { s with heap := h1 } := by
  refine wpAny_bind ?_
  simp only [newExc, newTuple]
  refine wpAny_bind (wpAny_newObj_type ?_ (by size_fits))
  refine wpAny_bind (m := firstArgMember _ _) (wpAny_of_eq (a := Value.none) (by first | rfl | (simp only [firstArgMember]; rfl)) ?_)
  refine wpAny_newObj_type ?_ (by size_fits)
  simp only [raiseNew]
  refine wpAny_bind (wpAny_handled ?_)
  rw [show A.in1.handled = none from hh]
  refine wpAny_bind (wpAny_pure (wpAny_throw ?_))
  refine wpAny_bind (wpAny_isInstance (T := "StopIteration") (b := true) ⟨_, Heap.get?_push_size _ rfl, rfl⟩ isSubtype_stop ?_)
  exact wpAny_pure (hQ _ ((sb.extBut.push _).push _))
theorem itF_done {sl : Nat} {Q : Option Value → Shared → Prop} (hh : A.handled = none) (hI : ItAt s.heap I (.int (sl : Int) 0) i a n ep) (S : SetAt s.heap a es ep t) (hn : es.size = n)
    (hx : ∀ {E' : Value → Shared → Prop} {Q' : Option (Value × Nat) → Shared → Prop}, Q' none s → wpAny (model prog w) A.in1 (setNext a sl i ep) Q' E' s)
    (hQ : ∀ h', Heap.ExtBut I s.heap h' → Q none { s with heap := h' }) :
    wpAny (model prog w) A (pyNext (.ref I)) Q E s := by
  unfold pyNext
  refine wpAny_bind (wpAny_attempt (wpAny_callSpecial?_slot (name := Str.ofString "__next__") hI.type it_next (wpAny_call_entry it_next hI.type it_next_entry ?_ (it_next_args _))))
  unfold Builtin.«set_iterator.__next__»
  refine wpAny_bind (m := slotArgs _ _ _) (wpAny_pure ?_)
  refine wpAny_bind (wpAny_fieldsOf hI rfl ?_)
  dsimp only
  refine wpAny_bind (S.entries ?_)
  rw [hn]
  simp only [bne_self_eq_false, Bool.false_eq_true, ↓reduceIte, Int.toNat_natCast]
  refine wpAny_bind (hx ?_)
  dsimp only
  refine wpAny_bind (PySem.wpAny_setField_rec hI (by simp) fun h1 g1 sb1 => ?_)
  exact it_stop hh sb1 hQ
theorem itD_item {T : Addr} {ord : List Nat} {q : Nat} {e : Int × Value} {Q : Option Value → Shared → Prop} (hI : ItAt s.heap I (.ref T) i a n ep) (S : SetAt s.heap a es ep t) (hn : es.size = n)
    (hT : ∃ o c, s.heap.get? T = some o ∧ o.data = .seq (ord.map fun (i : Nat) => rawInt i).toArray c) (hq : ord[i]? = some q) (he : es[q]? = some e)
    (hQ : ∀ h', ItAt h' I (.ref T) (i + 1) a n ep → Heap.SameBut I s.heap h' → Q (some e.2) { s with heap := h' }) :
    wpAny (model prog w) A (pyNext (.ref I)) Q E s := by
  obtain ⟨oT, c, hoT, hdT⟩ := hT
  unfold pyNext
  refine wpAny_bind (wpAny_attempt (wpAny_callSpecial?_slot (name := Str.ofString "__next__") hI.type it_next (wpAny_call_entry it_next hI.type it_next_entry ?_ (it_next_args _))))
  unfold Builtin.«set_iterator.__next__»
  refine wpAny_bind (m := slotArgs _ _ _) (wpAny_pure ?_)
  refine wpAny_bind (wpAny_fieldsOf hI rfl ?_)
  dsimp only
  refine wpAny_bind (S.entries ?_)
  rw [hn]
  simp only [bne_self_eq_false, Bool.false_eq_true, ↓reduceIte, Int.toNat_natCast]
  refine wpAny_bind (wpAny_seqItems hoT hdT ?_)
  have hg : (ord.map fun (i : Nat) => rawInt i).toArray[i]? = some (.int (q : Int) 0) := by
    rw [List.getElem?_toArray, List.getElem?_map, hq]; rfl
  dsimp only
  rw [hg]
  dsimp only
  simp only [Int.toNat_natCast]
  refine wpAny_bind ?_
  unfold setNextDrawn
  refine wpAny_bind (S.state ?_)
  dsimp only
  simp only [bne_self_eq_false, Bool.false_eq_true, ↓reduceIte]
  rw [he]
  dsimp only
  refine wpAny_pure ?_
  refine wpAny_bind (PySem.wpAny_setField_rec hI (by simp) fun h1 g1 sb1 => ?_)
  refine wpAny_pure ⟨_, rfl, wpAny_pure (hQ h1 ?_ sb1)⟩
  unfold ItAt
  rw [g1]
  simp [rawInt]
theorem itD_done {T : Addr} {ord : List Nat} {Q : Option Value → Shared → Prop} (hh : A.handled = none) (hI : ItAt s.heap I (.ref T) i a n ep) (S : SetAt s.heap a es ep t) (hn : es.size = n)
    (hT : ∃ o c, s.heap.get? T = some o ∧ o.data = .seq (ord.map fun (i : Nat) => rawInt i).toArray c) (hq : ord[i]? = none)
    (hQ : ∀ h', Heap.ExtBut I s.heap h' → Q none { s with heap := h' }) :
    wpAny (model prog w) A (pyNext (.ref I)) Q E s := by
  obtain ⟨oT, c, hoT, hdT⟩ := hT
  unfold pyNext
  refine wpAny_bind (wpAny_attempt (wpAny_callSpecial?_slot (name := Str.ofString "__next__") hI.type it_next (wpAny_call_entry it_next hI.type it_next_entry ?_ (it_next_args _))))
  unfold Builtin.«set_iterator.__next__»
  refine wpAny_bind (m := slotArgs _ _ _) (wpAny_pure ?_)
  refine wpAny_bind (wpAny_fieldsOf hI rfl ?_)
  dsimp only
  refine wpAny_bind (S.entries ?_)
  rw [hn]
  simp only [bne_self_eq_false, Bool.false_eq_true, ↓reduceIte, Int.toNat_natCast]
  refine wpAny_bind (wpAny_seqItems hoT hdT ?_)
  have hg : (ord.map fun (i : Nat) => rawInt i).toArray[i]? = none := by
    rw [List.getElem?_toArray, List.getElem?_map, hq]; rfl
  dsimp only
  rw [hg]
  dsimp only
  refine wpAny_bind (PySem.wpAny_setField_rec hI (by simp) fun h1 g1 sb1 => ?_)
  refine wpAny_bind (PySem.wpAny_setField_rec g1 (by simp) fun h2 g2 sb2 => ?_)
  exact it_stop (s := s) hh (sb1.trans sb2) hQ
theorem it_self {f : Value} {Q : Value → Shared → Prop} (hI : ItAt s.heap I f i a n ep) (h : Q (.ref I) s) : wpAny (model prog w) A (pyIter (.ref I)) Q E s := by
  refine wpAny_pyIter_slot hI.type it_iter (wpAny_call_entry it_iter hI.type it_iter_entry ?_ (it_iter_args _))
  show wpAny _ _ (ret (.ref I)) _ _ s
  exact wpAny_pure ⟨_, rfl, "set_iterator", _, hI.type, it_next.lookup, h⟩
theorem walk_text (hh : A.handled = none) (hb : byText w = true) (hne : a ≠ I) :
    Walks prog w A I [I, a] [I] es.size (fun i v => ∃ e, (pickOrder (w.params.setOrder a ep) es).toList[i]? = some e ∧ v = e.2) (fun i h => ItAt h I (.int ((0 : Nat) : Int) 0) i a es.size ep ∧ SetAt h a es ep t) where
  sub := fun b hb => by simp at hb; simp [hb]
  frame := fun i h h' st hk => ⟨hk I (by simp) _ st.1, st.2.keep fun o e => hk a (by simp) o e⟩
  item := fun i s Q E hi st hQ => by
    have hz := (pick_perm (w.params.setOrder a ep) es).length_eq
    have hg : (pickOrder (w.params.setOrder a ep) es).toList[i]? = some ((pickOrder (w.params.setOrder a ep) es).toList[i]'(by rw [hz, Array.length_toList]; exact hi)) := List.getElem?_eq_getElem _
    refine itF_item (x := ((pickOrder (w.params.setOrder a ep) es).toList[i]'(by rw [hz, Array.length_toList]; exact hi)).2) (nx := 0) st.1 st.2 rfl (fun hq => next_text hb st.2 ?_) fun h' hI' sb => ?_
    · rw [← Array.getElem?_toList, hg]; exact hq
    · exact hQ _ h' s.toks ⟨_, hg, rfl⟩ ⟨hI', st.2.keep fun o e => by rw [sb.2 a hne]; exact e⟩ fun b o hb e => by rw [sb.2 b (by simpa using hb)]; exact e
  done := fun s Q E st hQ => by
    have hz := (pick_perm (w.params.setOrder a ep) es).length_eq
    refine itF_done hh st.1 st.2 rfl (fun hq => next_text hb st.2 ?_) fun h' hx => ?_
    · rw [← Array.getElem?_toList, List.getElem?_eq_none (by rw [hz, Array.length_toList]; exact Nat.le_refl _)]; exact hq
    · exact hQ h' s.toks fun b o hb e => hx b o (by simpa using hb) e
  self := fun i s Q E st hQ => it_self st.1 hQ
theorem walk_place (hh : A.handled = none) (hb : byText w = false) (hne : a ≠ I) (hl : t.led = true) (hp : t.plain = true ∨ es.size ≤ 1) (hr : Ris t.place) (hz : t.place.size = es.size) :
    Walks prog w A I [I, a] [I] es.size (fun i v => ∃ e, es.toList[i]? = some e ∧ v = e.2) (fun i h => ∃ sl : Nat, ItAt h I (.int (sl : Int) 0) i a es.size ep ∧ SetAt h a es ep t ∧ SetTable.below t.place sl = i) where
  sub := fun b hb => by simp at hb; simp [hb]
  frame := fun i h h' ⟨sl, x1, x2, x3⟩ hk => ⟨sl, hk I (by simp) _ x1, x2.keep fun o e => hk a (by simp) o e, x3⟩
  item := fun i s Q E hi ⟨sl, x1, x2, x3⟩ hQ => by
    have g1 : es[i]? = some es[i] := Array.getElem?_eq_getElem hi
    have hi' : i < t.place.size := by rw [hz]; exact hi
    have g2 : t.place[i]? = some t.place[i] := Array.getElem?_eq_getElem hi'
    refine itF_item (x := es[i].2) (nx := t.place[i] + 1) x1 x2 rfl (fun hq => next_place hb x2 hl hp ?_) fun h' hI' sb => ?_
    · rw [x3, g1, g2]; exact hq
    · exact hQ _ h' s.toks ⟨_, by rw [Array.getElem?_toList]; exact g1, rfl⟩ ⟨_, hI', x2.keep fun o e => by rw [sb.2 a hne]; exact e, below_next hr g2⟩ fun b o hb e => by rw [sb.2 b (by simpa using hb)]; exact e
  done := fun s Q E ⟨sl, x1, x2, x3⟩ hQ => by
    refine itF_done hh x1 x2 rfl (fun hq => next_place hb x2 hl hp ?_) fun h' hx => ?_
    · rw [x3, Array.getElem?_eq_none (Nat.le_refl _)]; exact hq
    · exact hQ h' s.toks fun b o hb e => hx b o (by simpa using hb) e
  self := fun i s Q E ⟨sl, x1, x2, x3⟩ hQ => it_self x1 hQ
def along (es : Array (Int × Value)) (ord : List Nat) : List (Int × Value) := ord.map fun q => (es[q]?).getD (0, .none)
theorem along_perm {ord : List Nat} (hp : ord.Perm (List.range es.size)) : (along es ord).Perm es.toList := by
  refine (hp.map _).trans (List.Perm.of_eq ?_)
  refine List.ext_getElem? fun i => ?_
  rw [List.getElem?_map]
  rcases Nat.lt_or_ge i es.size with h | h
  · rw [List.getElem?_range h, Array.getElem?_toList, Array.getElem?_eq_getElem h]
    simp [h]
  · rw [List.getElem?_eq_none (by simpa using h), List.getElem?_eq_none (by simpa using h)]; rfl
theorem walk_drawn {T : Addr} {ord : List Nat} (hh : A.handled = none) (hne : a ≠ I) (hTI : T ≠ I) (hp : ord.Perm (List.range es.size)) :
    Walks prog w A I [I, a, T] [I] es.size (fun i v => ∃ e, (along es ord)[i]? = some e ∧ v = e.2)
      (fun i h => ItAt h I (.ref T) i a es.size ep ∧ SetAt h a es ep t ∧ ∃ o c, h.get? T = some o ∧ o.data = .seq (ord.map fun (i : Nat) => rawInt i).toArray c) where
  sub := fun b hb => by simp at hb; simp [hb]
  frame := fun i h h' ⟨x1, x2, o, c, x3, x4⟩ hk => ⟨hk I (by simp) _ x1, x2.keep fun o e => hk a (by simp) o e, o, c, hk T (by simp) _ x3, x4⟩
  item := fun i s Q E hi ⟨x1, x2, x3⟩ hQ => by
    have hlen : ord.length = es.size := by rw [hp.length_eq, List.length_range]
    have hi' : i < ord.length := by rw [hlen]; exact hi
    have hq : ord[i]? = some ord[i] := List.getElem?_eq_getElem hi'
    have hlt : ord[i] < es.size := by simpa using hp.mem_iff.mp (List.getElem_mem hi')
    have he : es[ord[i]]? = some es[ord[i]] := Array.getElem?_eq_getElem hlt
    have hg : (along es ord)[i]? = some es[ord[i]] := by unfold along; rw [List.getElem?_map, hq]; simp [he]
    refine itD_item x1 x2 rfl x3 hq he fun h' hI' sb => ?_
    obtain ⟨o, c, y1, y2⟩ := x3
    exact hQ _ h' s.toks ⟨_, hg, rfl⟩ ⟨hI', x2.keep fun o e => by rw [sb.2 a hne]; exact e, o, c, by rw [sb.2 T hTI]; exact y1, y2⟩ fun b o hb e => by rw [sb.2 b (by simpa using hb)]; exact e
  done := fun s Q E ⟨x1, x2, x3⟩ hQ => by
    have hlen : ord.length = es.size := by rw [hp.length_eq, List.length_range]
    refine itD_done hh x1 x2 rfl x3 (List.getElem?_eq_none (by omega)) fun h' hx => ?_
    exact hQ h' s.toks fun b o hb e => hx b o (by simpa using hb) e
  self := fun i s Q E ⟨x1, x2, x3⟩ hQ => it_self x1 hQ
theorem ris_few {ps : Array Nat} (h : ps.size ≤ 1) : Ris ps := by
  unfold Ris
  obtain ⟨l⟩ := ps
  match l, h with
  | [], _ => exact List.Pairwise.nil
  | [x], _ => exact List.pairwise_singleton _ _
theorem set_iter {Q : Value → Shared → Prop} (hh : A.handled = none) (S : SetAt s.heap a es ep t) (hT : Tab (!byText w) t) (hz : es.size ≤ sizeLine)
    (hQ : ∀ (I : Addr) (h' : Heap) d (fp : List Addr) (L : List (Int × Value)) (St : Nat → Heap → Prop), L.Perm es.toList → (∀ b o, s.heap.get? b = some o → h'.get? b = some o) →
      (∀ b ∈ fp, b = a ∨ s.heap.objs.size ≤ b) → s.heap.objs.size ≤ I → Walks prog w A I fp [I] es.size (fun i v => ∃ e, L[i]? = some e ∧ v = e.2) St → St 0 h' → Q (.ref I) { s with heap := h', drawn := d }) :
    wpAny (model prog w) A (pyIter (.ref a)) Q E s := by
  obtain ⟨⟨o, ho, hc, hd⟩, hf⟩ := id S
  have lt := Heap.lt_size ho
  have hps : t.place.size = es.size := by
    simp only [SetTable.fits, Bool.and_eq_true, beq_iff_eq] at hf; exact hf.1
  have hty : s.TypeIs (.ref a) "set" := ⟨o, ho, hc⟩
  refine wpAny_pyIter_slot hty F.slot_set_iter (wpAny_call_entry F.slot_set_iter hty set_iter_entry ?_ (F.args_set_iter_1 _))
  unfold Builtin.«frozenset.__iter__»
  refine wpAny_bind (m := Builtin.Frozenset.slot0 _ _) (wpAny_pure ?_)
  refine wpAny_bind ?_
  unfold Builtin.Frozenset.sizeOf
  refine wpAny_bind (S.entries (wpAny_pure ?_))
  refine wpAny_bind ?_
  unfold setDrawn
  refine wpAny_bind (S.state ?_)
  dsimp only
  refine wpAny_bind (by_text (wpAny_pure ?_))
  refine wpAny_ite_split (fun hdr => ?_) (fun hdr => ?_)
  · change (!byText w && (!t.plain && decide (es.size > 1))) = true at hdr
    refine wpAny_bind (wp_order _ _ (List.length_range) fun ys d hp => ?_)
    have hyl : ys.length = es.size := by rw [hp.length_eq, List.length_range]
    refine wpAny_bind (wpAny_newTuple ?_ (by rw [List.length_map, hyl]; exact hz))
    refine wpAny_bind (SetAt.epoch (es := es) (t := t) (ep := ep) (S.keep fun o e => Heap.get?_push_of_some _ e) ?_)
    refine wpAny_bind (wpAny_newObj_type (wpAny_pure ⟨_, rfl, "set_iterator", _, ⟨_, Heap.get?_push_size _ rfl, rfl⟩, it_next.lookup, ?_⟩))
    refine hQ _ _ d [_, a, s.heap.objs.size] (along es ys) _ (along_perm hp) (fun b o e => Heap.get?_push_of_some _ (Heap.get?_push_of_some _ e)) (fun b hb => ?_) ?_
      (walk_drawn (T := s.heap.objs.size) (ep := ep) (t := t) (by exact hh) ?_ ?_ hp) ⟨Heap.get?_push_size _ rfl, S.keep fun o e => Heap.get?_push_of_some _ (Heap.get?_push_of_some _ e), _, _, Heap.get?_push_of_some _ (Heap.get?_push_size _ rfl), rfl⟩
    · rw [Heap.size_push] at hb
      simp only [List.mem_cons, List.not_mem_nil, or_false] at hb
      rcases hb with rfl | rfl | rfl
      · exact .inr (by omega)
      · exact .inl rfl
      · exact .inr (Nat.le_refl _)
    · rw [Heap.size_push]; exact Nat.le_succ _
    · rw [Heap.size_push]; exact Nat.ne_of_lt (Nat.lt_succ_of_lt lt)
    · rw [Heap.size_push]; exact Nat.ne_of_lt (Nat.lt_succ_self _)
  · change ¬ ((!byText w && (!t.plain && decide (es.size > 1))) = true) at hdr
    refine wpAny_bind (wpAny_pure ?_)
    refine wpAny_bind (S.epoch ?_)
    refine wpAny_bind (wpAny_newObj_type (wpAny_pure ⟨_, rfl, "set_iterator", _, ⟨_, Heap.get?_push_size _ rfl, rfl⟩, it_next.lookup, ?_⟩))
    have hfp : ∀ b ∈ [s.heap.objs.size, a], b = a ∨ s.heap.objs.size ≤ b := fun b hb => by
      simp only [List.mem_cons, List.not_mem_nil, or_false] at hb
      rcases hb with rfl | rfl
      · exact .inr (Nat.le_refl _)
      · exact .inl rfl
    cases hbt : byText w with
    | true =>
      refine hQ _ _ s.drawn [_, a] _ _ (pick_perm (w.params.setOrder a ep) es) (fun b o e => Heap.get?_push_of_some _ e) hfp (Nat.le_refl _)
        (walk_text (t := t) hh hbt (Nat.ne_of_lt lt)) ⟨Heap.get?_push_size _ rfl, S.keep fun o e => Heap.get?_push_of_some _ e⟩
    | false =>
      rw [hbt] at hdr
      have hl : t.led = true := by rw [hT.led, hbt]; rfl
      have hpl : t.plain = true ∨ es.size ≤ 1 := by
        cases hq : t.plain with
        | true => exact .inl rfl
        | false => rw [hq] at hdr; simp at hdr; exact .inr (by omega)
      have hr : Ris t.place := by
        rcases hpl with h | h
        · exact hT.ris h
        · exact ris_few (by rw [hps]; exact h)
      refine hQ _ _ s.drawn [_, a] _ _ (List.Perm.refl _) (fun b o e => Heap.get?_push_of_some _ e) hfp (Nat.le_refl _)
        (walk_place (t := t) (ep := ep) hh hbt (Nat.ne_of_lt lt) hl hpl hr hps) ⟨0, Heap.get?_push_size _ rfl, S.keep fun o e => Heap.get?_push_of_some _ e, below_zero hr⟩
end
end BgSet
end
section
namespace BgSet
open PySem PyProof.Rows
set_option maxRecDepth 100000
set_option maxHeartbeats 3200000
section
variable {prog : Program} {w : World} {A : Around} {R : Result → Shared → Prop} {I : Addr} {fp wr : List Addr} {G : Array GenState → Array GenState → Prop} {n : Nat} {P : Nat → Value → Prop} {St : Nat → Shared → Prop}
variable {K : Type} [DecidableEq K] {kd : KeyKind prog w K}
def met (val : Nat → K) (i : Nat) (k : K) : Bool := decide (k ∈ (List.range i).map val)
theorem met_succ (val : Nat → K) (i : Nat) (k : K) : (met val i k || decide (k = val i)) = met val (i + 1) k := by
  unfold met
  rw [Bool.eq_iff_iff, Bool.or_eq_true, decide_eq_true_eq, decide_eq_true_eq, decide_eq_true_eq, List.range_succ, List.map_append, List.mem_append]
  simp
theorem set_loop (W : WalksS prog w A.in1 I fp wr G n P St) (S : Addr) (hSf : S ∉ fp) (val : Nat → K) (led np : Bool)
    (hval : ∀ i v, P i v → kd.is (val i) v = true ∧ v.scannable = true ∧ (np = true → plainKind v = false)) (hb : n + 1 < scanBound) :
    ∀ (k i m : Nat) (s : Shared), n - i = k → i ≤ n → m ≤ i → St i s → SetTb kd s.heap S (met val i) m led np →
      (∀ s' m', Moved (S :: wr) G s s' → m' ≤ n → SetTb kd s'.heap S (met val n) m' led np → R (.ok (.ret .none)) s') →
      codeAny (model prog w) A (.builtin "set.update.loop" ⟨[.ref S, .ref I], []⟩) R s := by
  have hSw : S ∉ wr := fun h => hSf (W.sub _ h)
  have more : ∀ b ∈ wr, b ∈ S :: wr := fun b hb => List.mem_cons_of_mem _ hb
  intro k
  induction k with
  | zero =>
    intro i m s hk hi hm st T hR
    cases (by lia : i = n)
    refine codeAny_builtin PyProof.Rows.F.entry_set_update_loop ?_
    rw [Around.under_plainId PyProof.Rows.F.plain_set_update_loop _]
    show wpAny _ A.in1 (pyNext (.ref I) >>= _) _ _ s
    refine wpAny_bind (W.done s _ _ st fun s' mv => ?_)
    show wpAny _ A.in1 (ret Value.none) _ _ s'
    exact wpAny_pure (hR s' m (mv.mono more) hm (T.keep fun o e => mv.heap S _ hSw e))
  | succ k ih =>
    intro i m s hk hi hm st T hR
    have lt : i < n := by lia
    refine codeAny_builtin PyProof.Rows.F.entry_set_update_loop ?_
    rw [Around.under_plainId PyProof.Rows.F.plain_set_update_loop _]
    show wpAny _ A.in1 (pyNext (.ref I) >>= _) _ _ s
    refine wpAny_bind (W.item i s _ _ lt st fun v s' hP st' mv => ?_)
    obtain ⟨h1, h2, h3⟩ := hval i v hP
    have T' := T.keep (h' := s'.heap) fun o e => mv.heap S _ hSw e
    show wpAny _ A.in1 (holding [v] (setAdd S v) >>= _) _ _ s'
    refine wpAny_bind (wpAny_holding ?_)
    unfold setAdd
    refine wpAny_holding ?_
    refine wpAny_bind (kd.pyHash (k := val i) h1 ?_)
    refine setAddT (s := { s' with toks := s'.toks + 1 }) h1 h2 h3 T' (by lia) fun h' sb T2 => ?_
    have hm2 : (if met val i (val i) = true then m else m + 1) ≤ i + 1 := by split <;> lia
    refine wpAny_pure ⟨plainId_quiet PyProof.Rows.F.plain_set_update_loop _, ih (i + 1) _ _ (by lia) lt hm2 (W.frame _ s' _ _ st' (Nat.le_succ _) fun b hb o e => ?_)
      (T2.congr (fun k' => met_succ val i k') rfl) fun s'' m' mv2 hm' T3 => ?_⟩
    · rw [sb.2 b (fun h : b = S => hSf (by rw [← h]; exact hb))]; exact e
    · refine hR s'' m' (Moved.trans W.gtrans ((mv.mono more).then_heap (Nat.le_succ _) fun b o hb e => ?_) mv2) hm' T3
      rw [sb.2 b (fun h : b = S => hb (by rw [h]; exact List.mem_cons_self))]; exact e
end
section
variable {prog : Program} {w : World} {A : Around} {E : Value → Shared → Prop} {s : Shared} {K : Type} [DecidableEq K] {kd : KeyKind prog w K}
def freshSet (w : World) : Obj := { cls := .type "set", dict := none, data := .set #[] 0 (.fresh 0 0 (!byText w)) }
theorem set_new (v : Value) {Q : Value → Shared → Prop} (h : Q (.ref s.heap.objs.size) { s with heap := s.heap.push (freshSet w) }) :
    codeAny (model prog w) A (.call (.builtin "set.__new__") ⟨[.type "set", v], []⟩) (wants Q E) s := by
  refine codeAny_of_tree ?_
  show wpAny _ A.in1 (checkBuiltinCall "set.__new__" ⟨[.type "set", v], []⟩ >>= fun _ => again (.builtin "set.__new__" ⟨[.type "set", v], []⟩)) _ _ s
  refine wpAny_bind (wpAny_of_eq (PySem.F.newCall_set_1 v) (wpAny_pure ⟨plainId_quiet PySem.F.plain_set_new _, codeAny_builtin PySem.F.entry_set_new ?_⟩))
  rw [Around.under_plainId PySem.F.plain_set_new _]
  unfold Builtin.«set.__new__» Builtin.Frozenset.newClass
  have hsub := sub_set_self
  obtain ⟨hp, g, d, tk, os⟩ := s
  dsimp only
  wp_walk
  refine wpAny_askSetting (wpAny_pure ?_)
  dsimp only
  simp only [newObj]
  refine wpAny_bind (wpAny_alloc (wpAny_pure ?_))
  exact wpAny_pure h
end
end BgSet
end
section
namespace BgSet
open PySem PyProof.Rows
set_option maxRecDepth 100000
set_option maxHeartbeats 3200000
section
variable {prog : Program} {w : World} {A : Around} {E : Value → Shared → Prop} {s : Shared} {K : Type} [DecidableEq K] [Inhabited K] {kd : KeyKind prog w K}
theorem set_of_list {l : Addr} {its : Array Value} (ks : List K) (np : Bool) {Q : Value → Shared → Prop} (hh : A.handled = none) (hl : s.heap.IsList l its) (hk : ks.length = its.size)
    (hv : ∀ (i : Nat) k v, ks[i]? = some k → its[i]? = some v → kd.is k v = true ∧ v.scannable = true ∧ (np = true → plainKind v = false)) (hb : its.size + 1 < scanBound)
    (hQ : ∀ (h' : Heap) (tk m : Nat), m ≤ its.size → SetTb kd h' s.heap.objs.size (fun k => decide (k ∈ ks)) m (!byText w) np →
      (∀ b o, b < s.heap.objs.size → s.heap.get? b = some o → h'.get? b = some o) → Q (.ref s.heap.objs.size) { s with heap := h', toks := tk }) :
    wpAny (model prog w) A (call (.type "set") [.ref l]) Q E s := by
  obtain ⟨c, tl, mro⟩ := PySem.F.called_set.mro
  have made := PySem.F.called_set.made
  have sub0 := PySem.F.called_set.sub
  refine wpAny_call (codeAny_of_tree ?_)
  show wpAny _ _ (callAny (.type "set") _) _ _ _
  refine wpAny_pure ⟨Code.quiet_builtin _ (by decide +kernel), codeAny_builtin PySem.F.entry_type_call ?_⟩
  rw [Around.under_plain (weight_type_call_type "set" [.ref l] []) rfl]
  have f1 := PySem.F.called_set.notType
  have f2 := PySem.F.called_set.canCreate
  have f3 := PySem.F.typeCall_set_1 (.ref l)
  repeat (any_goals (first | assumption | wp_step))
  refine codeAny_mono (set_new (.ref l) (E := E) (Q := fun v s1 => v = .ref s.heap.objs.size ∧ s1 = { s with heap := s.heap.push (freshSet w) }) ⟨rfl, rfl⟩) fun r s1 hr => ?_
  cases r with
  | error e => exact hr
  | ok fl =>
    cases fl with
    | ret v =>
      obtain ⟨rfl, rfl⟩ := hr
      have gS : (s.heap.push (freshSet w)).get? s.heap.objs.size = some (freshSet w) := Heap.get?_push_size _ rfl
      have tS : Shared.TypeIs { s with heap := s.heap.push (freshSet w) } (.ref s.heap.objs.size) "set" := ⟨_, gS, rfl⟩
      have li := PySem.F.called_set.init.lookup
      have bi := PySem.F.called_set.init.bind (.ref s.heap.objs.size)
      repeat (any_goals (first | assumption | wp_step))
      refine codeAny_mono (codeAny_call_builtin (R := wants (fun r s2 => r = .none ∧ ∃ h' tk m, s2 = { s with heap := h', toks := tk } ∧ m ≤ its.size ∧
          SetTb kd h' s.heap.objs.size (fun k => decide (k ∈ ks)) m (!byText w) np ∧ (∀ b o, b < s.heap.objs.size → s.heap.get? b = some o → h'.get? b = some o)) E)
          PySem.F.called_set.init.plain PySem.F.entry_set_init (check_set_init_1 tS ?_)) fun r2 s2 hr2 => ?_
      · obtain ⟨ol, gl, hcl, nl, hdl⟩ := hl
        obtain ⟨ocls, odict, odata, oslots⟩ := ol
        simp only at hcl hdl
        subst hcl; subst hdl
        have gl2 : (s.heap.push (freshSet w)).get? l = some { cls := .type "list", dict := odict, data := .seq its nl, slots := oslots } := Heap.get?_push_of_some _ gl
        have u1 := PySem.F.sub_list_set
        have u2 := PySem.F.sub_list_frozenset
        have u3 : (Value.type "list" == Value.type "dict") = false := by decide
        have hl1 : (s.heap.push (freshSet w)).IsList l its := ⟨_, gl2, rfl, nl, rfl⟩
        unfold Builtin.«set.__init__» noKeywords Builtin.Frozenset.updateFrom
        generalize hPI : pyIter = PI
        wp_walk
        subst hPI
        refine wpAny_pyIter_list hl1 ?_
        refine wpAny_bind (wpAny_runValue ?_)
        have lt : l < s.heap.objs.size := Heap.lt_size gl
        have hh3 : A.in1.in1.in1.handled = none := by simp [hh]
        have ne : l ≠ (s.heap.push (freshSet w)).objs.size := by
          rw [Heap.size_push]; exact Nat.ne_of_lt (Nat.lt_succ_of_lt lt)
        have nf : s.heap.objs.size ∉ [(s.heap.push (freshSet w)).objs.size, l] := by
          rw [Heap.size_push]
          simp only [List.mem_cons, List.not_mem_nil, or_false, not_or]
          exact ⟨Nat.ne_of_lt (Nat.lt_succ_self _), Nat.ne_of_gt lt⟩
        have hval : ∀ (i : Nat) (v : Value), its[i]? = some v → kd.is (ks.getD i default) v = true ∧ v.scannable = true ∧ (np = true → plainKind v = false) := fun i v hi => by
          have hlt : i < ks.length := by rw [hk]; exact (Array.getElem?_eq_some_iff.mp hi).1
          refine hv i _ v ?_ hi
          rw [List.getD_eq_getElem?_getD, List.getElem?_eq_getElem hlt]; rfl
        refine set_loop ((Walks.list hh3 _ l ne its).toS) s.heap.objs.size nf (fun i => ks.getD i default) (!byText w) np hval hb (its.size - 0) 0 0 _ (by lia) (Nat.zero_le _) (Nat.le_refl _)
          ⟨⟨_, Heap.get?_push_size _ rfl, rfl, rfl⟩, (hl1.push _)⟩ (SetTb.congr (SetTb.fresh (x := 0) (y := 0) (Heap.get?_push_of_some _ gS)) (fun k => rfl) rfl) fun s' m mv hm T => ?_
        obtain ⟨h', g', d', tk', os'⟩ := s'
        have eg : g' = s.gens := mv.gens
        have ed : d' = s.drawn := mv.drawn
        have eo : os' = s.os := mv.os
        subst eg; subst ed; subst eo
        show wpAny _ _ _ _ _ _
        refine wpAny_pure ?_
        show wpAny _ _ (ret Value.none) _ _ _
        refine wpAny_pure ⟨rfl, h', tk', m, rfl, hm, T.congr (fun k => ?_) rfl, fun b o hb e => ?_⟩
        · unfold met
          rw [Bool.eq_iff_iff, decide_eq_true_eq, decide_eq_true_eq]
          have : (List.range its.size).map (fun i => ks.getD i default) = ks := by
            refine List.ext_getElem? fun i => ?_
            rw [List.getElem?_map]
            rcases Nat.lt_or_ge i its.size with h | h
            · rw [List.getElem?_range h, List.getElem?_eq_getElem (by rw [hk]; exact h)]
              simp [List.getD_eq_getElem?_getD, hk, h]
            · rw [List.getElem?_eq_none (by simpa using h), List.getElem?_eq_none (by rw [hk]; exact h)]; rfl
          rw [this]
        · have n1 : b ≠ s.heap.objs.size := Nat.ne_of_lt hb
          have n2 : b ≠ (s.heap.push (freshSet w)).objs.size := by
            rw [Heap.size_push]; exact Nat.ne_of_lt (Nat.lt_succ_of_lt hb)
          refine mv.heap b o ?_ (Heap.get?_push_of_some _ (Heap.get?_push_of_some _ e))
          simp only [List.mem_cons, List.not_mem_nil, or_false, not_or]
          exact ⟨n1, n2⟩
      · cases r2 with
        | error e => exact hr2
        | ok fl2 =>
          cases fl2 with
          | ret r =>
            obtain ⟨rfl, h', tk, m, rfl, hm, T, kp⟩ := hr2
            repeat (any_goals (first | assumption | wp_step))
            exact hQ _ _ m hm T kp
          | _ => exact hr2.elim
    | _ => exact hr.elim
theorem set_of_tuple {l : Addr} {its : Array Value} (ks : List K) (np : Bool) {Q : Value → Shared → Prop} (hh : A.handled = none) (hl : s.heap.IsTuple l its) (hk : ks.length = its.size)
    (hv : ∀ (i : Nat) k v, ks[i]? = some k → its[i]? = some v → kd.is k v = true ∧ v.scannable = true ∧ (np = true → plainKind v = false)) (hb : its.size + 1 < scanBound)
    (hQ : ∀ (h' : Heap) (tk m : Nat), m ≤ its.size → SetTb kd h' s.heap.objs.size (fun k => decide (k ∈ ks)) m (!byText w) np →
      (∀ b o, b < s.heap.objs.size → s.heap.get? b = some o → h'.get? b = some o) → Q (.ref s.heap.objs.size) { s with heap := h', toks := tk }) :
    wpAny (model prog w) A (call (.type "set") [.ref l]) Q E s := by
  obtain ⟨c, tl, mro⟩ := PySem.F.called_set.mro
  have made := PySem.F.called_set.made
  have sub0 := PySem.F.called_set.sub
  refine wpAny_call (codeAny_of_tree ?_)
  show wpAny _ _ (callAny (.type "set") _) _ _ _
  refine wpAny_pure ⟨Code.quiet_builtin _ (by decide +kernel), codeAny_builtin PySem.F.entry_type_call ?_⟩
  rw [Around.under_plain (weight_type_call_type "set" [.ref l] []) rfl]
  have f1 := PySem.F.called_set.notType
  have f2 := PySem.F.called_set.canCreate
  have f3 := PySem.F.typeCall_set_1 (.ref l)
  repeat (any_goals (first | assumption | wp_step))
  refine codeAny_mono (set_new (.ref l) (E := E) (Q := fun v s1 => v = .ref s.heap.objs.size ∧ s1 = { s with heap := s.heap.push (freshSet w) }) ⟨rfl, rfl⟩) fun r s1 hr => ?_
  cases r with
  | error e => exact hr
  | ok fl =>
    cases fl with
    | ret v =>
      obtain ⟨rfl, rfl⟩ := hr
      have gS : (s.heap.push (freshSet w)).get? s.heap.objs.size = some (freshSet w) := Heap.get?_push_size _ rfl
      have tS : Shared.TypeIs { s with heap := s.heap.push (freshSet w) } (.ref s.heap.objs.size) "set" := ⟨_, gS, rfl⟩
      have li := PySem.F.called_set.init.lookup
      have bi := PySem.F.called_set.init.bind (.ref s.heap.objs.size)
      repeat (any_goals (first | assumption | wp_step))
      refine codeAny_mono (codeAny_call_builtin (R := wants (fun r s2 => r = .none ∧ ∃ h' tk m, s2 = { s with heap := h', toks := tk } ∧ m ≤ its.size ∧
          SetTb kd h' s.heap.objs.size (fun k => decide (k ∈ ks)) m (!byText w) np ∧ (∀ b o, b < s.heap.objs.size → s.heap.get? b = some o → h'.get? b = some o)) E)
          PySem.F.called_set.init.plain PySem.F.entry_set_init (check_set_init_1 tS ?_)) fun r2 s2 hr2 => ?_
      · obtain ⟨ol, gl, hcl, nl, hdl⟩ := hl
        obtain ⟨ocls, odict, odata, oslots⟩ := ol
        simp only at hcl hdl
        subst hcl; subst hdl
        have gl2 : (s.heap.push (freshSet w)).get? l = some { cls := .type "tuple", dict := odict, data := .seq its nl, slots := oslots } := Heap.get?_push_of_some _ gl
        have u1 := PySem.F.sub_tuple_set
        have u2 := PySem.F.sub_tuple_frozenset
        have u3 : (Value.type "tuple" == Value.type "dict") = false := by decide
        have hl1 : (s.heap.push (freshSet w)).IsTuple l its := ⟨_, gl2, rfl, nl, rfl⟩
        unfold Builtin.«set.__init__» noKeywords Builtin.Frozenset.updateFrom
        generalize hPI : pyIter = PI
        wp_walk
        subst hPI
        refine wpAny_pyIter_tuple hl1 ?_
        refine wpAny_bind (wpAny_runValue ?_)
        have lt : l < s.heap.objs.size := Heap.lt_size gl
        have hh3 : A.in1.in1.in1.handled = none := by simp [hh]
        have ne : l ≠ (s.heap.push (freshSet w)).objs.size := by
          rw [Heap.size_push]; exact Nat.ne_of_lt (Nat.lt_succ_of_lt lt)
        have nf : s.heap.objs.size ∉ [(s.heap.push (freshSet w)).objs.size, l] := by
          rw [Heap.size_push]
          simp only [List.mem_cons, List.not_mem_nil, or_false, not_or]
          exact ⟨Nat.ne_of_lt (Nat.lt_succ_self _), Nat.ne_of_gt lt⟩
        have hval : ∀ (i : Nat) (v : Value), its[i]? = some v → kd.is (ks.getD i default) v = true ∧ v.scannable = true ∧ (np = true → plainKind v = false) := fun i v hi => by
          have hlt : i < ks.length := by rw [hk]; exact (Array.getElem?_eq_some_iff.mp hi).1
          refine hv i _ v ?_ hi
          rw [List.getD_eq_getElem?_getD, List.getElem?_eq_getElem hlt]; rfl
        refine set_loop ((Walks.tuple hh3 _ l ne its).toS) s.heap.objs.size nf (fun i => ks.getD i default) (!byText w) np hval hb (its.size - 0) 0 0 _ (by lia) (Nat.zero_le _) (Nat.le_refl _)
          ⟨⟨_, Heap.get?_push_size _ rfl, rfl, rfl⟩, (hl1.push _)⟩ (SetTb.congr (SetTb.fresh (x := 0) (y := 0) (Heap.get?_push_of_some _ gS)) (fun k => rfl) rfl) fun s' m mv hm T => ?_
        obtain ⟨h', g', d', tk', os'⟩ := s'
        have eg : g' = s.gens := mv.gens
        have ed : d' = s.drawn := mv.drawn
        have eo : os' = s.os := mv.os
        subst eg; subst ed; subst eo
        show wpAny _ _ _ _ _ _
        refine wpAny_pure ?_
        show wpAny _ _ (ret Value.none) _ _ _
        refine wpAny_pure ⟨rfl, h', tk', m, rfl, hm, T.congr (fun k => ?_) rfl, fun b o hb e => ?_⟩
        · unfold met
          rw [Bool.eq_iff_iff, decide_eq_true_eq, decide_eq_true_eq]
          have : (List.range its.size).map (fun i => ks.getD i default) = ks := by
            refine List.ext_getElem? fun i => ?_
            rw [List.getElem?_map]
            rcases Nat.lt_or_ge i its.size with h | h
            · rw [List.getElem?_range h, List.getElem?_eq_getElem (by rw [hk]; exact h)]
              simp [List.getD_eq_getElem?_getD, hk, h]
            · rw [List.getElem?_eq_none (by simpa using h), List.getElem?_eq_none (by rw [hk]; exact h)]; rfl
          rw [this]
        · have n1 : b ≠ s.heap.objs.size := Nat.ne_of_lt hb
          have n2 : b ≠ (s.heap.push (freshSet w)).objs.size := by
            rw [Heap.size_push]; exact Nat.ne_of_lt (Nat.lt_succ_of_lt hb)
          refine mv.heap b o ?_ (Heap.get?_push_of_some _ (Heap.get?_push_of_some _ e))
          simp only [List.mem_cons, List.not_mem_nil, or_false, not_or]
          exact ⟨n1, n2⟩
      · cases r2 with
        | error e => exact hr2
        | ok fl2 =>
          cases fl2 with
          | ret r =>
            obtain ⟨rfl, h', tk, m, rfl, hm, T, kp⟩ := hr2
            repeat (any_goals (first | assumption | wp_step))
            exact hQ _ _ m hm T kp
          | _ => exact hr2.elim
    | _ => exact hr.elim
end
end BgSet
end
section
namespace BgSet
open PySem PyProof.Rows
set_option maxRecDepth 100000
set_option maxHeartbeats 3200000
section
variable {prog : Program} {w : World} {A : Around} {E : Value → Shared → Prop} {s : Shared} {a : Addr} {es : Array (Int × Value)} {ep : Nat} {t : SetTable}
theorem set_hint {Q : Bool → Shared → Prop} (ht : s.TypeIs (.ref a) "set") (h : Q false s) : wpAny (model prog w) A (Builtin.List.listLengthHint (.ref a)) Q E s := by
  unfold Builtin.List.listLengthHint
  refine wpAny_bind (wpAny_specialOf ht PySem.F.slot_set_len.lookup ?_)
  generalize hid : ("set.__len__" : String) = nm
  wp_delta
  rw [show splitId nm = some ("set", "__len__") from by subst hid; decide +kernel]
  subst hid
  refine wpAny_bind (wpAny_isInstance (T := "set") (b := true) ht (by rw [isSubtype_type]; kernel_rfl) ?_)
  refine wpAny_ite_split (fun c => absurd c (by decide)) (fun _ => ?_)
  refine wpAny_ite_split (fun _ => ?_) (fun c => absurd (by decide +kernel) c)
  exact wpAny_bind (wpAny_typeOf ht (wpAny_pure h))
def Came (s : Shared) (S : Addr) (es : Array (Int × Value)) (s' : Shared) : Prop :=
  ∃ (h' : Heap) (d : Drawn) (tk : Nat) (L : List (Int × Value)) (c : Nat), s' = { s with heap := h', drawn := d, toks := tk } ∧ L.Perm es.toList ∧ (∀ b o, b ≠ S → s.heap.get? b = some o → h'.get? b = some o) ∧
    h'.get? S = some { cls := .type "list", dict := none, data := .seq (L.map (·.2)).toArray c, slots := #[] }
theorem items_along {L : List (Int × Value)} {acc : Array Value} (h : ItemsOf (fun i v => ∃ e, L[i]? = some e ∧ v = e.2) acc L.length) : acc = (L.map (·.2)).toArray := by
  apply Array.toList_inj.mp
  rw [List.toList_toArray]
  refine List.ext_getElem? fun i => ?_
  rw [Array.getElem?_toList, List.getElem?_map]
  rcases Nat.lt_or_ge i acc.size with hi | hi
  · obtain ⟨e, he, hv⟩ := h.2 i _ (Array.getElem?_eq_getElem hi)
    rw [Array.getElem?_eq_getElem hi, he, hv]; rfl
  · rw [Array.getElem?_eq_none hi, List.getElem?_eq_none (by rw [← h.1]; exact hi)]; rfl
theorem set_extend (hh : A.handled = none) (X : SetAt s.heap a es ep t) (hT : Tab (!byText w) t) (hz : es.size ≤ sizeLine) (S : Addr) (hne : S ≠ a) (res : Value) (c0 : Nat)
    (gS : s.heap.get? S = some { cls := .type "list", data := .seq #[] c0 }) {R : Result → Shared → Prop} (hR : ∀ s', Came s S es s' → R (.ok (.ret res)) s') :
    wpAny (model prog w) A.in1 (Builtin.List.listExtendWith (.ref S) (.ref a) res)
      (fun fin s' => match fin with | .done f => R (.ok f) s' | .again c' => c'.quiet = true ∧ codeAny (model prog w) A c' R s') (fun e s' => R (.error e) s') s := by
  have ltS := Heap.lt_size gS
  obtain ⟨o, ho, hc, hd⟩ := X.at_
  have lta := Heap.lt_size ho
  unfold Builtin.List.listExtendWith
  refine wpAny_bind (wpAny_typeOf (T := "set") ⟨o, ho, hc⟩ ?_)
  have h1 : Builtin.List.listSameRef (.ref S) (.ref a) = false := by simp [Builtin.List.listSameRef, hne]
  have h2 : (Value.type "set" == Value.type "list") = false := by decide
  have h3 : (Value.type "set" == Value.type "tuple") = false := by decide
  simp only [h1, h2, h3, Bool.or_false, Bool.false_eq_true, if_false]
  refine wpAny_bind (set_iter (A := A.in1) hh X hT hz fun I h' d fp L St hp kp hfp hI W st => ?_)
  have hSf : S ∉ fp := fun hm => (hfp S hm).elim hne fun e => absurd ltS (Nat.not_lt.mpr e)
  have hlen : L.length = es.size := by rw [hp.length_eq, Array.length_toList]
  have key : ∀ (h : Heap) (c1 : Nat), St 0 h → (∀ b o, b ≠ S → s.heap.get? b = some o → h.get? b = some o) →
      h.get? S = some { cls := .type "list", data := .seq #[] c1 } → codeAny (model prog w) A (.builtin "list.extend.loop" ⟨[.ref S, .ref I, res], []⟩) R { s with heap := h, drawn := d } := by
    intro h c1 st1 k1 g1
    refine codeAny_extend_loopS W.toS hz S hSf res es.size 0 _ #[] c1 rfl (Nat.zero_le _) st1 g1 (ItemsOf.nil _) fun s' acc' c' mv g' hacc => ?_
    refine hR s' ⟨s'.heap, d, s'.toks, L, c', by rw [Moved.eq_with mv], hp, fun b o hb e => mv.heap b o (fun hm => ?_) (k1 b o hb e), ?_⟩
    · rcases List.mem_cons.mp hm with e' | hm
      · exact hb e'
      · have := Heap.lt_size e; rw [List.mem_singleton.mp hm] at this; exact absurd this (Nat.not_lt.mpr hI)
    · rw [← items_along (by rw [hlen]; exact hacc)]; exact g'
  have gS' := kp S _ gS
  refine wpAny_bind (wpAny_holding (set_hint ⟨o, kp a o ho, hc⟩ ?_))
  refine wpAny_ite_split (fun _ => ?_) (fun _ => wpAny_pure ⟨plainId_quiet PySem.F.plain_extend_loop _, key _ c0 st (fun b o _ e => kp b o e) gS'⟩)
  refine wpAny_bind (wpAny_rule ?_)
  refine wpAny_bind ?_
  show wpAny _ _ (updateSeq S (·.push .none) >>= fun _ => updateSeq S (·.pop)) _ _ _
  refine wpAny_bind (wpAny_updateSeq gS' rfl ?_)
  have g2 := Heap.get?_update_self (Obj.mapSeq (·.push Value.none)) gS' rfl
  refine wpAny_updateSeq (hz := by seq_fits) g2 rfl ?_
  have g3 := Heap.get?_update_self (Obj.mapSeq (·.pop)) g2 rfl
  refine wpAny_pure ⟨plainId_quiet PySem.F.plain_extend_loop _, key _ _ (W.frame 0 _ _ st fun b hb o e => ?_) (fun b o hb e => ?_) g3⟩
  · have n : b ≠ S := fun h => hSf (h ▸ hb)
    exact (Heap.get?_update_other _ _ (Ne.symm n)).trans ((Heap.get?_update_other _ _ (Ne.symm n)).trans e)
  · exact (Heap.get?_update_other _ _ (Ne.symm hb)).trans ((Heap.get?_update_other _ _ (Ne.symm hb)).trans (kp b o e))
theorem set_collect (hh : A.handled = none) (X : SetAt s.heap a es ep t) (hT : Tab (!byText w) t) (hz : es.size ≤ sizeLine) {R : List Value → Shared → Prop}
    (hR : ∀ (h' : Heap) (d : Drawn) (tk : Nat) (L : List (Int × Value)), L.Perm es.toList → (∀ b o, s.heap.get? b = some o → h'.get? b = some o) → R (L.map (·.2)) { s with heap := h', drawn := d, toks := tk }) :
    wpAny (model prog w) A (collect (.ref a)) R E s := by
  obtain ⟨o, ho, hc, hd⟩ := X.at_
  have lta := Heap.lt_size ho
  unfold collect
  refine wpAny_bind (wpAny_runValue (codeAny_builtin entry_proto_collect' ?_))
  rw [Around.under_plainId PySem.F.plain_proto_collect _]
  show wpAny _ A.in1 (newList [] >>= fun l => again (.builtin "list.__iadd__" ⟨[l, .ref a], []⟩)) _ _ s
  refine wpAny_bind (wpAny_newObj_type ?_)
  refine wpAny_pure ⟨plainId_quiet PySem.F.plain_list_iadd _, codeAny_builtin entry_list_iadd' ?_⟩
  rw [Around.under_plainId PySem.F.plain_list_iadd _]
  show wpAny _ A.in1 (Builtin.List.listExtendWith (.ref s.heap.objs.size) (.ref a) (.ref s.heap.objs.size)) _ _ _
  have g1 : (s.heap.push { cls := .type "list", data := .seq ([] : List Value).toArray }).get? s.heap.objs.size = some { cls := .type "list", data := .seq #[] } := Heap.get?_push_size _ rfl
  have go := set_extend (prog := prog) (w := w) (A := A) (s := { s with heap := s.heap.push { cls := .type "list", data := .seq ([] : List Value).toArray } }) hh (X.keep fun o e => Heap.get?_push_of_some _ e) hT hz s.heap.objs.size
    (Nat.ne_of_gt lta) (.ref s.heap.objs.size) 0 g1 (R := fun q s' => q = .ok (.ret (.ref s.heap.objs.size)) ∧ ∃ (h' : Heap) (d : Drawn) (tk : Nat) (L : List (Int × Value)) (c : Nat),
      s' = { s with heap := h', drawn := d, toks := tk } ∧ L.Perm es.toList ∧ (∀ b o, s.heap.get? b = some o → h'.get? b = some o) ∧
      h'.get? s.heap.objs.size = some { cls := .type "list", dict := none, data := .seq (L.map (·.2)).toArray c, slots := #[] }) (fun s' ⟨h', d, tk, L, c, e, hp, kp, g⟩ =>
        ⟨rfl, h', d, tk, L, c, e, hp, fun b o e => kp b o (Nat.ne_of_lt (Heap.lt_size e)) (Heap.get?_push_of_some _ e), g⟩)
  refine wpAny_mono go (fun fin s' x => ?_) fun e s' x => ?_
  · cases fin with
    | done f =>
      obtain ⟨e, h', d, tk, L, c, rfl, hp, kp, g⟩ := x
      cases e
      show wpAny _ A (load s.heap.objs.size >>= _) _ _ _
      refine wpAny_bind (wpAny_load g ?_)
      refine wpAny_pure ?_
      have := hR h' d tk L hp kp
      simpa using this
    | again c1 =>
      refine ⟨x.1, codeAny_mono x.2 fun q s2 y => ?_⟩
      obtain ⟨rfl, h', d, tk, L, c, rfl, hp, kp, g⟩ := y
      show wpAny _ A (load s.heap.objs.size >>= _) _ _ _
      refine wpAny_bind (wpAny_load g ?_)
      refine wpAny_pure ?_
      have := hR h' d tk L hp kp
      simpa using this
  · cases x.1
end
end BgSet
end
section
set_option Elab.async false
set_option linter.all false
set_option maxRecDepth 100000
set_option maxHeartbeats 4000000
namespace Bg
open PySem L2
abbrev abc : Str := "abcdefghijklmnopqrstuvwxyz"
theorem abc_len : abc.length ≤ sizeLine := by decide +kernel
def one (c : Nat) : Str := ⟨#[c]⟩
theorem codes_join0 : ∀ cs : List Nat, (Txt.join "" (cs.map one)).cps.toList = cs
  | [] => by decide +kernel
  | c :: r => by
    unfold Txt.join
    rw [StrLaws.glued_eq_join]
    induction r generalizing c with
    | nil => rfl
    | cons d r ih =>
      show (one c ++ ("" : Str) ++ Str.join "" ((d :: r).map one)).cps.toList = _
      have e : (one c ++ ("" : Str) ++ Str.join "" ((d :: r).map one)).cps.toList = (one c).cps.toList ++ ("" : Str).cps.toList ++ (Str.join "" ((d :: r).map one)).cps.toList := by
        show ((one c).cps ++ ("" : Str).cps ++ (Str.join "" ((d :: r).map one)).cps).toList = _
        rw [Array.toList_append, Array.toList_append]
      rw [e, ih d]
      rfl
theorem len_codes (y : Str) : y.length = y.cps.toList.length := by
  show y.cps.size = _
  rw [Array.length_toList]
theorem abc_code : ∀ j : Nat, j < 26 → abc.cps.toList[j]? = some (97 + j) := by decide +kernel
theorem resv_len : ∀ y ∈ resv, y.length ≤ 4 := by decide +kernel
theorem resv_last : ∀ y ∈ resv, y.cps.toList.getLast? ≠ some 120 := by decide +kernel
theorem codes_x (y : Str) : (y ++ "x").cps.toList = y.cps.toList ++ [120] := by
  show (y.cps ++ ("x" : Str).cps).toList = _
  rw [Array.toList_append]
  rfl
theorem nm_plain {y : Str} {cs : List Nat} (h : y.cps.toList = cs) (l1 : 1 ≤ cs.length) (l8 : cs.length ≤ 8) (a : ∀ c ∈ cs, 97 ≤ c ∧ c ≤ 122) (n : y ∉ resv) : Nm y :=
  ⟨by rw [len_codes, h]; exact l1, by rw [len_codes, h]; exact l8, by rw [h]; exact a, n⟩
theorem nm_x {y : Str} {cs : List Nat} (h : y.cps.toList = cs) (l8 : cs.length ≤ 7) (a : ∀ c ∈ cs, 97 ≤ c ∧ c ≤ 122) : Nm (y ++ "x") := by
  have e := codes_x y
  rw [h] at e
  refine ⟨by rw [len_codes, e, List.length_append]; simp, by rw [len_codes, e, List.length_append]; simp; lia, fun c hc => ?_, fun hm => ?_⟩
  · rw [e] at hc
    rcases List.mem_append.mp hc with z | z
    · exact a c z
    · rw [List.mem_singleton.mp z]; decide
  · have := resv_last _ hm
    rw [e, List.getLast?_append] at this
    exact this rfl
def NmP (st b l : Addr) (n sz at' : Nat) (f : Int) (H4 : Hp) (i : Nat) : St → Hp → Prop := fun σ' H' => ∃ (ys : List Str) (o1 o2 o3 : Option V), σ' = [some (.ref st), some (.int (n : Nat)), some (.str abc), some (.int (sz : Nat)), some (.int (at' : Nat)), some (.int f), some (.ref b), some (.ref l), o1, o2, o3] ∧ H' l = some (.lst (ys.map V.str)) ∧ ys.length = i ∧ (∀ y ∈ ys, Nm y) ∧ (∀ (j : Nat) y, ys[j]? = some y → y.cps.toList[at']? = some (97 + ((f + 5 * (j : Int)) % 26).toNat)) ∧ But l (upd H4 l (.lst [])) H'
theorem r_names {K : PySem.W.Frag} {vs : List V} {H : Hp} {Q : VK} {E : XK} (h : sp_names K vs H Q E) : t_names K { nx := fun _ H' => Q .non H', rt := Q } (start N_names vs) H := by
  obtain ⟨st, n, k, rfl, S, hk, hn, q⟩ := h
  refine ⟨_, rfl, st, 8, k, rfl, S, by lia, by decide, by decide, fun d H1 d0 d1 S1 B1 => .inl ⟨_, _, rfl, rfl, ?_⟩⟩
  obtain ⟨sz, hsz, z1, z8⟩ : ∃ sz : Nat, (1 : Int) + d = (sz : Int) ∧ 1 ≤ sz ∧ sz ≤ 8 := ⟨(1 + d).toNat, by lia, by lia, by lia⟩
  show t_names_10 K _ [some (.ref st), some (.int (n : Nat)), some (.str abc), some (.int ((1 : Int) + d)), none, none, none, none, none, none, none] H1
  rw [hsz]
  refine ⟨_, rfl, _, rfl, st, _, k + 1, rfl, S1, by lia, by lia, by lia, fun a H2 a0 a1 S2 B2' => ?_⟩
  obtain ⟨at', rfl⟩ : ∃ j : Nat, a = (j : Int) := ⟨a.toNat, by lia⟩
  have B2 := B1.trans B2'
  refine ⟨_, rfl, st, 26, k + 2, rfl, S2, by lia, by decide, by decide, fun f H3 f0 f1 S3 B3' => ?_⟩
  have B3 := B2.trans B3'
  refine ⟨_, rfl, _, rfl, by lia, by lia, fun b hb => ?_⟩
  obtain ⟨ys3, hs3⟩ := S3.lst
  have nb : b ≠ st := fun z => by rw [z, hs3] at hb; cases hb
  refine comp_range (fun i σ' H' => ∃ (bc : List Nat) (kk : Nat) (o : Option V), σ' = [some (.ref st), some (.int (n : Nat)), some (.str abc), some (.int (sz : Nat)), some (.int (at' : Nat)), some (.int f), none, none, none, none, none, o] ∧
    H' b = some (.lst ((bc.map one).map V.str)) ∧ bc.length = i ∧ (∀ c ∈ bc, 97 ≤ c ∧ c ≤ 122) ∧ Stt K H' st kk ∧ kk ≤ k + 3 + i ∧ But st H H') ?_ ?_ ?_
  · exact ⟨[], k + 3, none, rfl, upd_same, rfl, by simp, S3.new hb, by lia, B3.new hb⟩
  · rintro i σ' H' hi ⟨bs, kk, o, rfl, hbl, hlen, hone, S4, hkk, B4⟩
    have hi : i < sz := by simpa using hi
    refine app_yes ?_
    refine ⟨_, rfl, _, rfl, _, rfl, .inl ⟨_, _, rfl, rfl, .inl ⟨by decide, by decide⟩, _, rfl, st, 4, kk, rfl, S4, by lia, by decide, by decide, fun e H5 e0 e1 S5 B5 => .inl ⟨_, _, rfl, rfl, .inr ⟨by lia, by lia⟩, .inl ⟨_, _, rfl, rfl, _, _, rfl, rfl, (by show (0 : Int) < 26; decide), ?_⟩⟩⟩⟩
    have x0 : 0 ≤ (f + 7 * (0 + (i : Int)) * e) % 26 := Int.emod_nonneg _ (by decide)
    have x1 : (f + 7 * (0 + (i : Int)) * e) % 26 < 26 := Int.emod_lt_of_pos _ (by decide)
    refine ixS abc_len x0 (abc_code _ (by lia)) ?_
    have x2 : ((f + 7 * (0 + (i : Int)) * e) % 26).toNat < 26 := by lia
    generalize ((f + 7 * (0 + (i : Int)) * e) % 26).toNat = x at x2
    have h5 := B5 b _ nb hbl
    refine ⟨_, h5, smallL (by rw [List.length_map, List.length_map]; lia), bs ++ [97 + x], kk + 1, _, rfl, ?_, by simp [hlen], ?_, ?_, by lia, ?_⟩
    · rw [upd_same, List.map_append, List.map_append]; rfl
    · intro y hy
      rcases List.mem_append.mp hy with z | z
      · exact hone y z
      · rw [List.mem_singleton.mp z]; lia
    · exact S5.mono .upd_at h5 (Ne.symm nb)
    · exact fun c' u n' h' => by
        have w := (B4.trans B5) c' u n' h'
        have ncb : c' ≠ b := fun z => by
          have : H c' = none := (B3.free (fun z' => n' z') (by rw [z]; exact hb))
          rw [this] at h'; cases h'
        rw [upd_ne ncb]; exact w
  · rintro σ' H4 ⟨bs, kk, o, rfl, hbl, hlen, hone, S4, hkk, B4⟩
    have hlen : bs.length = sz := by simpa using hlen
    have hkk : kk ≤ k + 3 + sz := by simpa using hkk
    refine ⟨(by show 0 ≤ sizeLine; decide), fun l hl => ?_⟩
    have nlb : b ≠ l := ne_of_none hbl hl
    obtain ⟨ys4, hs4⟩ := S4.lst
    have nls : st ≠ l := ne_of_none hs4 hl
    have Hl : H l = none := B4.free (Ne.symm nls) hl
    show t_names_6 K _ [some (.ref st), some (.int (n : Nat)), some (.str abc), some (.int (sz : Nat)), some (.int (at' : Nat)), some (.int f), some (.ref b), some (.ref l), none, none, none] (upd H4 l (.lst []))
    refine ⟨_, rfl, _, rfl, by lia, by lia, for_range (NmP st b l n sz at' f H4) ⟨[], none, none, none, rfl, upd_same, rfl, by simp, by simp, .refl _ _⟩ ?_ ?_⟩
    · rintro i σ' H5 hi ⟨ys, o1, o2, o3, rfl, hyl, ylen, yok, ycd, B5⟩
      have hi : i < n := by simpa using hi
      have hb5 : H5 b = some (.lst ((bs.map one).map V.str)) := B5 b _ nlb (by rw [upd_ne nlb]; exact hbl)
      refine ⟨_, rfl, _, rfl, _, rfl, .inl ⟨b, _, rfl, SqL.of hb5, fun p1 hp1 => ?_⟩⟩
      rw [cut_take, ← List.map_take, ← List.map_take]
      have np1b : b ≠ p1 := ne_of_none hb5 hp1
      have np1l : l ≠ p1 := ne_of_none hyl hp1
      refine ⟨_, rfl, _, rfl, _, rfl, .inl ⟨_, _, rfl, rfl, .inl ⟨by decide, by decide⟩, .inl ⟨_, _, rfl, rfl, _, _, rfl, rfl, (by show (0 : Int) < 26; decide), ?_⟩⟩⟩
      have e00 : (0 : Int) + (i : Int) = (i : Int) := by lia
      rw [e00]
      have x0 : 0 ≤ (f + 5 * (i : Int)) % 26 := Int.emod_nonneg _ (by decide)
      have x1 : (f + 5 * (i : Int)) % 26 < 26 := Int.emod_lt_of_pos _ (by decide)
      obtain ⟨c, hc⟩ : ∃ c, c = 97 + ((f + 5 * (i : Int)) % 26).toNat := ⟨_, rfl⟩
      refine ixS abc_len x0 (by rw [abc_code _ (by lia), ← hc]) ⟨(by show 1 ≤ sizeLine; decide), fun p2 hp2 => ?_⟩
      have np12 : p1 ≠ p2 := ne_of_none upd_same hp2
      have np2b : b ≠ p2 := ne_of_none (by rw [upd_ne np1b]; exact hb5) hp2
      have np2l : l ≠ p2 := ne_of_none (by rw [upd_ne np1l]; exact hyl) hp2
      refine .inr (.inr (.inl ⟨p1, p2, _, _, rfl, rfl, by rw [upd_ne np12, upd_same], upd_same, ?_, fun p3 hp3 => ?_⟩))
      · have := smallL (n := 9) (by decide)
        rw [List.length_map, List.length_map, List.length_take]
        show min at' bs.length + 1 ≤ sizeLine
        lia
      have np13 : p1 ≠ p3 := ne_of_none (by rw [upd_ne np12]; exact upd_same) hp3
      have np3b : b ≠ p3 := ne_of_none (by rw [upd_ne np2b, upd_ne np1b]; exact hb5) hp3
      have np3l : l ≠ p3 := ne_of_none (by rw [upd_ne np2l, upd_ne np1l]; exact hyl) hp3
      refine ⟨_, rfl, _, rfl, .inl ⟨_, _, rfl, rfl, _, rfl, .inl ⟨b, _, rfl, SqL.of (by rw [upd_ne np3b, upd_ne np2b, upd_ne np1b]; exact hb5), fun p4 hp4 => ?_⟩⟩⟩
      rw [show ((at' : Int) + 1) = ((at' + 1 : Nat) : Int) by lia, cut_drop, ← List.map_drop, ← List.map_drop]
      have np34 : p3 ≠ p4 := ne_of_none upd_same hp4
      have np4l : l ≠ p4 := ne_of_none (by rw [upd_ne np3l, upd_ne np2l, upd_ne np1l]; exact hyl) hp4
      refine .inr (.inr (.inl ⟨p3, p4, _, _, rfl, rfl, by rw [upd_ne np34, upd_same], upd_same, ?_, fun p5 hp5 => ?_⟩))
      · have := smallL (n := 100) (by decide)
        rw [List.length_append, List.length_map, List.length_map, List.length_map, List.length_map, List.length_take, List.length_drop]
        show min at' bs.length + 1 + (bs.length - (at' + 1)) ≤ sizeLine
        lia
      have np5l : l ≠ p5 := ne_of_none (by rw [upd_ne np4l, upd_ne np3l, upd_ne np2l, upd_ne np1l]; exact hyl) hp5
      have ew : ((bs.take at').map one).map V.str ++ [V.str ⟨#[c]⟩] ++ ((bs.drop (at' + 1)).map one).map V.str = ((bs.take at' ++ [c] ++ bs.drop (at' + 1)).map one).map V.str := by rw [List.map_append, List.map_append, List.map_append, List.map_append]; rfl
      rw [ew]
      have wl : (bs.take at' ++ [c] ++ bs.drop (at' + 1)).length = sz := by rw [List.length_append, List.length_append, List.length_take, List.length_drop, List.length_singleton]; lia
      have wone : ∀ y ∈ bs.take at' ++ [c] ++ bs.drop (at' + 1), 97 ≤ y ∧ y ≤ 122 := fun y hy => by
        rcases List.mem_append.mp hy with z | z
        · rcases List.mem_append.mp z with z | z
          · exact hone y (List.mem_of_mem_take z)
          · rw [List.mem_singleton.mp z]; lia
        · exact hone y (List.mem_of_mem_drop z)
      have wat : (bs.take at' ++ [c] ++ bs.drop (at' + 1))[at']? = some c := by
        have tl : (bs.take at').length = at' := by rw [List.length_take]; lia
        rw [List.append_assoc, List.getElem?_append_right (by lia), tl, Nat.sub_self]
        rfl
      generalize bs.take at' ++ [c] ++ bs.drop (at' + 1) = w at wl wone wat ⊢
      have B6 := ((((B5.new (o := .lst (((bs.take at').map one).map V.str)) hp1).new (o := .lst [V.str ⟨#[c]⟩]) hp2).new (o := .lst (((bs.take at').map one).map V.str ++ [V.str ⟨#[c]⟩])) hp3).new (o := .lst (((bs.drop (at' + 1)).map one).map V.str)) hp4).new (o := .lst ((w.map one).map V.str)) hp5
      have h6 : (upd (upd (upd (upd (upd H5 p1 (.lst (((bs.take at').map one).map V.str))) p2 (.lst [V.str ⟨#[c]⟩])) p3 (.lst (((bs.take at').map one).map V.str ++ [V.str ⟨#[c]⟩]))) p4 (.lst (((bs.drop (at' + 1)).map one).map V.str))) p5 (.lst ((w.map one).map V.str))) l = some (.lst (ys.map V.str)) := by
        rw [upd_ne np5l, upd_ne np4l, upd_ne np3l, upd_ne np2l, upd_ne np1l]; exact hyl
      have g6 : (upd (upd (upd (upd (upd H5 p1 (.lst (((bs.take at').map one).map V.str))) p2 (.lst [V.str ⟨#[c]⟩])) p3 (.lst (((bs.take at').map one).map V.str ++ [V.str ⟨#[c]⟩]))) p4 (.lst (((bs.drop (at' + 1)).map one).map V.str))) p5 (.lst ((w.map one).map V.str))) p5 = some (.lst ((w.map one).map V.str)) := upd_same
      generalize (upd (upd (upd (upd (upd H5 p1 (.lst (((bs.take at').map one).map V.str))) p2 (.lst [V.str ⟨#[c]⟩])) p3 (.lst (((bs.take at').map one).map V.str ++ [V.str ⟨#[c]⟩]))) p4 (.lst (((bs.drop (at' + 1)).map one).map V.str))) p5 (.lst ((w.map one).map V.str))) = H6 at B6 h6 g6 ⊢
      have wsum : ((w.map one).map (·.length)).sum = w.length := by
        rw [List.map_map, show ((fun x : Str => x.length) ∘ one) = fun _ => 1 from rfl, List.map_const', List.sum_replicate_nat, Nat.mul_one]
      refine ⟨rfl, _, rfl, "", p5, w.map one, rfl, rfl, SqL.of g6, ?_, ?_⟩
      · have e : ("" : Str).length = 0 := by decide +kernel
        rw [wsum, e, Nat.mul_zero]; lia
      have jl := codes_join0 w
      generalize Txt.join "" (w.map one) = nmw at jl ⊢
      show t_names_3 K _ [some (.ref st), some (.int (n : Nat)), some (.str abc), some (.int (sz : Nat)), some (.int (at' : Nat)), some (.int f), some (.ref b), some (.ref l), some (.int (i : Int)), some (.ref p5), some (.str nmw)] H6
      have nl : nmw.length = sz := by rw [len_codes, jl, wl]
      have app : ∀ (nw : Str) (H7 : Hp), Nm nw → nw.cps.toList[at']? = some c → But l (upd H4 l (.lst [])) H7 → H7 l = some (.lst (ys.map V.str)) → t_names_2 K { nx := NmP st b l n sz at' f H4 (i + 1), rt := Q, ct := NmP st b l n sz at' f H4 (i + 1), bk := t_names_1 K { nx := fun _ H' => Q .non H', rt := Q } } [some (.ref st), some (.int (n : Nat)), some (.str abc), some (.int (sz : Nat)), some (.int (at' : Nat)), some (.int f), some (.ref b), some (.ref l), some (.int (i : Int)), some (.ref p5), some (.str nw)] H7 := fun nw H7 w1 w2 B7 h7 => by
        refine ⟨_, rfl, .inl ⟨rfl, _, SqL.of h7⟩, _, rfl, l, _, _, rfl, rfl, h7, smallL (by rw [List.length_map]; lia), ?_⟩
        refine ⟨ys ++ [nw], _, _, _, rfl, ?_, by simp [ylen], ?_, ?_, B7.trans .upd_at⟩
        · rw [upd_same, List.map_append]; rfl
        · intro y hy
          rcases List.mem_append.mp hy with z | z
          · exact yok y z
          · rw [List.mem_singleton.mp z]; exact w1
        · intro j y hy
          by_cases cj : j < ys.length
          · rw [List.getElem?_append_left cj] at hy; exact ycd j y hy
          · have cj2 : j = i := by
              have := (List.getElem?_eq_some_iff.mp hy).1
              rw [List.length_append, List.length_singleton] at this
              lia
            subst cj2
            rw [List.getElem?_append_right (by lia), ylen, Nat.sub_self] at hy
            cases hy
            rw [← hc]; exact w2
      refine ⟨_, rfl, (by show 6 ≤ sizeLine; decide), fun t ht => ⟨t, _, rfl, .inr (SqT.of upd_same), rfl, rfl, _, rfl, ?_⟩⟩
      have ntl : l ≠ t := ne_of_none h6 ht
      have B7 := B6.new (o := .tup [V.str "part", V.str "call", V.str "say", V.str "jump", V.str "test", V.str "give"]) ht
      have h7 : (upd H6 t (.tup [V.str "part", V.str "call", V.str "say", V.str "jump", V.str "test", V.str "give"])) l = some (.lst (ys.map V.str)) := by rw [upd_ne ntl]; exact h6
      have xl : ("x" : Str).length = 1 := by decide +kernel
      have xat : (nmw ++ "x").cps.toList[at']? = some c := by
        rw [codes_x, jl, List.getElem?_append_left (by rw [wl]; lia)]; exact wat
      show if inV (.str nmw) (resv.map V.str) = true then _ else _
      rw [inV_strs]
      refine if_dec (fun hin => ?_) (fun hin => ?_)
      · refine ⟨_, rfl, .inr (.inl ⟨_, _, rfl, rfl, by rw [xl]; have := smallL (n := 100) (by decide); lia, ?_⟩)⟩
        have z4 := resv_len _ hin
        exact app _ _ (nm_x jl (by rw [wl]; lia) wone) xat B7 h7
      · refine ⟨_, rfl, _, _, rfl, rfl, _, rfl, if_dec (fun h8 => ?_) (fun _ => ?_)⟩
        · refine ⟨_, rfl, _, rfl, .inl ⟨_, _, rfl, rfl, _, _, rfl, rfl, (by show (0 : Int) < 3; decide), .inl ⟨rfl, _, rfl, if_dec (fun _ => ?_) (fun _ => ?_)⟩⟩⟩
          · refine ⟨_, rfl, .inr (.inl ⟨_, _, rfl, rfl, by rw [xl]; have := smallL (n := 100) (by decide); lia, ?_⟩)⟩
            exact app _ _ (nm_x jl (by rw [wl]; lia) wone) xat B7 h7
          · exact app _ _ (nm_plain jl (by lia) (by lia) wone hin) (by rw [jl]; exact wat) B7 h7
        · exact iteF (app _ _ (nm_plain jl (by lia) (by lia) wone hin) (by rw [jl]; exact wat) B7 h7)
    · rintro σ' H5 ⟨ys, o1, o2, o3, rfl, hyl, ylen, yok, ycd, B5⟩
      have ylen : ys.length = n := by simpa using ylen
      have nd : ys.Nodup := by
        rw [List.Nodup, List.pairwise_iff_getElem]
        intro i j hi hj lt e
        have e1 := ycd i _ (List.getElem?_eq_getElem hi)
        have e2 := ycd j _ (List.getElem?_eq_getElem hj)
        rw [e, e2] at e1
        have e3 := Option.some.inj e1
        have a1 : 0 ≤ (f + 5 * (i : Int)) % 26 := Int.emod_nonneg _ (by decide)
        have a2 : 0 ≤ (f + 5 * (j : Int)) % 26 := Int.emod_nonneg _ (by decide)
        lia
      refine ⟨_, rfl, q l ys kk H5 Hl ylen nd yok hyl ((S4.new hl).mono B5 upd_same nls) (by lia) (B4.through hl B5)⟩
end Bg
end
section
set_option Elab.async false
set_option linter.all false
set_option maxRecDepth 100000
set_option maxHeartbeats 4000000
namespace Bg
open PySem L2
end Bg
end
section
set_option Elab.async false
set_option linter.all false
set_option maxRecDepth 100000
set_option maxHeartbeats 4000000
namespace Bg
open PySem L2
end Bg
end
section
set_option Elab.async false
set_option linter.all false
set_option maxRecDepth 100000
set_option maxHeartbeats 4000000
namespace Bg
open PySem L2
end Bg
end
section
set_option Elab.async false
set_option linter.all false
set_option maxRecDepth 100000
set_option maxHeartbeats 4000000
namespace Bg
open PySem L2
end Bg
end
section
set_option Elab.async false
set_option linter.all false
set_option maxRecDepth 100000
set_option maxHeartbeats 4000000
namespace Bg
open PySem L2
end Bg
end
section
set_option Elab.async false
set_option linter.all false
set_option maxRecDepth 100000
set_option maxHeartbeats 4000000
namespace Bg
open PySem L2
end Bg
end
section
set_option Elab.async false
set_option linter.all false
set_option maxRecDepth 100000
set_option maxHeartbeats 4000000
namespace Bg
open PySem L2
end Bg
end
section
set_option Elab.async false
set_option linter.all false
set_option maxRecDepth 100000
set_option maxHeartbeats 4000000
namespace L2
open PySem PySem.Spec PyProof.Rows
theorem len_in {α : Type} [DecidableEq α] {l : List α} : ∀ {zs : List α}, l.Nodup → (∀ y ∈ l, y ∈ zs) → l.length ≤ zs.length := by
  induction l with
  | nil => intro zs _ _; exact Nat.zero_le _
  | cons a r ih =>
    intro zs nd h
    obtain ⟨na, nr⟩ := List.nodup_cons.mp nd
    have ha : a ∈ zs := h a List.mem_cons_self
    have := ih (zs := zs.erase a) nr fun y hy => (List.mem_erase_of_ne (fun z => na (by rw [← z]; exact hy))).mpr (h y (List.mem_cons_of_mem _ hy))
    rw [List.length_erase_of_mem ha] at this
    have : 0 < zs.length := List.length_pos_of_mem ha
    simp only [List.length_cons]
    lia
section
variable {X : Cx}
theorem Inv.drawn {pins : List (Addr × Obj)} {σ : St} {H : Hp} {s : Shared} {d : Drawn} (I : Inv X pins σ H s) : Inv X pins σ H { s with drawn := d } :=
  ⟨I.ok, I.os, I.bare, I.base, I.loc, I.cell, I.free, I.freeC, I.pin, I.hok, I.len⟩
theorem sorted_setS {pins : List (Addr × Obj)} {s : Shared} {σ : St} {H : Hp} {a : Addr} {ss dd : List Str} {m : Nat} {Q : VK} (hc : X.calm = true) (I : Inv X pins σ H s)
    (T : BgSet.SetTb (PySem.strKind X.prog X.w) s.heap a (fun k => decide (k ∈ ss)) m (!BgSet.byText X.w) true) (hd : ∀ x ∈ ss, x ∈ dd) (h64 : dd.length < 64)
    (q : ∀ (l : Addr) (ss' : List Str), H l = none → ss'.Nodup → (∀ x, x ∈ ss' ↔ x ∈ ss) → sortedS ss' = true → Q (.ref l) (upd H l (.lst (ss'.map V.str)))) :
    wpAny (model X.prog X.w) X.A (call (.builtin "sorted") [.ref a]) (EP X pins σ Q) X.xe s := by
  obtain ⟨o, es, ep, t, ho, hex, hdt, hel, hmem, hb, hf, hn, htb, hoff, hap⟩ := T
  have hh : X.A.handled = none := I.ok.hd hc
  have hz : es.size ≤ sizeLine := fits_of_scanBound hb
  refine Calls.call_function_entry kind_sorted plain_sorted entry_sorted (args_sorted1 _) ?_
  unfold Builtin.«sorted»
  refine wpAny_bind (m := checkCount "sorted" 1 1 _) (wpAny_pure ?_)
  refine wpAny_bind (BgSet.set_collect (A := X.A.in1) hh ⟨⟨o, ho, hex.1, hdt⟩, hf⟩ htb hz fun h' d tk L hp hkp => ?_)
  have hall : ∀ e ∈ L, ∃ x t, e.2 = .str x t := fun e he => by
    obtain ⟨⟨k, hk, _⟩, _⟩ := hel e (hp.mem_iff.mp he)
    obtain ⟨t, ht⟩ := Value.isStrOf_shape hk
    exact ⟨k, t, ht⟩
  have hS : StrsAre (L.map (·.2)) ((L.map (·.2)).map strOf) := strsAre_map _ fun v hv => by
    obtain ⟨e, he, rfl⟩ := List.mem_map.mp hv
    exact hall e he
  generalize hss : (L.map (·.2)).map strOf = ss0 at hS
  have hmm : ∀ x, x ∈ ss0 ↔ x ∈ ss := fun x => by
    rw [← hss, List.map_map, List.mem_map]
    have := hmem x
    rw [decide_eq_true_eq] at this
    rw [this]
    constructor
    · rintro ⟨e, he, rfl⟩
      obtain ⟨y, t, hy⟩ := hall e he
      refine ⟨e, hp.mem_iff.mp he, ?_⟩
      show Value.isStrOf (strOf e.2) e.2 = true
      rw [hy]; simp [strOf, Value.isStrOf]
    · rintro ⟨e, he, hk⟩
      obtain ⟨t, ht⟩ := Value.isStrOf_shape hk
      exact ⟨e, hp.mem_iff.mpr he, by show strOf e.2 = x; rw [ht]; rfl⟩
  have hnd : ss0.Nodup := by
    rw [← hss, List.map_map]
    unfold List.Nodup
    rw [List.pairwise_map]
    refine List.Pairwise.imp_of_mem (fun {e e'} he he' r heq => ?_) (hap.perm hp)
    obtain ⟨y, t, hy⟩ := hall e he
    obtain ⟨y', t', hy'⟩ := hall e' he'
    have e1 : y = y' := by have : strOf e.2 = strOf e'.2 := heq; rw [hy, hy'] at this; exact this
    have h1 : Value.isStrOf y e.2 = true := by rw [hy]; simp [Value.isStrOf]
    have h2 : Value.isStrOf y e'.2 = false := r y h1
    rw [hy', e1] at h2; simp [Value.isStrOf] at h2
  have hlen0 : ss0.length < 64 := Nat.lt_of_le_of_lt (len_in hnd fun y hy => hd y ((hmm y).mp hy)) h64
  have hl : (L.map (·.2)).length = ss0.length := by rw [← hss, List.length_map, List.length_map, List.length_map]
  generalize L.map (·.2) = vs at hS hl ⊢
  have I0 : Inv X pins σ H { s with drawn := d } := I.drawn
  have I1 : Inv X pins σ H { s with heap := h', drawn := d, toks := tk } := I0.kept (s := { s with drawn := d }) hkp
  refine wpAny_bind (wpAny_newList ?_ (by rw [hl]; exact Nat.le_trans (Nat.le_of_lt hlen0) (by decide)))
  have hoL : (h'.push (seqObj "list" vs.toArray 0)).get? h'.objs.size = some (seqObj "list" vs.toArray 0) := Heap.get?_push_size _ rfl
  show wpAny _ _ _ _ _ { s with heap := h'.push (seqObj "list" vs.toArray 0), drawn := d, toks := tk }
  refine wpAny_bind (wpAny_holding (wpAny_call_entry slot_list_sort ⟨_, hoL, rfl⟩ entry_list_sort (list_sort_treeK strKind_oneLt hoL hS.keysOf (fun v₁ v₂ rest e => keyKind_strs (by rw [← e]; exact hS)) (by rw [hl]; exact hlen0) fun st' hp hs => ?_) (args_list_sort _)))
  obtain ⟨ss', a1, a2, a3⟩ := sorted_out_str hS hp hs
  refine ⟨_, rfl, ?_⟩
  refine wpAny_pure ⟨_, rfl, ?_⟩
  obtain ⟨e, he⟩ := sortedHeap_at (n := 0) (out := (arrOf st').map (·.2)) hoL
  have hn := vals_strs a1
  have hlen : ss'.length = ss0.length := a2.length_eq
  refine ⟨.ref h'.objs.size, _, I1.laid (t' := tk) (fun b u q1 => ?_) (Nat.le_refl _) (show ObjOk X.prog X.w _ _ _ (.lst (ss'.map V.str)) from ⟨?_, ((arrOf st').map (·.2)).toList, e, hn, ?_⟩), rfl,
    q _ _ (I1.hok.fresh (Nat.le_refl _)) (a2.nodup_iff.mpr hnd) (fun x => by rw [a2.mem_iff]; exact hmm x) a3⟩
  · have lt := Heap.lt_size q1
    rw [sortedHeap_old (Nat.ne_of_lt lt) (by rw [size_push']; exact Nat.lt_succ_of_lt lt)]
    exact Heap.get?_push_of_some _ q1
  · rw [List.length_map, hlen]; exact Nat.le_trans (Nat.le_of_lt hlen0) (by decide)
  · rw [Array.toArray_toList]; exact he
def tSortSetS (K : PySem.W.Frag) (t : TA) : TE := fun σ H Q => t σ H fun vs H1 => ∃ (p : Addr) (tp : Bool) (ss dd : List Str), vs = [.ref p] ∧ SqB K tp H1 p (ss.map V.str) ∧ ss.length ≤ 4000 ∧ (∀ x ∈ ss, x ∈ dd) ∧ dd.length < 64 ∧
  ∀ (l : Addr) (ss' : List Str), H1 l = none → ss'.Nodup → (∀ x, x ∈ ss' ↔ x ∈ ss) → sortedS ss' = true → Q (.ref l) (upd H1 l (.lst (ss'.map V.str)))
theorem pe_sortSetS {a : Expr} {ta : TA} {p1 p2 pos pos2 : Pos} (hg : Gl X "sorted") (hg2 : Gl X "set") (hm : X.mg "sorted" = none) (hm2 : X.mg "set" = none) (hc : X.calm = true) (ha : PA X [a] ta)
    (hs2 : starEach [a] X.env = [(false, eval a X.env)] := by rfl) (hs : starEach [.Call (.Name "set" p2) [a] [] pos2] X.env = [(false, eval (.Call (.Name "set" p2) [a] [] pos2) X.env)] := by rfl) :
    PE X (.Call (.Name "sorted" p1) [.Call (.Name "set" p2) [a] [] pos2] [] pos) (tSortSetS X.K ta) := by
  intro pins s σ H Q I h
  refine wpAny_Call_Name_kw (ld_blt I hg hm boot_sorted ?_)
  refine PyProof.Rows.callWith_builtin1 ?_ hs rfl
  rw [hs]
  show wpAny _ _ (spliced ((false, eval (.Call (.Name "set" p2) [a] [] pos2) X.env) :: backTo pos [])) _ _ s
  refine Calls.spliced_cons ?_
  refine wpAny_Call_Name_kw (ld_blt I hg2 hm2 (show bootBuiltins "set" = some (.type "set") by kernel_rfl) ?_)
  refine PyProof.Rows.callWith_type1 (thn (ha pos2 pins s σ H _ I h) fun us s1 ⟨vs, H1, I1, r1, q1⟩ => ?_) hs2 rfl
  obtain ⟨l, tp, ss, dd, rfl, hq, hlen, hdd, h64, q⟩ := q1
  obtain ⟨u, rfl, rx⟩ := vals1 r1
  cases rx
  obtain ⟨its, rv, at_⟩ := I1.seqB hq
  have rl := rv.length
  rw [List.length_map] at rl
  have hS := strs_are rv
  have hv : ∀ (i : Nat) k v, ss[i]? = some k → its.toArray[i]? = some v → (PySem.strKind X.prog X.w).is k v = true ∧ v.scannable = true ∧ (true = true → plainKind v = false) := fun i k v h1 h2 => by
    rw [List.getElem?_toArray] at h2
    have := hS.strs
    rw [← this, List.getElem?_map, h2] at h1
    obtain ⟨x, t, rfl⟩ := hS.all v (List.mem_of_getElem? h2)
    have e : x = k := by simpa [strOf] using h1
    subst e
    exact ⟨by show Value.isStrOf x (.str x t) = true; simp [Value.isStrOf], rfl, fun _ => rfl⟩
  have hb : its.toArray.size + 1 < scanBound := by rw [List.size_toArray, ← rl]; unfold scanBound; lia
  have go : ∀ (h' : Heap) (tk m : Nat), m ≤ its.toArray.size → BgSet.SetTb (PySem.strKind X.prog X.w) h' s1.heap.objs.size (fun k => decide (k ∈ ss)) m (!BgSet.byText X.w) true →
      (∀ b o, b < s1.heap.objs.size → s1.heap.get? b = some o → h'.get? b = some o) →
      wpAny (model X.prog X.w) X.A (spliced (backTo pos [])) (fun vs s' => wpAny (model X.prog X.w) X.A (call (.builtin "sorted") (.ref s1.heap.objs.size :: vs)) (EP X pins σ Q) X.xe s') X.xe { s1 with heap := h', toks := tk } := fun h' tk m hm T kp => by
    have I2 : Inv X pins σ H1 { s1 with heap := h', toks := tk } := I1.kept fun b u e => kp b u (Heap.lt_size e) e
    exact Calls.spliced_nil (sorted_setS hc I2 T hdd h64 q)
  cases tp with
  | true => exact BgSet.set_of_tuple (kd := PySem.strKind X.prog X.w) ss true (I1.ok.hd hc) at_ (by rw [List.size_toArray]; exact rl) hv hb go
  | false => exact BgSet.set_of_list (kd := PySem.strKind X.prog X.w) ss true (I1.ok.hd hc) at_ (by rw [List.size_toArray]; exact rl) hv hb go
theorem qe_sortSetS {a : Expr} {ta : TA} {p1 p2 pos pos2 : Pos} (hg : Gl X "sorted") (hg2 : Gl X "set") (hm : X.mg "sorted" = none) (hm2 : X.mg "set" = none) (hc : X.calm = true) (ha : QA X [a] ta)
    (hs2 : starEach [a] X.env = [(false, eval a X.env)] := by rfl) (hs : starEach [.Call (.Name "set" p2) [a] [] pos2] X.env = [(false, eval (.Call (.Name "set" p2) [a] [] pos2) X.env)] := by rfl) :
    QE X (.Call (.Name "sorted" p1) [.Call (.Name "set" p2) [a] [] pos2] [] pos) (tSortSetS X.K ta) := ⟨pe_sortSetS hg hg2 hm hm2 hc ha.up hs2 hs⟩
end
end L2
end
section
set_option Elab.async false
set_option linter.all false
set_option maxRecDepth 100000
namespace L2
open PySem PySem.Spec PyProof.Rows
section
variable {X : Cx}
end
end L2
end
section
set_option maxRecDepth 100000
namespace BgRev
open PySem
theorem rv_owner : Manifest.owners.lookup (String.ofList ['d', 'e', 's', 'r', 'e', 'v', 'e', 'r'].reverse) = some Manifest.sig_reversed := by kernel_rfl
theorem rv_next : Slot "reversed" "__next__" "reversed.__next__" :=
  .of (owner := "reversed") (n := "__next__") (by rw [typeLookup_type, builtinLookup_eq_fast]; kernel_rfl) (by decide +kernel) (by decide +kernel)
    (by decide +kernel) (by first | exact .inl (by decide +kernel) | exact .inr (by decide +kernel))
    (by rw [isSubtype_type]; kernel_rfl)
theorem rv_next_entry : entryFor table "reversed.__next__" = some Builtin.«reversed.__next__» := entryFor_of_tree (by kernel_rfl)
theorem rv_next_args (v : Value) : argsOk "reversed.__next__" ⟨[v], []⟩ := by
  unfold argsOk
  rw [signature?_of (id := "reversed.__next__") (n := ['_', '_', 't', 'x', 'e', 'n', '_', '_']) (o := ['d', 'e', 's', 'r', 'e', 'v', 'e', 'r']) (by kernel_rfl) rv_owner]
  kernel_rfl
theorem rv_iter : Slot "reversed" "__iter__" "reversed.__iter__" :=
  .of (owner := "reversed") (n := "__iter__") (by rw [typeLookup_type, builtinLookup_eq_fast]; kernel_rfl) (by decide +kernel) (by decide +kernel)
    (by decide +kernel) (by first | exact .inl (by decide +kernel) | exact .inr (by decide +kernel))
    (by rw [isSubtype_type]; kernel_rfl)
theorem rv_iter_entry : entryFor table "reversed.__iter__" = some Builtin.«dict_keyiterator.__iter__» :=
  entryFor_alias (id' := "dict_keyiterator.__iter__") (by kernel_rfl) rfl (by decide +kernel) (by kernel_rfl)
theorem rv_iter_args (v : Value) : argsOk "reversed.__iter__" ⟨[v], []⟩ := by
  unfold argsOk
  rw [signature?_of (id := "reversed.__iter__") (n := ['_', '_', 'r', 'e', 't', 'i', '_', '_']) (o := ['d', 'e', 's', 'r', 'e', 'v', 'e', 'r']) (by kernel_rfl) rv_owner]
  kernel_rfl
theorem rv_init : Slot "reversed" "__init__" "object.__init__" :=
  .of (owner := "object") (n := "__init__") (by rw [typeLookup_type, builtinLookup_eq_fast]; kernel_rfl) (by decide +kernel) (by decide +kernel)
    (by decide +kernel) (by first | exact .inl (by decide +kernel) | exact .inr (by decide +kernel))
    (by rw [isSubtype_type]; kernel_rfl)
theorem rv_called : TypeCalled "reversed" "reversed.__new__" "object.__init__" :=
  ⟨by decide +kernel, by decide +kernel, ⟨_, _, F.mro_reversed⟩, F.made_reversed, by decide +kernel, by rw [isSubtype_type]; kernel_rfl, rv_init⟩
theorem tup_rev : typeLookup (.type "tuple") "__reversed__" = pure none := by rw [typeLookup_type, builtinLookup_eq_fast]; kernel_rfl
end BgRev
end
section
set_option maxRecDepth 100000
set_option maxHeartbeats 1000000
namespace BgRev
open PySem PyProof.Rows
section
variable {prog : Program} {w : World} {A : Around} {E : Value → Shared → Prop} {s : Shared}
def rvObj (l : Addr) (i : Int) : Obj := { cls := .type "reversed", data := .fields #[.ref l, rawInt i] }
theorem new_rev {l : Addr} {its : Array Value} {Q : Value → Shared → Prop} (hl : IsTup s.heap l its) (hz : (its.size : Int) < 2 ^ 63)
    (h : Q (.ref s.heap.objs.size) { s with heap := s.heap.push (rvObj l ((its.size : Int) - 1)), toks := s.toks + 1 + 1 }) :
    codeAny (model prog w) A (.call (.builtin "reversed.__new__") ⟨[.type "reversed", .ref l], []⟩) (wants Q E) s := by
  refine codeAny_of_tree ?_
  show wpAny _ A.in1 (checkBuiltinCall "reversed.__new__" ⟨[.type "reversed", .ref l], []⟩ >>= fun _ => again (.builtin "reversed.__new__" ⟨[.type "reversed", .ref l], []⟩)) _ _ s
  refine wpAny_bind (wpAny_of_eq (F.newCall_reversed_1 _) (wpAny_pure ⟨plainId_quiet F.plain_reversed_new _, codeAny_builtin F.entry_reversed_new ?_⟩))
  rw [Around.under_plainId F.plain_reversed_new _]
  unfold Builtin.«reversed.__new__»
  refine wpAny_bind (wpAny_of_eq (newClass_reversed _) ?_)
  try dsimp only
  refine wpAny_bind (wpAny_of_eq (a := ()) (by first | rfl | kernel_rfl) ?_)
  refine wpAny_bind (wpAny_of_eq (a := ()) (by first | rfl | kernel_rfl) ?_)
  try dsimp only
  have ht : s.TypeIs (.ref l) "tuple" := hl.typeIs
  refine wpAny_bind (wpAny_specialOf ht tup_rev ?_)
  refine wpAny_bind ?_
  wp_delta
  refine wpAny_bind (wpAny_isInstance (T := "tuple") (b := false) ht F.sub_tuple_dict ?_)
  simp only [Bool.false_eq_true, if_false]
  refine wpAny_bind (wpAny_specialOf ht F.slot_tuple_getitem.lookup ?_)
  refine wpAny_ite_split (fun _ => ?_) (fun c => absurd (by decide +kernel) c)
  refine wpAny_pure ?_
  simp only [Bool.not_true, Bool.false_eq_true, if_false]
  refine wpAny_bind (len_tuple hl hz ?_)
  refine wpAny_bind (wpAny_of_eq (a := some (its.size : Int)) rfl ?_)
  dsimp only
  refine wpAny_bind ?_
  unfold Builtin.SmallTypes.newRecord
  exact wpAny_newObj_type (wpAny_pure h)
def RvAt (h : Heap) (it l : Addr) (i : Int) : Prop := h.get? it = some { cls := .type "reversed", dict := none, data := .fields #[.ref l, .int i 0], slots := #[] }
theorem RvAt.type {it l : Addr} {i : Int} (x : RvAt s.heap it l i) : s.TypeIs (.ref it) "reversed" := ⟨_, x, rfl⟩
theorem call_rev {l : Addr} {its : Array Value} {Q : Value → Shared → Prop} (hl : IsTup s.heap l its) (hz : (its.size : Int) < 2 ^ 63)
    (h : ∀ tk, Q (.ref s.heap.objs.size) { s with heap := s.heap.push (rvObj l ((its.size : Int) - 1)), toks := tk }) : wpAny (model prog w) A (call (.type "reversed") [.ref l]) Q E s := by
  refine callType_codes (Q₁ := fun v s1 => v = .ref s.heap.objs.size ∧ s1 = { s with heap := s.heap.push (rvObj l ((its.size : Int) - 1)), toks := s.toks + 1 + 1 }) rv_called (F.typeCall_reversed_1 _) F.entry_object_init
    (new_rev hl hz ⟨rfl, rfl⟩) ?_
  rintro obj s1 ⟨rfl, rfl⟩
  have ht : Shared.TypeIs { s with heap := s.heap.push (rvObj l ((its.size : Int) - 1)), toks := s.toks + 1 + 1 } (.ref s.heap.objs.size) "reversed" := ⟨_, Heap.get?_push_size _ rfl, rfl⟩
  exact ⟨ht, F.args_object_init_2 _ _, object_init_meets rv_called.init.lookup rv_called.made (by decide) prog w A.in1 _ _ ⟨ht, rfl, h _⟩⟩
theorem next_rev {it l : Addr} {i : Nat} {its : Array Value} {x : Value} {Q : Option Value → Shared → Prop} (hit : RvAt s.heap it l (i : Int)) (hl : IsTup s.heap l its)
    (hz : (its.size : Int) < 2 ^ 63) (hx : its[i]? = some x) (hQ : ∀ h' tk, RvAt h' it l ((i : Int) - 1) → Heap.SameBut it s.heap h' → Q (some x) { s with heap := h', toks := tk }) : wpAny (model prog w) A (pyNext (.ref it)) Q E s := by
  unfold pyNext
  refine wpAny_bind (wpAny_attempt (wpAny_callSpecial?_slot (name := Str.ofString "__next__") hit.type rv_next (wpAny_call_entry rv_next hit.type rv_next_entry ?_ (rv_next_args _))))
  unfold Builtin.«reversed.__next__»
  refine wpAny_bind (m := slotArgs _ _ _) (wpAny_pure ?_)
  refine wpAny_bind (wpAny_field hit rfl (x := .ref l) rfl ?_)
  refine wpAny_bind (wpAny_field hit rfl (x := .int (i : Int) 0) rfl ?_)
  dsimp only
  rw [if_neg (by omega)]
  have ht : s.TypeIs (.ref l) "tuple" := hl.typeIs
  refine wpAny_bind (wpAny_specialOf ht F.slot_tuple_getitem.lookup ?_)
  simp only [Option.isNone_some, Bool.false_eq_true, if_false]
  have hlt : i < its.size := (Array.getElem?_eq_some_iff.mp hx).1
  refine wpAny_bind (wpAny_mkInt ?_)
  refine wpAny_bind (wpAny_attempt (getItem_tuple (s := { s with toks := s.toks + 1 }) (j := i) hl (by omega) (by omega) (by unfold seqIndex?; rw [if_neg (show ¬ ((i : Int) < 0) by omega)]; simp; omega) hx ?_))
  dsimp only
  refine wpAny_bind (wpAny_field hit rfl (x := .int (i : Int) 0) rfl ?_)
  dsimp only
  refine wpAny_bind (wpAny_setField_rec (s := { s with toks := s.toks + 1 }) hit (by simp) fun h1 g1 sb1 => ?_)
  refine wpAny_pure ⟨_, rfl, wpAny_pure (hQ h1 _ ?_ sb1)⟩
  unfold RvAt
  rw [g1]
  simp [rawInt]
theorem stop_rev {it l : Addr} {Q : Option Value → Shared → Prop} (hh : A.handled = none) (hit : RvAt s.heap it l (-1)) (hQ : ∀ h', Heap.ExtBut it s.heap h' → Q none { s with heap := h' }) : wpAny (model prog w) A (pyNext (.ref it)) Q E s := by
  unfold pyNext
  refine wpAny_bind (wpAny_attempt (wpAny_callSpecial?_slot (name := Str.ofString "__next__") hit.type rv_next (wpAny_call_entry rv_next hit.type rv_next_entry ?_ (rv_next_args _))))
  unfold Builtin.«reversed.__next__»
  refine wpAny_bind (m := slotArgs _ _ _) (wpAny_pure ?_)
  refine wpAny_bind (wpAny_field hit rfl (x := .ref l) rfl ?_)
  refine wpAny_bind (wpAny_field hit rfl (x := .int (-1) 0) rfl ?_)
  dsimp only
  rw [if_pos (by decide)]
  refine wpAny_bind (wpAny_rule ?_)
  refine wpAny_bind ?_
  wp_delta
  refine wpAny_bind (wpAny_setField_rec hit (by simp) fun h1 g1 sb1 => ?_)
  refine wpAny_setField_rec g1 (by simp) fun h2 g2 sb2 => ?_
  refine wpAny_bind ?_
  unfold Builtin.SmallTypes.stopIteration
  refine wpAny_bind ?_
  simp only [newExc, newTuple]
  refine wpAny_bind (wpAny_newObj_type ?_ (by size_fits))
  refine wpAny_bind (m := firstArgMember _ _) (wpAny_of_eq (a := Value.none) (by first | rfl | (simp only [firstArgMember]; rfl)) ?_)
  refine wpAny_newObj_type ?_ (by size_fits)
  simp only [raiseNew]
  refine wpAny_bind (wpAny_handled ?_)
  rw [show A.in1.handled = none from hh]
  refine wpAny_bind (wpAny_pure (wpAny_throw ?_))
  refine wpAny_bind (wpAny_isInstance (T := "StopIteration") (b := true) ⟨_, Heap.get?_push_size _ rfl, rfl⟩ isSubtype_stop ?_)
  exact wpAny_pure (hQ _ (((sb1.trans sb2).extBut.push _).push _))
theorem self_rev {it l : Addr} {i : Int} {Q : Value → Shared → Prop} (hit : RvAt s.heap it l i) (h : Q (.ref it) s) : wpAny (model prog w) A (pyIter (.ref it)) Q E s := by
  refine wpAny_pyIter_slot hit.type rv_iter (wpAny_call_entry rv_iter hit.type rv_iter_entry ?_ (rv_iter_args _))
  show wpAny _ _ (ret (.ref it)) _ _ s
  exact wpAny_pure ⟨_, rfl, "reversed", _, hit.type, rv_next.lookup, h⟩
end
end BgRev
end
section
set_option Elab.async false
set_option linter.all false
set_option maxRecDepth 100000
set_option maxHeartbeats 4000000
namespace L2
open PySem PySem.Spec PyProof.Rows
def Itrv (K : PySem.W.Frag) (a : Addr) (xs : List V) : It :=
  ⟨fun i H => SqT K H a xs ∧ i < xs.length, fun i H x H' => H' = H ∧ xs.reverse[i]? = some x, fun i H => SqT K H a xs ∧ xs.length ≤ i⟩
theorem turn_rev {P : Program} {w : World} {K : PySem.W.Frag} {tg : Expr} (a it : Addr) (xs : List V) (hz0 : xs.length ≤ sizeLine) : Turn P w K tg (Itrv K a xs) [it] it (fun i h => BgRev.RvAt h it a ((xs.length : Int) - 1 - (i : Int)) ∧ i ≤ xs.length) where
  mem := by simp
  obj := fun i h st b hb => by
    have e : b = it := by simpa using hb
    subst e
    exact ⟨_, st.1, fun v z => by have z' : Data.fields _ = Data.cell v := z; cases z'⟩
  keep := fun i h h' st k => ⟨k it (by simp) _ st.1, st.2⟩
  item := by
    intro X hP hw hK hc i pins s σ H E I hf st hg
    subst hP hw hK
    obtain ⟨hq, hi⟩ := hg
    obtain ⟨its, rv, p, hz⟩ := I.tuple hq
    have rl := rv.length
    obtain ⟨x, hx⟩ : ∃ x, xs[xs.length - 1 - i]? = some x := ⟨_, List.getElem?_eq_getElem (by lia)⟩
    obtain ⟨u, hu, ru⟩ := rv.get hx
    obtain ⟨f0, f1, f2, f3, f4, f5⟩ := hf it (by simp)
    have st1 := st.1
    rw [show (xs.length : Int) - 1 - (i : Int) = ((xs.length - 1 - i : Nat) : Int) by lia] at st1
    have hzz : (its.toArray.size : Int) < 2 ^ 63 := by
      have : its.toArray.size ≤ sizeLine := by rw [List.size_toArray, ← rl]; exact hz
      have h2 : sizeLine < 2 ^ 63 := by decide
      lia
    refine BgRev.next_rev st1 p hzz (x := u) (by simpa using hu) fun h' tk st' sb => ?_
    have I1 : Inv X pins σ H { s with heap := h', toks := tk } := I.turned (t' := tk) (fun b o hb e => (sb.2 b hb).trans e) f0 f1 f3 f4 f5
    have hrv : xs.reverse[i]? = some x := by
      rw [List.getElem?_reverse hi]; exact hx
    refine ⟨u, rfl, go_of (s := { s with heap := h', toks := tk }) st' rfl rfl (by decide) ⟨x, H, I1, ru, ⟨rfl, hrv⟩, ⟨?_, hi⟩, fun b hb => (hf b hb).1⟩⟩
    rw [show (xs.length : Int) - 1 - ((i + 1 : Nat) : Int) = ((xs.length - 1 - i : Nat) : Int) - 1 by lia]
    exact st'
  done := by
    intro X hP hw hK hc i pins s σ H E I hf st hg
    subst hP hw hK
    obtain ⟨hq, hx⟩ := hg
    obtain ⟨f0, f1, f2, f3, f4, f5⟩ := hf it (by simp)
    have st1 := st.1
    have st2 := st.2
    rw [show (xs.length : Int) - 1 - (i : Int) = -1 by lia] at st1
    exact BgRev.stop_rev (I.ok.hd hc) st1 fun h' eb => ⟨rfl, I.turned (t' := s.toks) (fun b o hb e => eb b o hb e) f0 f1 f3 f4 f5⟩
  self := fun _ _ _ _ _ st h => BgRev.self_rev st.1 h
section
variable {X : Cx} {tg : Expr}
def iRevT (K : PySem.W.Frag) (tl : TA) : TI := fun σ H R => tl σ H fun vs H1 => ∃ a xs, vs = [.ref a] ∧ SqT K H1 a xs ∧ R (Itrv K a xs) H1
theorem pi_revT {a : Expr} {ta : TA} {p pos : Pos} (hg : Gl X "reversed") (hm : X.mg "reversed" = none) (ha : PA X [a] ta) (hs : starEach [a] X.env = [(false, eval a X.env)] := by rfl) :
    PI X tg (.Call (.Name "reversed" p) [a] [] pos) (iRevT X.K ta) := by
  intro pins s σ H R I h
  refine Call_ (ld_blt I hg hm boot_reversed (PyProof.Rows.callWith_type1 (thn (ha pos pins s σ H _ I h) fun us s1 ⟨vs, H1, I1, r1, q1⟩ => ?_) hs rfl))
  obtain ⟨l, xs, e, hq, q⟩ := q1
  subst e
  cases r1 with
  | cons r rr =>
    cases rr
    cases r
    obtain ⟨its, rv, p, hz⟩ := I1.tuple hq
    have rl := rv.length
    have hzz : (its.toArray.size : Int) < 2 ^ 63 := by
      have : its.toArray.size ≤ sizeLine := by rw [List.size_toArray, ← rl]; exact hz
      have h2 : sizeLine < 2 ^ 63 := by decide
      lia
    refine BgRev.call_rev p hzz fun tk => ?_
    have at_ : BgRev.RvAt (s1.heap.push (BgRev.rvObj l ((its.toArray.size : Int) - 1))) s1.heap.objs.size l ((xs.length : Int) - 1 - ((0 : Nat) : Int)) := by
      have : (s1.heap.push (BgRev.rvObj l ((its.toArray.size : Int) - 1))).get? s1.heap.objs.size = some (BgRev.rvObj l ((its.toArray.size : Int) - 1)) := Heap.get?_push_size _ rfl
      unfold BgRev.RvAt
      rw [this, List.size_toArray, ← rl]
      simp [BgRev.rvObj, rawInt]
    refine BgRev.self_rev (s := { s1 with heap := s1.heap.push (BgRev.rvObj l ((its.toArray.size : Int) - 1)), toks := tk }) at_ ?_
    refine ⟨s1.heap.objs.size, [s1.heap.objs.size], _, _, H1, rfl, I1.kept (t' := tk) fun b o e => Heap.get?_push_of_some _ e, turn_rev l _ xs hz, ⟨at_, Nat.zero_le _⟩, fun b hb => ?_, q⟩
    have e : b = s1.heap.objs.size := by simpa using hb
    subst e
    exact I1.fpOk (Nat.le_refl _) (I1.hok.fresh (Nat.le_refl _))
theorem qi_revT {a : Expr} {ta : TA} {p pos : Pos} (hg : Gl X "reversed") (hm : X.mg "reversed" = none) (ha : QA X [a] ta) (hs : starEach [a] X.env = [(false, eval a X.env)] := by rfl) :
    QI X tg (.Call (.Name "reversed" p) [a] [] pos) (iRevT X.K ta) := ⟨pi_revT hg hm ha.up hs⟩
end
theorem for_rev {K : PySem.W.Frag} {a : Addr} {xs : List V} {g : TG} {tb : TS} {D : Ends} {σ : St} {H : Hp} (Pv : Nat → St → Hp → Prop) (h0 : Pv 0 σ H) (hl : ∀ i σ H, i ≤ xs.length → Pv i σ H → SqT K H a xs)
    (hs : ∀ i x σ H, xs.reverse[i]? = some x → Pv i σ H → g x σ H fun σ2 H2 => tb { D with nx := Pv (i + 1), ct := Pv (i + 1), bk := D.nx } σ2 H2) (hd : ∀ σ H, Pv xs.length σ H → D.nx σ H) :
    ∃ W : Nat → Nat → St → Hp → Prop, (∃ m, W 0 m σ H) ∧ ∀ i m σ H, W i m σ H →
      ((Itrv K a xs).stop i H ∧ D.nx σ H) ∨ ((Itrv K a xs).go i H ∧ ∃ N : St → Hp → Prop, (∀ σ' H', N σ' H' → ∃ m', m' < m ∧ W (i + 1) m' σ' H') ∧ ∀ x H', (Itrv K a xs).yld i H x H' → g x σ H' fun σ2 H2 => tb { D with nx := N, ct := N, bk := D.nx } σ2 H2) := by
  refine ⟨fun i m σ H => m = xs.length - i ∧ i ≤ xs.length ∧ Pv i σ H, ⟨xs.length, by simp, Nat.zero_le _, h0⟩, ?_⟩
  rintro i m σ H ⟨rfl, hi, p⟩
  have q := hl i σ H hi p
  by_cases lt : i < xs.length
  · refine .inr ⟨⟨q, lt⟩, Pv (i + 1), fun σ' H' p' => ⟨xs.length - (i + 1), by lia, rfl, lt, p'⟩, fun x H' y => ?_⟩
    obtain ⟨e, y⟩ := y
    subst e
    exact hs i x σ _ y p
  · have e : i = xs.length := by lia
    subst e
    exact .inl ⟨⟨q, Nat.le_refl _⟩, hd σ H p⟩
end L2
end
section
set_option Elab.async false
set_option linter.all false
set_option maxRecDepth 100000
set_option maxHeartbeats 4000000
namespace Bg
open PySem PySem.Spec PyProof.Rows L2
def top (i : Nat) : Stmt := PySem.Challenge.pw_beltgarth_k61_wanted_and_crowded.main.body.getD i (.Pass ⟨0, 0, 0, 0⟩)
abbrev s_p_wanted_at : Stmt := top 1
abbrev PS_p_wanted_at : List Str := ["works", "last"]
abbrev N_p_wanted_at : List Str := ["works", "last", "names", "points", "work"]
def t_p_wanted_at_1 (K : PySem.W.Frag) : TS := (tRet (tListRev K (tCons (tVar 3) tNil)))
def t_p_wanted_at_2 (K : PySem.W.Frag) : TS := (tDrop (tBM K "list" rAppend (tVar 3) (tCons (tVar 2) tNil)))
def t_p_wanted_at_3 (K : PySem.W.Frag) : TS := (tSeq (tAsg (tCB (rTupleOf K) (tCons (tSortSetS K (tCons (tOp (rPlusW K) (tCall (sp_p_without K) [] E0 (tCons (tVar 2) (tCons (tOp (rIx K) (tVar 4) (tC (.int 1))) tNil))) (tCB (rTupleOf K) (tCons (tOp (rIx K) (tVar 4) (tC (.int 0))) tNil))) tNil)) tNil)) (gName 2)) (t_p_wanted_at_2 K))
def t_p_wanted_at_4 (K : PySem.W.Frag) : TS := (tSeq (tFor (iRevT K (tCons (tVar 0) tNil)) (gName 4) (t_p_wanted_at_3 K)) (t_p_wanted_at_1 K))
def t_p_wanted_at_5 (K : PySem.W.Frag) : TS := (tSeq (tAsg (tLst (tCons (tVar 2) tNil)) (gName 3)) (t_p_wanted_at_4 K))
def t_p_wanted_at (K : PySem.W.Frag) : TS := (tSeq (tAsg (tCB (rTupleOf K) (tCons (tSortSetS K (tCons (tVar 1) tNil)) tNil)) (gName 2)) (t_p_wanted_at_5 K))
theorem sc_p_wanted_at : FnScope N_p_wanted_at PS_p_wanted_at (defScope s_p_wanted_at) := ⟨rfl, rfl, rfl, by decide +kernel, rfl, by decide +kernel, by decide +kernel⟩
abbrev s_p_without : Stmt := top 2
abbrev PS_p_without : List Str := ["names", "name"]
abbrev N_p_without : List Str := ["names", "name"]
def t_p_without (K : PySem.W.Frag) : TS := (tRet (tCB (rTupleOf K) (tCons (tComp [] 1 (iSeq K (tVar 0)) (gName 2) (tTest (tOp (rNeG K) (tVar 2) (tVar 1))) (tVar 2)) tNil)))
theorem sc_p_without : FnScope N_p_without PS_p_without (defScope s_p_without) := ⟨rfl, rfl, rfl, by decide +kernel, rfl, by decide +kernel, by decide +kernel⟩
abbrev s_p_crowded : Stmt := top 3
abbrev PS_p_crowded : List Str := ["places", "works", "last"]
abbrev N_p_crowded : List Str := ["places", "works", "last", "points", "k", "names", "left"]
def t_p_crowded_1 (K : PySem.W.Frag) : TS := (tRet (tC .non))
def t_p_crowded_2 (K : PySem.W.Frag) : TS := (tIfS (tTest (tOp (rGt2) (tCB (rLen K) (tCons (tVar 6) tNil)) (tOp (rSub2) (tVar 0) (tC (.int 1))))) (tRet (tTup (tCons (tC (.str "behind")) (tCons (tVar 4) (tCons (tVar 6) tNil))))) tNext)
def t_p_crowded_3 (K : PySem.W.Frag) : TS := (tIfS (tAnd (tTest (tOp (rLt2) (tVar 4) (tCB (rLen K) (tCons (tVar 1) tNil)))) (tTest (tOp (rNotN) (tOp (rIx K) (tOp (rIx K) (tVar 1) (tVar 4)) (tC (.int 1))) (tC .non)))) (tSeq (tAsg (tCall (sp_p_without K) [] E0 (tCons (tOp (rIx K) (tVar 3) (tOp (rPlus K) (tVar 4) (tC (.int 1)))) (tCons (tOp (rIx K) (tOp (rIx K) (tVar 1) (tVar 4)) (tC (.int 1))) tNil))) (gName 6)) (t_p_crowded_2 K)) tNext)
def t_p_crowded_4 (K : PySem.W.Frag) : TS := (tSeq (tIfS (tTest (tOp (rGt2) (tCB (rLen K) (tCons (tVar 5) tNil)) (tVar 0))) (tRet (tTup (tCons (tC (.str "ahead")) (tCons (tVar 4) (tCons (tVar 5) tNil))))) tNext) (t_p_crowded_3 K))
def t_p_crowded_5 (K : PySem.W.Frag) : TS := (tSeq (tFor (iEnum K (tCons (tVar 3) tNil)) (gTup K 2 (gCons (gName 4) (gCons (gName 5) gNil))) (t_p_crowded_4 K)) (t_p_crowded_1 K))
def t_p_crowded (K : PySem.W.Frag) : TS := (tSeq (tAsg (tCall (sp_p_wanted_at K) [] E0 (tCons (tVar 1) (tCons (tVar 2) tNil))) (gName 3)) (t_p_crowded_5 K))
theorem sc_p_crowded : FnScope N_p_crowded PS_p_crowded (defScope s_p_crowded) := ⟨rfl, rfl, rfl, by decide +kernel, rfl, by decide +kernel, by decide +kernel⟩
abbrev s_draw : Stmt := top 5
theorem sc_draw : FnScope N_draw PS_draw (defScope s_draw) := ⟨rfl, rfl, rfl, by decide +kernel, rfl, by decide +kernel, by decide +kernel⟩
abbrev s_names : Stmt := top 6
theorem sc_names : FnScope N_names PS_names (defScope s_names) := ⟨rfl, rfl, rfl, by decide +kernel, rfl, by decide +kernel, by decide +kernel⟩
abbrev s_thing : Stmt := top 7
abbrev PS_thing : List Str := ["_law_state", "_law_names_here"]
abbrev N_thing : List Str := ["_law_state", "_law_names_here"]
def t_thing (K : PySem.W.Frag) : TS := (tRet (tOp (rIx K) (tOp (rPlus K) (tVar 1) (tLst (tCons (tC .non) tNil))) (tCall (sp_draw K) [] E0 (tCons (tVar 0) (tCons (tOp (rPlus K) (tCB (rLen K) (tCons (tVar 1) tNil)) (tC (.int 1))) tNil)))))
theorem sc_thing : FnScope N_thing PS_thing (defScope s_thing) := ⟨rfl, rfl, rfl, by decide +kernel, rfl, by decide +kernel, by decide +kernel⟩
abbrev s_works : Stmt := top 8
abbrev PS_works : List Str := ["_law_state", "_law_names_here", "_law_most"]
abbrev N_works : List Str := ["_law_state", "_law_names_here", "_law_most", "_law_works_here", "_law_k", "_law_size", "_law_some"]
def t_works_1 (K : PySem.W.Frag) : TS := (tRet (tCB (rTupleOf K) (tCons (tVar 3) tNil)))
def t_works_2 (K : PySem.W.Frag) : TS := (tDrop (tBM K "list" rAppend (tVar 3) (tCons (tTup (tCons (tVar 6) (tCons (tOp (rIx K) (tLst (tCons (tC .non) (tCons (tCall (sp_thing K) [] E0 (tCons (tVar 0) (tCons (tVar 1) tNil))) tNil))) (tCB (rInt1) (tCons (tOp (rGt2) (tCall (sp_draw K) [] E0 (tCons (tVar 0) (tCons (tC (.int 4)) tNil))) (tC (.int 0))) tNil))) tNil))) tNil)))
def t_works_3 (K : PySem.W.Frag) : TS := (tSeq (tAsg (tCB (rTupleOf K) (tCons (tComp [] 1 (iRng1 (tCons (tVar 5) tNil)) (gName 7) tYes (tOp (rIx K) (tVar 1) (tCall (sp_draw K) [] E0 (tCons (tVar 0) (tCons (tCB (rLen K) (tCons (tVar 1) tNil)) tNil))))) tNil)) (gName 6)) (t_works_2 K))
def t_works_4 (K : PySem.W.Frag) : TS := (tSeq (tAsg (tOp (rIx K) (tLst (tCons (tC (.int 0)) (tCons (tC (.int 1)) (tCons (tC (.int 2)) (tCons (tC (.int 2)) (tCons (tC (.int 3)) (tCons (tC (.int 8)) tNil))))))) (tCall (sp_draw K) [] E0 (tCons (tVar 0) (tCons (tC (.int 6)) tNil)))) (gName 5)) (t_works_3 K))
def t_works_5 (K : PySem.W.Frag) : TS := (tSeq (tFor (iRng1 (tCons (tCall (sp_draw K) [] E0 (tCons (tVar 0) (tCons (tOp (rPlus K) (tVar 2) (tC (.int 1))) tNil))) tNil)) (gName 4) (t_works_4 K)) (t_works_1 K))
def t_works (K : PySem.W.Frag) : TS := (tSeq (tAsg (tLst tNil) (gName 3)) (t_works_5 K))
theorem sc_works : FnScope N_works PS_works (defScope s_works) := ⟨rfl, rfl, rfl, by decide +kernel, rfl, by decide +kernel, by decide +kernel⟩
abbrev s_is_wanted : Stmt := top 9
abbrev PS_is_wanted : List Str := ["_law_works_here", "_law_last_here", "_law_k", "_law_name"]
abbrev N_is_wanted : List Str := ["_law_works_here", "_law_last_here", "_law_k", "_law_name", "_law_some", "_law_makes"]
def t_is_wanted_1 (K : PySem.W.Frag) : TS := (tRet (tOp ((rIn K false)) (tVar 3) (tVar 1)))
def t_is_wanted_2 (K : PySem.W.Frag) : TS := (tIfS (tTest (tOp (rEqW K) (tVar 5) (tVar 3))) (tRet (tC (.bl false))) tNext)
def t_is_wanted_3 (K : PySem.W.Frag) : TS := (tSeq (tIfS (tTest (tOp ((rIn K false)) (tVar 3) (tVar 4))) (tRet (tC (.bl true))) tNext) (t_is_wanted_2 K))
def t_is_wanted (K : PySem.W.Frag) : TS := (tSeq (tFor (iSeq K (tSl (rSlW K) (tVar 0) (tPart (tVar 2)) tNoPart)) (gTup K 2 (gCons (gName 4) (gCons (gName 5) gNil))) (t_is_wanted_3 K)) (t_is_wanted_1 K))
theorem sc_is_wanted : FnScope N_is_wanted PS_is_wanted (defScope s_is_wanted) := ⟨rfl, rfl, rfl, by decide +kernel, rfl, by decide +kernel, by decide +kernel⟩
abbrev s_points : Stmt := top 10
abbrev PS_points : List Str := ["_law_works_here", "_law_last_here", "_law_names_here"]
abbrev N_points : List Str := ["_law_works_here", "_law_last_here", "_law_names_here", "_law_found", "_law_k"]
def t_points_1 (K : PySem.W.Frag) : TS := (tRet (tVar 3))
def t_points_2 (K : PySem.W.Frag) : TS := (tDrop (tBM K "list" rAppend (tVar 3) (tCons (tCB (rTupleOf K) (tCons (tComp [] 1 (iSeq K (tCB (rSortLS K) (tCons (tVar 2) tNil))) (gName 5) (tB (tCall (sp_is_wanted K) [] E0 (tCons (tVar 0) (tCons (tVar 1) (tCons (tVar 4) (tCons (tVar 5) tNil)))))) (tVar 5)) tNil)) tNil)))
def t_points_3 (K : PySem.W.Frag) : TS := (tSeq (tFor (iRng1 (tCons (tOp (rPlus K) (tCB (rLen K) (tCons (tVar 0) tNil)) (tC (.int 1))) tNil)) (gName 4) (t_points_2 K)) (t_points_1 K))
def t_points (K : PySem.W.Frag) : TS := (tSeq (tAsg (tLst tNil) (gName 3)) (t_points_3 K))
theorem sc_points : FnScope N_points PS_points (defScope s_points) := ⟨rfl, rfl, rfl, by decide +kernel, rfl, by decide +kernel, by decide +kernel⟩
abbrev s_crowded : Stmt := top 11
abbrev PS_crowded : List Str := ["_law_places", "_law_works_here", "_law_points_here"]
abbrev N_crowded : List Str := ["_law_places", "_law_works_here", "_law_points_here", "_law_k", "_law_rest"]
def t_crowded_1 (K : PySem.W.Frag) : TS := (tRet (tC .non))
def t_crowded_2 (K : PySem.W.Frag) : TS := (tIfS (tTest (tOp (rGt2) (tCB (rLen K) (tCons (tVar 4) tNil)) (tOp (rSub2) (tVar 0) (tC (.int 1))))) (tRet (tTup (tCons (tC (.str "behind")) (tCons (tVar 3) (tCons (tVar 4) tNil))))) tNext)
def t_crowded_3 (K : PySem.W.Frag) : TS := (tIfS (tAnd (tTest (tOp (rLt2) (tVar 3) (tCB (rLen K) (tCons (tVar 1) tNil)))) (tTest (tOp (rNotN) (tOp (rIx K) (tOp (rIx K) (tVar 1) (tVar 3)) (tC (.int 1))) (tC .non)))) (tSeq (tAsg (tCB (rTupleOf K) (tCons (tComp [] 1 (iSeq K (tOp (rIx K) (tVar 2) (tOp (rPlus K) (tVar 3) (tC (.int 1))))) (gName 5) (tTest (tOp (rNeG K) (tVar 5) (tOp (rIx K) (tOp (rIx K) (tVar 1) (tVar 3)) (tC (.int 1))))) (tVar 5)) tNil)) (gName 4)) (t_crowded_2 K)) tNext)
def t_crowded_4 (K : PySem.W.Frag) : TS := (tSeq (tIfS (tTest (tOp (rGt2) (tCB (rLen K) (tCons (tOp (rIx K) (tVar 2) (tVar 3)) tNil)) (tVar 0))) (tRet (tTup (tCons (tC (.str "ahead")) (tCons (tVar 3) (tCons (tOp (rIx K) (tVar 2) (tVar 3)) tNil))))) tNext) (t_crowded_3 K))
def t_crowded (K : PySem.W.Frag) : TS := (tSeq (tFor (iRng1 (tCons (tCB (rLen K) (tCons (tVar 2) tNil)) tNil)) (gName 3) (t_crowded_4 K)) (t_crowded_1 K))
theorem sc_crowded : FnScope N_crowded PS_crowded (defScope s_crowded) := ⟨rfl, rfl, rfl, by decide +kernel, rfl, by decide +kernel, by decide +kernel⟩
abbrev s_last : Stmt := top 12
abbrev PS_last : List Str := ["_law_state", "_law_names_here", "_law_most"]
abbrev N_last : List Str := ["_law_state", "_law_names_here", "_law_most", "_law_left", "_law_found", "_law_k"]
def t_last_1 (K : PySem.W.Frag) : TS := (tRet (tCB (rTupleOf K) (tCons (tVar 4) tNil)))
def t_last_2 (K : PySem.W.Frag) : TS := (tDrop (tBM K "list" rAppend (tVar 4) (tCons (tBM K "list" rPopAt (tVar 3) (tCons (tCall (sp_draw K) [] E0 (tCons (tVar 0) (tCons (tCB (rLen K) (tCons (tVar 3) tNil)) tNil))) tNil)) tNil)))
def t_last_3 (K : PySem.W.Frag) : TS := (tSeq (tFor (iRng1 (tCons (tCB (rMin2) (tCons (tCB (rLen K) (tCons (tVar 1) tNil)) (tCons (tCall (sp_draw K) [] E0 (tCons (tVar 0) (tCons (tOp (rPlus K) (tVar 2) (tC (.int 1))) tNil))) tNil))) tNil)) (gName 5) (t_last_2 K)) (t_last_1 K))
def t_last_4 (K : PySem.W.Frag) : TS := (tSeq (tAsg (tLst tNil) (gName 4)) (t_last_3 K))
def t_last (K : PySem.W.Frag) : TS := (tSeq (tAsg (tCB (rListOf K) (tCons (tVar 1) tNil)) (gName 3)) (t_last_4 K))
theorem sc_last : FnScope N_last PS_last (defScope s_last) := ⟨rfl, rfl, rfl, by decide +kernel, rfl, by decide +kernel, by decide +kernel⟩
abbrev s_law : Stmt := top 13
abbrev PS_law : List Str := ["_law_script"]
abbrev N_law : List Str := ["_law_script", "_law_state", "_law_places", "_law_names_here", "_law_works_here", "_law_last_here", "_law_due", "_law_found", "_law_told_far"]
def t_law_1 (K : PySem.W.Frag) : TS := (tRet (tOp (rEqU K) (tCall (sp_p_wanted_at K) [] E0 (tCons (tVar 4) (tCons (tVar 5) tNil))) (tVar 6)))
def t_law_2 (K : PySem.W.Frag) : TS := (tSeq (tIfS (tOr (tTest (tOp (rNeU K) (tVar 8) (tCall (sp_crowded K) [] E0 (tCons (tVar 2) (tCons (tVar 4) (tCons (tVar 6) tNil)))))) (tTest (tOp (rNeU K) (tCall (sp_p_crowded K) [] E0 (tCons (tVar 2) (tCons (tVar 4) (tCons (tVar 5) tNil)))) (tVar 8)))) (tRet (tC (.bl false))) tNext) (t_law_1 K))
def t_law_3 (K : PySem.W.Frag) : TS := (tSeq (tAsg (tCall (sp_p_crowded K) [] E0 (tCons (tVar 2) (tCons (tVar 4) (tCons (tVar 5) tNil)))) (gName 8)) (t_law_2 K))
def t_law_4 (K : PySem.W.Frag) : TS := (tSeq (tDrop (tBM0 K "list" rClear (tVar 7))) (t_law_3 K))
def t_law_5 (K : PySem.W.Frag) : TS := (tSeq (tIfS (tOr (tNot (tB (tCB (rIsi K) (tCons (tVar 7) (tCons (tC (.ty "list")) tNil))))) (tOr (tTest (tOp (rNeU K) (tVar 7) (tVar 6))) (tNot (tB (tCB (rAll K) (tCons (tComp [] 1 (iSeq K (tVar 7)) (gName 9) tYes (tCB (rIsi K) (tCons (tVar 9) (tCons (tC (.ty "tuple")) tNil)))) tNil)))))) (tRet (tC (.bl false))) tNext) (t_law_4 K))
def t_law_6 (K : PySem.W.Frag) : TS := (tSeq (tAsg (tCall (sp_p_wanted_at K) [] E0 (tCons (tVar 4) (tCons (tVar 5) tNil))) (gName 7)) (t_law_5 K))
def t_law_7 (K : PySem.W.Frag) : TS := (tSeq (tAsg (tCall (sp_points K) [] E0 (tCons (tVar 4) (tCons (tVar 5) (tCons (tVar 3) tNil)))) (gName 6)) (t_law_6 K))
def t_law_8 (K : PySem.W.Frag) : TS := (tSeq (tAsg (tCall (sp_last K) [] E0 (tCons (tVar 1) (tCons (tVar 3) (tCons (tC (.int 6)) tNil)))) (gName 5)) (t_law_7 K))
def t_law_9 (K : PySem.W.Frag) : TS := (tSeq (tAsg (tCall (sp_works K) [] E0 (tCons (tVar 1) (tCons (tVar 3) (tCons (tOp (rIx K) (tLst (tCons (tC (.int 10)) (tCons (tC (.int 30)) tNil))) (tCB (rInt1) (tCons (tOp (rEqU K) (tCall (sp_draw K) [] E0 (tCons (tVar 1) (tCons (tC (.int 8)) tNil))) (tC (.int 1))) tNil))) tNil)))) (gName 4)) (t_law_8 K))
def t_law_10 (K : PySem.W.Frag) : TS := (tSeq (tAsg (tCall (sp_names K) [] E0 (tCons (tVar 1) (tCons (tOp (rPlus K) (tC (.int 1)) (tCall (sp_draw K) [] E0 (tCons (tVar 1) (tCons (tC (.int 11)) tNil)))) tNil))) (gName 3)) (t_law_9 K))
def t_law_11 (K : PySem.W.Frag) : TS := (tSeq (tAsg (tOp (rPlus K) (tC (.int 1)) (tOp (rIx K) (tLst (tCons (tCall (sp_draw K) [] E0 (tCons (tVar 1) (tCons (tC (.int 6)) tNil))) (tCons (tCall (sp_draw K) [] E0 (tCons (tVar 1) (tCons (tC (.int 16)) tNil))) tNil))) (tCB (rInt1) (tCons (tOp (rEqU K) (tCall (sp_draw K) [] E0 (tCons (tVar 1) (tCons (tC (.int 4)) tNil))) (tC (.int 1))) tNil)))) (gName 2)) (t_law_10 K))
def t_law (K : PySem.W.Frag) : TS := (tSeq (tAsg (tLst (tCons (tVar 0) (tCons (tC (.int 0)) (tCons (tC (.int 0)) tNil)))) (gName 1)) (t_law_11 K))
theorem sc_law : FnScope N_law PS_law (defScope s_law) := ⟨rfl, rfl, rfl, by decide +kernel, rfl, by decide +kernel, by decide +kernel⟩
end Bg
end
section
set_option Elab.async false
set_option linter.all false
set_option maxRecDepth 100000
set_option maxHeartbeats 4000000
namespace Bg
open PySem PySem.Spec PyProof.Rows L2
theorem d_p_without {P : Program} {w : World} {K : PySem.W.Frag} {mg : Str → Option Value} {base : Heap} {f : Addr} {cdv : Value} {A : Around} {outer : List Env} {s : Shared} {H : Hp} {E : XK} (B : Blt mg)  
    (hr : Room k_p_without (A.deeper (envOfC "without" (defScope s_p_without) s.heap.objs.size f cdv))) : PSs (cxOf CX0 P w K mg base N_p_without "without" (defScope s_p_without) f cdv A outer s H E).nox (defBody s_p_without) (t_p_without K) := by
  have nd := sc_p_without.nd
  have hu := hr.units0
  have hu1 := hu_of hr
  refine QSs.up ?_
  exact (qss_one (qs_ret (qe_callTy call_tuple_of rfl B.tuple_ boot_tuple (qa_cons (qe_comp (sc := defScope s_p_without) (N := N_p_without) (NY := ["names", "name", "one"]) (js := []) (k := 1) ⟨rfl, by decide +kernel, by decide +kernel, by decide +kernel, rfl, by decide +kernel⟩ rfl rfl rfl rfl (qi_seq (qv 0)) (fun _ _ _ _ _ => (qg_name (i := 2) (show List.Nodup (["names", "name", "one"] : List Str) by decide +kernel) rfl (Or.inl rfl))) (fun _ _ _ _ _ => (qif_one (qt_cmpR (op_neG hu) (qv 2) (qv 1) rfl))) (fun _ _ _ _ _ => (qv 2))) qa_nil))))
end Bg
end
section
set_option Elab.async false
set_option linter.all false
set_option maxRecDepth 100000
set_option maxHeartbeats 4000000
namespace Bg
open PySem PySem.Spec PyProof.Rows L2
theorem d_p_wanted_at {P : Program} {w : World} {K : PySem.W.Frag} {mg : Str → Option Value} {base : Heap} {f : Addr} {cdv : Value} {A : Around} {outer : List Env} {s : Shared} {H : Hp} {E : XK} (B : Blt mg)  (c_p_without : Callee P w K mg base "without" PS_p_without K_p_without (sp_p_without K))
    (hr : Room k_p_wanted_at (A.deeper (envOfC "wanted_at" (defScope s_p_wanted_at) s.heap.objs.size f cdv))) : PSs (cxOf CX0 P w K mg base N_p_wanted_at "wanted_at" (defScope s_p_wanted_at) f cdv A outer s H E).nox (defBody s_p_wanted_at) (t_p_wanted_at K) := by
  have nd := sc_p_wanted_at.nd
  have hu := hr.units0
  have hu1 := hu_of hr
  refine QSs.up ?_
  exact (qss_cons (qs_set (i := 2) nd rfl (Or.inl rfl) (qe_callTy call_tuple_of rfl B.tuple_ boot_tuple (qa_cons (qe_sortSetS rfl rfl B.sorted_ B.set_ rfl (qa_cons (qv 1) qa_nil)) qa_nil))) (qss_cons (qs_set (i := 3) nd rfl (Or.inl rfl) (qe_lst (qa_cons (qv 2) qa_nil))) (qss_cons (qs_for PassesOwn.never rfl (qi_revT rfl B.reversed_ (qa_cons (qv 0) qa_nil)) (qg_name (i := 4) nd rfl (Or.inl rfl)) (qss_cons (qs_set (i := 2) nd rfl (Or.inl rfl) (qe_callTy call_tuple_of rfl B.tuple_ boot_tuple (qa_cons (qe_sortSetS rfl rfl B.sorted_ B.set_ rfl (qa_cons (qe_op op_plusW (qe_fn c_p_without (hr.mono (by decide)) rfl (qa_cons (qv 2) (qa_cons (qe_ix ix_seq (qv 4) qe_int (fun _ _ => rfl)) qa_nil))) (qe_callTy call_tuple_of rfl B.tuple_ boot_tuple (qa_cons (qe_ix ix_seq (qv 4) qe_int (fun _ _ => rfl)) qa_nil))) qa_nil)) qa_nil))) (qss_one (qs_expr (qe_bm PySem.F.plainAttrs_list PySem.F.slot_list_append PySem.F.type_list_append mt_append (qv 3) (qa_cons (qv 2) qa_nil)))))) (qss_one (qs_ret (qe_listRev rfl rfl B.list_ B.reversed_ rfl (qa_cons (qv 3) qa_nil)))))))
end Bg
end
section
set_option Elab.async false
set_option linter.all false
set_option maxRecDepth 100000
set_option maxHeartbeats 4000000
namespace Bg
open PySem PySem.Spec PyProof.Rows L2
theorem d_p_crowded {P : Program} {w : World} {K : PySem.W.Frag} {mg : Str → Option Value} {base : Heap} {f : Addr} {cdv : Value} {A : Around} {outer : List Env} {s : Shared} {H : Hp} {E : XK} (B : Blt mg)  (c_p_without : Callee P w K mg base "without" PS_p_without K_p_without (sp_p_without K)) (c_p_wanted_at : Callee P w K mg base "wanted_at" PS_p_wanted_at K_p_wanted_at (sp_p_wanted_at K))
    (hr : Room k_p_crowded (A.deeper (envOfC "crowded" (defScope s_p_crowded) s.heap.objs.size f cdv))) : PSs (cxOf CX0 P w K mg base N_p_crowded "crowded" (defScope s_p_crowded) f cdv A outer s H E).nox (defBody s_p_crowded) (t_p_crowded K) := by
  have nd := sc_p_crowded.nd
  have hu := hr.units0
  have hu1 := hu_of hr
  refine QSs.up ?_
  exact (qss_cons (qs_set (i := 3) nd rfl (Or.inl rfl) (qe_fn c_p_wanted_at (hr.mono (by decide)) rfl (qa_cons (qv 1) (qa_cons (qv 2) qa_nil)))) (qss_cons (qs_for PassesOwn.never rfl (qi_enum rfl B.enumerate_ (qa_cons (qv 3) qa_nil)) (qg_tup rfl (qgs_cons (qg_name (i := 4) nd rfl (Or.inl rfl)) (qgs_cons (qg_name (i := 5) nd rfl (Or.inl rfl)) qgs_nil))) (qss_cons (qs_if (qt_cmpR op_gt (qe_callB call_len rfl B.len_ boot_len (qa_cons (qv 5) qa_nil)) (qv 0) rfl) (qss_one (qs_ret (qe_tup (qa_cons qe_str (qa_cons (qv 4) (qa_cons (qv 5) qa_nil)))))) qss_nil) (qss_one (qs_if (QW.pt (qw_and (qt_cmpR op_lt (qv 4) (qe_callB call_len rfl B.len_ boot_len (qa_cons (qv 1) qa_nil)) rfl) (qw_and1 (qt_cmpR op_notN (qe_ix ix_seq (qe_ix ix_seq (qv 1) (qv 4) (fun _ _ => rfl)) qe_int (fun _ _ => rfl)) qe_non rfl)))) (qss_cons (qs_set (i := 6) nd rfl (Or.inl rfl) (qe_fn c_p_without (hr.mono (by decide)) rfl (qa_cons (qe_ix ix_seq (qv 3) (qe_op op_plus (qv 4) qe_int) (fun _ _ => rfl)) (qa_cons (qe_ix ix_seq (qe_ix ix_seq (qv 1) (qv 4) (fun _ _ => rfl)) qe_int (fun _ _ => rfl)) qa_nil)))) (qss_one (qs_if (qt_cmpR op_gt (qe_callB call_len rfl B.len_ boot_len (qa_cons (qv 6) qa_nil)) (qe_op op_sub (qv 0) qe_int) rfl) (qss_one (qs_ret (qe_tup (qa_cons qe_str (qa_cons (qv 4) (qa_cons (qv 6) qa_nil)))))) qss_nil))) qss_nil)))) (qss_one (qs_ret qe_non))))
end Bg
end
section
set_option Elab.async false
set_option linter.all false
set_option maxRecDepth 100000
set_option maxHeartbeats 4000000
namespace Bg
open PySem PySem.Spec PyProof.Rows L2
theorem d_crowded {P : Program} {w : World} {K : PySem.W.Frag} {mg : Str → Option Value} {base : Heap} {f : Addr} {cdv : Value} {A : Around} {outer : List Env} {s : Shared} {H : Hp} {E : XK} (B : Blt mg)  
    (hr : Room k_crowded (A.deeper (envOfC "_law_crowded" (defScope s_crowded) s.heap.objs.size f cdv))) : PSs (cxOf CX0 P w K mg base N_crowded "_law_crowded" (defScope s_crowded) f cdv A outer s H E).nox (defBody s_crowded) (t_crowded K) := by
  have nd := sc_crowded.nd
  have hu := hr.units0
  have hu1 := hu_of hr
  refine QSs.up ?_
  exact (qss_cons (qs_for PassesOwn.never rfl (qi_range1 rfl B.range_ (qa_cons (qe_callB call_len rfl B.len_ boot_len (qa_cons (qv 2) qa_nil)) qa_nil)) (qg_name (i := 3) nd rfl (Or.inr rfl)) (qss_cons (qs_if (qt_cmpR op_gt (qe_callB call_len rfl B.len_ boot_len (qa_cons (qe_ix ix_seq (qv 2) (qv 3) (fun _ _ => rfl)) qa_nil)) (qv 0) rfl) (qss_one (qs_ret (qe_tup (qa_cons qe_str (qa_cons (qv 3) (qa_cons (qe_ix ix_seq (qv 2) (qv 3) (fun _ _ => rfl)) qa_nil)))))) qss_nil) (qss_one (qs_if (QW.pt (qw_and (qt_cmpR op_lt (qv 3) (qe_callB call_len rfl B.len_ boot_len (qa_cons (qv 1) qa_nil)) rfl) (qw_and1 (qt_cmpR op_notN (qe_ix ix_seq (qe_ix ix_seq (qv 1) (qv 3) (fun _ _ => rfl)) qe_int (fun _ _ => rfl)) qe_non rfl)))) (qss_cons (qs_set (i := 4) nd rfl (Or.inl rfl) (qe_callTy call_tuple_of rfl B.tuple_ boot_tuple (qa_cons (qe_comp (sc := defScope s_crowded) (N := N_crowded) (NY := ["_law_places", "_law_works_here", "_law_points_here", "_law_k", "_law_rest", "_law_name"]) (js := []) (k := 1) ⟨rfl, by decide +kernel, by decide +kernel, by decide +kernel, rfl, by decide +kernel⟩ rfl rfl rfl rfl (qi_seq (qe_ix ix_seq (qv 2) (qe_op op_plus (qv 3) qe_int) (fun _ _ => rfl))) (fun _ _ _ _ _ => (qg_name (i := 5) (show List.Nodup (["_law_places", "_law_works_here", "_law_points_here", "_law_k", "_law_rest", "_law_name"] : List Str) by decide +kernel) rfl (Or.inl rfl))) (fun _ _ _ _ _ => (qif_one (qt_cmpR (op_neG hu) (qv 5) (qe_ix ix_seq (qe_ix ix_seq (qv 1) (qv 3) (fun _ _ => rfl)) qe_int (fun _ _ => rfl)) rfl))) (fun _ _ _ _ _ => (qv 5))) qa_nil))) (qss_one (qs_if (qt_cmpR op_gt (qe_callB call_len rfl B.len_ boot_len (qa_cons (qv 4) qa_nil)) (qe_op op_sub (qv 0) qe_int) rfl) (qss_one (qs_ret (qe_tup (qa_cons qe_str (qa_cons (qv 3) (qa_cons (qv 4) qa_nil)))))) qss_nil))) qss_nil)))) (qss_one (qs_ret qe_non)))
end Bg
end
section
set_option Elab.async false
set_option linter.all false
set_option maxRecDepth 100000
set_option maxHeartbeats 4000000
namespace Bg
open PySem PySem.Spec PyProof.Rows L2
theorem d_is_wanted {P : Program} {w : World} {K : PySem.W.Frag} {mg : Str → Option Value} {base : Heap} {f : Addr} {cdv : Value} {A : Around} {outer : List Env} {s : Shared} {H : Hp} {E : XK} (B : Blt mg)  
    (hr : Room k_is_wanted (A.deeper (envOfC "_law_is_wanted" (defScope s_is_wanted) s.heap.objs.size f cdv))) : PSs (cxOf CX0 P w K mg base N_is_wanted "_law_is_wanted" (defScope s_is_wanted) f cdv A outer s H E).nox (defBody s_is_wanted) (t_is_wanted K) := by
  have nd := sc_is_wanted.nd
  have hu := hr.units0
  have hu1 := hu_of hr
  refine QSs.up ?_
  exact (qss_cons (qs_for PassesOwn.never rfl (qi_seq (qe_slice sl_seqW (qv 0) (qo_some (qv 2)) qo_none)) (qg_tup rfl (qgs_cons (qg_name (i := 4) nd rfl (Or.inl rfl)) (qgs_cons (qg_name (i := 5) nd rfl (Or.inl rfl)) qgs_nil))) (qss_cons (qs_if (qt_cmpR op_in_seq (qv 3) (qv 4) rfl) (qss_one (qs_ret qe_bl)) qss_nil) (qss_one (qs_if (qt_cmpR (op_eqW hu) (qv 5) (qv 3) rfl) (qss_one (qs_ret qe_bl)) qss_nil)))) (qss_one (qs_ret (qe_cmpR op_in_seq (qv 3) (qv 1) rfl))))
end Bg
end
section
set_option Elab.async false
set_option linter.all false
set_option maxRecDepth 100000
set_option maxHeartbeats 4000000
namespace Bg
open PySem PySem.Spec PyProof.Rows L2
theorem d_points {P : Program} {w : World} {K : PySem.W.Frag} {mg : Str → Option Value} {base : Heap} {f : Addr} {cdv : Value} {A : Around} {outer : List Env} {s : Shared} {H : Hp} {E : XK} (B : Blt mg)  (c_is_wanted : Callee P w K mg base "_law_is_wanted" PS_is_wanted K_is_wanted (sp_is_wanted K))
    (hr : Room k_points (A.deeper (envOfC "_law_points" (defScope s_points) s.heap.objs.size f cdv))) : PSs (cxOf CX0 P w K mg base N_points "_law_points" (defScope s_points) f cdv A outer s H E).nox (defBody s_points) (t_points K) := by
  have nd := sc_points.nd
  have hu := hr.units0
  have hu1 := hu_of hr
  refine QSs.up ?_
  exact (qss_cons (qs_set (i := 3) nd rfl (Or.inl rfl) (qe_lst qa_nil)) (qss_cons (qs_for PassesOwn.never rfl (qi_range1 rfl B.range_ (qa_cons (qe_op op_plus (qe_callB call_len rfl B.len_ boot_len (qa_cons (qv 0) qa_nil)) qe_int) qa_nil)) (qg_name (i := 4) nd rfl (Or.inr rfl)) (qss_one (qs_expr (qe_bm PySem.F.plainAttrs_list PySem.F.slot_list_append PySem.F.type_list_append mt_append (qv 3) (qa_cons (qe_callTy call_tuple_of rfl B.tuple_ boot_tuple (qa_cons (qe_comp (sc := defScope s_points) (N := N_points) (NY := ["_law_works_here", "_law_last_here", "_law_names_here", "_law_found", "_law_k", "_law_name"]) (js := []) (k := 1) ⟨rfl, by decide +kernel, by decide +kernel, by decide +kernel, rfl, by decide +kernel⟩ rfl rfl rfl rfl (qi_seq (qe_callB call_sortLS rfl B.sorted_ boot_sorted (qa_cons (qv 2) qa_nil))) (fun _ _ _ _ _ => (qg_name (i := 5) (show List.Nodup (["_law_works_here", "_law_last_here", "_law_names_here", "_law_found", "_law_k", "_law_name"] : List Str) by decide +kernel) rfl (Or.inl rfl))) (fun _ _ _ _ _ => (qif_one (qt_val (qe_fn c_is_wanted (hr.mono (by decide)) rfl (qa_cons (qv 0) (qa_cons (qv 1) (qa_cons (qv 4) (qa_cons (qv 5) qa_nil)))))))) (fun _ _ _ _ _ => (qv 5))) qa_nil)) qa_nil))))) (qss_one (qs_ret (qv 3)))))
end Bg
end
section
set_option Elab.async false
set_option linter.all false
set_option maxRecDepth 100000
set_option maxHeartbeats 4000000
namespace Bg
open PySem PySem.Spec PyProof.Rows L2
theorem d_draw {P : Program} {w : World} {K : PySem.W.Frag} {mg : Str → Option Value} {base : Heap} {f : Addr} {cdv : Value} {A : Around} {outer : List Env} {s : Shared} {H : Hp} {E : XK} (B : Blt mg)  
    (hr : Room k_draw (A.deeper (envOfC "_law_draw" (defScope s_draw) s.heap.objs.size f cdv))) : PSs (cxOf CX0 P w K mg base N_draw "_law_draw" (defScope s_draw) f cdv A outer s H E).nox (defBody s_draw) (t_draw K) := by
  have nd := sc_draw.nd
  have hu := hr.units0
  have hu1 := hu_of hr
  refine QSs.up ?_
  exact (qss_cons (qs_asg (qe_slice sl_seq (qv 0) qo_none (qo_some qe_int)) (qg_tupL rfl (qgs_cons (qg_name (i := 2) nd rfl (Or.inl rfl)) (qgs_cons (qg_name (i := 3) nd rfl (Or.inl rfl)) qgs_nil)))) (qss_cons (qs_asg (qe_op op_plus (qv 3) qe_int) (qg_sub (qv 0) qe_int set_list)) (qss_cons (qs_if (QW.pt (qw_and (qt_cmpR op_lt (qe_op op_plus (qe_op op_fdiv (qv 3) qe_int) qe_int) (qe_callB call_len rfl B.len_ boot_len (qa_cons (qv 2) qa_nil)) rfl) (qw_and1 (qt_cmpR (op_eqG hu) (qe_op op_mod (qe_ix ix_seq (qv 2) qe_int (fun _ _ => rfl)) qe_int) qe_int rfl)))) (qss_cons (qs_if (qt_cmpR (op_eqG hu) (qe_op op_mod (qv 3) qe_int) qe_int rfl) (qss_one (qs_asg (qe_ix ix_seq (qv 2) (qe_op op_plus (qe_op op_fdiv (qv 3) qe_int) qe_int) (fun _ _ => rfl)) (qg_sub (qv 0) qe_int set_list))) qss_nil) (qss_one (qs_if (qt_cmpR op_notIn_seq (qe_ix ix_seq (qv 0) qe_int (fun _ _ => rfl)) (qe_tup (qa_cons qe_int (qa_cons (qe_un un_neg qe_int) qa_nil))) rfl) (qss_cons (qs_asg (qe_callB call_divmodW rfl B.divmod_ boot_divmod (qa_cons (qe_ix ix_seq (qv 0) qe_int (fun _ _ => rfl)) (qa_cons (qv 1) qa_nil))) (qg_tup rfl (qgs_cons (qg_sub (qv 0) qe_int set_list) (qgs_cons (qg_name (i := 4) nd rfl (Or.inl rfl)) qgs_nil)))) (qss_one (qs_ret (qv 4)))) qss_nil))) (qss_one (qs_if (qt_cmpR op_lt (qv 3) (qe_callB call_len rfl B.len_ boot_len (qa_cons (qv 2) qa_nil)) rfl) (qss_one (qs_ret (qe_op op_mod (qe_ix ix_seq (qv 2) (qv 3) (fun _ _ => rfl)) (qv 1)))) qss_nil))) (qss_cons (qs_set (i := 5) nd rfl (Or.inl rfl) (qe_op op_plus (qe_op op_times (qv 3) qe_int) qe_int)) (qss_cons (qs_if (qt_cmpR op_gt (qe_callB call_len rfl B.len_ boot_len (qa_cons (qv 2) qa_nil)) qe_int rfl) (qss_one (qs_set (i := 5) nd rfl (Or.inl rfl) (qe_op op_plus (qv 5) (qe_op op_times (qe_ix ix_seq (qv 2) (qe_op op_mod (qe_op op_times (qv 3) qe_int) (qe_callB call_len rfl B.len_ boot_len (qa_cons (qv 2) qa_nil))) (fun _ _ => rfl)) (qe_op op_plus qe_int (qv 3)))))) qss_nil) (qss_cons (qs_set (i := 5) nd rfl (Or.inl rfl) (qe_op op_mod (qe_op op_times (qe_op op_mod (qv 5) qe_int) (qe_op op_plus (qv 3) qe_int)) qe_int)) (qss_cons (qs_set (i := 5) nd rfl (Or.inl rfl) (qe_op op_mod (qe_op op_times (qv 5) (qv 5)) qe_int)) (qss_one (qs_ret (qe_op op_mod (qe_op op_mod (qe_op op_times (qv 5) (qv 5)) qe_int) (qv 1)))))))))))
end Bg
end
section
set_option Elab.async false
set_option linter.all false
set_option maxRecDepth 100000
set_option maxHeartbeats 4000000
namespace Bg
open PySem PySem.Spec PyProof.Rows L2
theorem d_last {P : Program} {w : World} {K : PySem.W.Frag} {mg : Str → Option Value} {base : Heap} {f : Addr} {cdv : Value} {A : Around} {outer : List Env} {s : Shared} {H : Hp} {E : XK} (B : Blt mg)  (c_draw : Callee P w K mg base "_law_draw" PS_draw K_draw (sp_draw K))
    (hr : Room k_last (A.deeper (envOfC "_law_last" (defScope s_last) s.heap.objs.size f cdv))) : PSs (cxOf CX0 P w K mg base N_last "_law_last" (defScope s_last) f cdv A outer s H E).nox (defBody s_last) (t_last K) := by
  have nd := sc_last.nd
  have hu := hr.units0
  have hu1 := hu_of hr
  refine QSs.up ?_
  exact (qss_cons (qs_set (i := 3) nd rfl (Or.inl rfl) (qe_callTy call_list_of rfl B.list_ boot_list (qa_cons (qv 1) qa_nil))) (qss_cons (qs_set (i := 4) nd rfl (Or.inl rfl) (qe_lst qa_nil)) (qss_cons (qs_for PassesOwn.never rfl (qi_range1 rfl B.range_ (qa_cons (qe_callB (call_min2 rfl) rfl B.min_ boot_min (qa_cons (qe_callB call_len rfl B.len_ boot_len (qa_cons (qv 1) qa_nil)) (qa_cons (qe_fn c_draw (hr.mono (by decide)) rfl (qa_cons (qv 0) (qa_cons (qe_op op_plus (qv 2) qe_int) qa_nil))) qa_nil))) qa_nil)) (qg_name (i := 5) nd rfl (Or.inl rfl)) (qss_one (qs_expr (qe_bm PySem.F.plainAttrs_list PySem.F.slot_list_append PySem.F.type_list_append mt_append (qv 4) (qa_cons (qe_bm PySem.F.plainAttrs_list PySem.F.slot_list_pop PySem.F.type_list_pop mt_popAt (qv 3) (qa_cons (qe_fn c_draw (hr.mono (by decide)) rfl (qa_cons (qv 0) (qa_cons (qe_callB call_len rfl B.len_ boot_len (qa_cons (qv 3) qa_nil)) qa_nil))) qa_nil)) qa_nil))))) (qss_one (qs_ret (qe_callTy call_tuple_of rfl B.tuple_ boot_tuple (qa_cons (qv 4) qa_nil)))))))
end Bg
end
section
set_option Elab.async false
set_option linter.all false
set_option maxRecDepth 100000
set_option maxHeartbeats 4000000
namespace Bg
open PySem PySem.Spec PyProof.Rows L2
theorem d_thing {P : Program} {w : World} {K : PySem.W.Frag} {mg : Str → Option Value} {base : Heap} {f : Addr} {cdv : Value} {A : Around} {outer : List Env} {s : Shared} {H : Hp} {E : XK} (B : Blt mg)  (c_draw : Callee P w K mg base "_law_draw" PS_draw K_draw (sp_draw K))
    (hr : Room k_thing (A.deeper (envOfC "_law_thing" (defScope s_thing) s.heap.objs.size f cdv))) : PSs (cxOf CX0 P w K mg base N_thing "_law_thing" (defScope s_thing) f cdv A outer s H E).nox (defBody s_thing) (t_thing K) := by
  have nd := sc_thing.nd
  have hu := hr.units0
  have hu1 := hu_of hr
  refine QSs.up ?_
  exact (qss_one (qs_ret (qe_ix ix_seq (qe_op op_plus (qv 1) (qe_lst (qa_cons qe_non qa_nil))) (qe_fn c_draw (hr.mono (by decide)) rfl (qa_cons (qv 0) (qa_cons (qe_op op_plus (qe_callB call_len rfl B.len_ boot_len (qa_cons (qv 1) qa_nil)) qe_int) qa_nil))) (fun _ _ => rfl))))
end Bg
end
section
set_option Elab.async false
set_option linter.all false
set_option maxRecDepth 100000
set_option maxHeartbeats 4000000
namespace Bg
open PySem PySem.Spec PyProof.Rows L2
theorem d_works {P : Program} {w : World} {K : PySem.W.Frag} {mg : Str → Option Value} {base : Heap} {f : Addr} {cdv : Value} {A : Around} {outer : List Env} {s : Shared} {H : Hp} {E : XK} (B : Blt mg)  (c_draw : Callee P w K mg base "_law_draw" PS_draw K_draw (sp_draw K)) (c_thing : Callee P w K mg base "_law_thing" PS_thing K_thing (sp_thing K))
    (hr : Room k_works (A.deeper (envOfC "_law_works" (defScope s_works) s.heap.objs.size f cdv))) : PSs (cxOf CX0 P w K mg base N_works "_law_works" (defScope s_works) f cdv A outer s H E).nox (defBody s_works) (t_works K) := by
  have nd := sc_works.nd
  have hu := hr.units0
  have hu1 := hu_of hr
  refine QSs.up ?_
  exact (qss_cons (qs_set (i := 3) nd rfl (Or.inl rfl) (qe_lst qa_nil)) (qss_cons (qs_for PassesOwn.never rfl (qi_range1 rfl B.range_ (qa_cons (qe_fn c_draw (hr.mono (by decide)) rfl (qa_cons (qv 0) (qa_cons (qe_op op_plus (qv 2) qe_int) qa_nil))) qa_nil)) (qg_name (i := 4) nd rfl (Or.inl rfl)) (qss_cons (qs_set (i := 5) nd rfl (Or.inl rfl) (qe_ix ix_seq (qe_lst (qa_cons qe_int (qa_cons qe_int (qa_cons qe_int (qa_cons qe_int (qa_cons qe_int (qa_cons qe_int qa_nil))))))) (qe_fn c_draw (hr.mono (by decide)) rfl (qa_cons (qv 0) (qa_cons qe_int qa_nil))) (fun _ _ => rfl))) (qss_cons (qs_set (i := 6) nd rfl (Or.inl rfl) (qe_callTy call_tuple_of rfl B.tuple_ boot_tuple (qa_cons (qe_comp (sc := defScope s_works) (N := N_works) (NY := ["_law_state", "_law_names_here", "_law_most", "_law_works_here", "_law_k", "_law_size", "_law_some", "_law_j"]) (js := []) (k := 1) ⟨rfl, by decide +kernel, by decide +kernel, by decide +kernel, rfl, by decide +kernel⟩ rfl rfl rfl rfl (qi_range1 rfl B.range_ (qa_cons (qv 5) qa_nil)) (fun _ _ _ _ _ => (qg_name (i := 7) (show List.Nodup (["_law_state", "_law_names_here", "_law_most", "_law_works_here", "_law_k", "_law_size", "_law_some", "_law_j"] : List Str) by decide +kernel) rfl (Or.inl rfl))) (fun _ _ _ _ _ => qif_nil) (fun _ _ _ _ _ => (qe_ix ix_seq (qv 1) (qe_fn c_draw (hr.mono (by decide)) rfl (qa_cons (qv 0) (qa_cons (qe_callB call_len rfl B.len_ boot_len (qa_cons (qv 1) qa_nil)) qa_nil))) (fun _ _ => rfl)))) qa_nil))) (qss_one (qs_expr (qe_bm PySem.F.plainAttrs_list PySem.F.slot_list_append PySem.F.type_list_append mt_append (qv 3) (qa_cons (qe_tup (qa_cons (qv 6) (qa_cons (qe_ix ix_seq (qe_lst (qa_cons qe_non (qa_cons (qe_fn c_thing (hr.mono (by decide)) rfl (qa_cons (qv 0) (qa_cons (qv 1) qa_nil))) qa_nil))) (qe_callTy call_int1 rfl B.int_ boot_int (qa_cons (qe_cmpR op_gt (qe_fn c_draw (hr.mono (by decide)) rfl (qa_cons (qv 0) (qa_cons qe_int qa_nil))) qe_int rfl) qa_nil)) (fun _ _ => rfl)) qa_nil))) qa_nil))))))) (qss_one (qs_ret (qe_callTy call_tuple_of rfl B.tuple_ boot_tuple (qa_cons (qv 3) qa_nil))))))
end Bg
end
section
set_option Elab.async false
set_option linter.all false
set_option maxRecDepth 100000
set_option maxHeartbeats 4000000
namespace Bg
open PySem PySem.Spec PyProof.Rows L2
theorem d_names {P : Program} {w : World} {K : PySem.W.Frag} {mg : Str → Option Value} {base : Heap} {f : Addr} {cdv : Value} {A : Around} {outer : List Env} {s : Shared} {H : Hp} {E : XK} (B : Blt mg)  (c_draw : Callee P w K mg base "_law_draw" PS_draw K_draw (sp_draw K))
    (hr : Room k_names (A.deeper (envOfC "_law_names" (defScope s_names) s.heap.objs.size f cdv))) : PSs (cxOf CX0 P w K mg base N_names "_law_names" (defScope s_names) f cdv A outer s H E).nox (defBody s_names) (t_names K) := by
  have nd := sc_names.nd
  have hu := hr.units0
  have hu1 := hu_of hr
  refine QSs.up ?_
  exact (qss_cons (qs_set (i := 2) nd rfl (Or.inr rfl) qe_str) (qss_cons (qs_set (i := 3) nd rfl (Or.inl rfl) (qe_op op_plus qe_int (qe_fn c_draw (hr.mono (by decide)) rfl (qa_cons (qv 0) (qa_cons qe_int qa_nil))))) (qss_cons (qs_set (i := 4) nd rfl (Or.inl rfl) (qe_fn c_draw (hr.mono (by decide)) rfl (qa_cons (qv 0) (qa_cons (qv 3) qa_nil)))) (qss_cons (qs_set (i := 5) nd rfl (Or.inr rfl) (qe_fn c_draw (hr.mono (by decide)) rfl (qa_cons (qv 0) (qa_cons qe_int qa_nil)))) (qss_cons (qs_comp (i := 6) (sc := defScope s_names) (N := N_names) (NY := ["_law_state", "_law_many", "_law_letters", "_law_size", "_law_at", "_law_first", "_law_base", "_law_found", "_law_k", "_law_some", "_law_name", "_law_j"]) (js := []) (k := 1) ⟨rfl, by decide +kernel, by decide +kernel, by decide +kernel, rfl, by decide +kernel⟩ rfl rfl rfl rfl (qi_range1 rfl B.range_ (qa_cons (qv 3) qa_nil)) (fun _ _ _ _ _ => (qg_name (i := 11) (show List.Nodup (["_law_state", "_law_many", "_law_letters", "_law_size", "_law_at", "_law_first", "_law_base", "_law_found", "_law_k", "_law_some", "_law_name", "_law_j"] : List Str) by decide +kernel) rfl (Or.inl rfl))) (fun _ _ _ _ _ => qif_nil) (fun _ _ _ _ _ => (qe_ix ix_seq (qv 2) (qe_op op_mod (qe_op op_plus (qv 5) (qe_op op_times (qe_op op_times qe_int (qv 11)) (qe_fn c_draw (hr.mono (by decide)) rfl (qa_cons (qv 0) (qa_cons qe_int qa_nil))))) qe_int) (fun _ _ => rfl))) nd rfl (Or.inl rfl) rfl) (qss_cons (qs_set (i := 7) nd rfl (Or.inl rfl) (qe_lst qa_nil)) (qss_cons (qs_for PassesOwn.never rfl (qi_range1 rfl B.range_ (qa_cons (qv 1) qa_nil)) (qg_name (i := 8) nd rfl (Or.inl rfl)) (qss_cons (qs_set (i := 9) nd rfl (Or.inl rfl) (qe_op op_plus (qe_op op_plus (qe_slice sl_seq (qv 6) qo_none (qo_some (qv 4))) (qe_lst (qa_cons (qe_ix ix_seq (qv 2) (qe_op op_mod (qe_op op_plus (qv 5) (qe_op op_times qe_int (qv 8))) qe_int) (fun _ _ => rfl)) qa_nil))) (qe_slice sl_seq (qv 6) (qo_some (qe_op op_plus (qv 4) qe_int)) qo_none))) (qss_cons (qs_set (i := 10) nd rfl (Or.inl rfl) (qe_bm PySem.F.plainAttrs_str PySem.F.slot_str_join PySem.F.type_str_join mt_join qe_str (qa_cons (qv 9) qa_nil))) (qss_cons (qs_if (QW.pt (qw_or (qt_cmpR op_in_seq (qv 10) (qe_tup (qa_cons qe_str (qa_cons qe_str (qa_cons qe_str (qa_cons qe_str (qa_cons qe_str (qa_cons qe_str qa_nil))))))) rfl) (qw_or1 (QW.pt (qw_and (qt_cmpR op_lt (qv 3) qe_int rfl) (qw_and1 (qt_cmpR (op_eqG hu) (qe_op op_mod (qe_op op_plus (qv 3) (qv 8)) qe_int) qe_int rfl))))))) (qss_one (qs_set (i := 10) nd rfl (Or.inl rfl) (qe_op op_plus (qv 10) qe_str))) qss_nil) (qss_one (qs_expr (qe_bm PySem.F.plainAttrs_list PySem.F.slot_list_append PySem.F.type_list_append mt_append (qv 7) (qa_cons (qv 10) qa_nil)))))))) (qss_one (qs_ret (qv 7))))))))))
end Bg
end
section
set_option Elab.async false
set_option linter.all false
set_option maxRecDepth 100000
set_option maxHeartbeats 4000000
namespace Bg
open PySem PySem.Spec PyProof.Rows L2
theorem d_law {P : Program} {w : World} {K : PySem.W.Frag} {mg : Str → Option Value} {base : Heap} {f : Addr} {cdv : Value} {A : Around} {outer : List Env} {s : Shared} {H : Hp} {E : XK} (B : Blt mg)  (c_p_wanted_at : Callee P w K mg base "wanted_at" PS_p_wanted_at K_p_wanted_at (sp_p_wanted_at K)) (c_p_crowded : Callee P w K mg base "crowded" PS_p_crowded K_p_crowded (sp_p_crowded K)) (c_crowded : Callee P w K mg base "_law_crowded" PS_crowded K_crowded (sp_crowded K)) (c_points : Callee P w K mg base "_law_points" PS_points K_points (sp_points K)) (c_last : Callee P w K mg base "_law_last" PS_last K_last (sp_last K)) (c_draw : Callee P w K mg base "_law_draw" PS_draw K_draw (sp_draw K)) (c_works : Callee P w K mg base "_law_works" PS_works K_works (sp_works K)) (c_names : Callee P w K mg base "_law_names" PS_names K_names (sp_names K))
    (hr : Room k_law (A.deeper (envOfC "law" (defScope s_law) s.heap.objs.size f cdv))) : PSs (cxOf CX0 P w K mg base N_law "law" (defScope s_law) f cdv A outer s H E).nox (defBody s_law) (t_law K) := by
  have nd := sc_law.nd
  have hu := hr.units0
  have hu1 := hu_of hr
  have hu5 := hu5_of hr
  refine QSs.up ?_
  exact (qss_cons (qs_set (i := 1) nd rfl (Or.inl rfl) (qe_lst (qa_cons (qv 0) (qa_cons qe_int (qa_cons qe_int qa_nil))))) (qss_cons (qs_set (i := 2) nd rfl (Or.inl rfl) (qe_op op_plus qe_int (qe_ix ix_seq (qe_lst (qa_cons (qe_fn c_draw (hr.mono (by decide)) rfl (qa_cons (qv 1) (qa_cons qe_int qa_nil))) (qa_cons (qe_fn c_draw (hr.mono (by decide)) rfl (qa_cons (qv 1) (qa_cons qe_int qa_nil))) qa_nil))) (qe_callTy call_int1 rfl B.int_ boot_int (qa_cons (qe_cmpR (op_eqU hu5) (qe_fn c_draw (hr.mono (by decide)) rfl (qa_cons (qv 1) (qa_cons qe_int qa_nil))) qe_int rfl) qa_nil)) (fun _ _ => rfl)))) (qss_cons (qs_set (i := 3) nd rfl (Or.inl rfl) (qe_fn c_names (hr.mono (by decide)) rfl (qa_cons (qv 1) (qa_cons (qe_op op_plus qe_int (qe_fn c_draw (hr.mono (by decide)) rfl (qa_cons (qv 1) (qa_cons qe_int qa_nil)))) qa_nil)))) (qss_cons (qs_set (i := 4) nd rfl (Or.inl rfl) (qe_fn c_works (hr.mono (by decide)) rfl (qa_cons (qv 1) (qa_cons (qv 3) (qa_cons (qe_ix ix_seq (qe_lst (qa_cons qe_int (qa_cons qe_int qa_nil))) (qe_callTy call_int1 rfl B.int_ boot_int (qa_cons (qe_cmpR (op_eqU hu5) (qe_fn c_draw (hr.mono (by decide)) rfl (qa_cons (qv 1) (qa_cons qe_int qa_nil))) qe_int rfl) qa_nil)) (fun _ _ => rfl)) qa_nil))))) (qss_cons (qs_set (i := 5) nd rfl (Or.inl rfl) (qe_fn c_last (hr.mono (by decide)) rfl (qa_cons (qv 1) (qa_cons (qv 3) (qa_cons qe_int qa_nil))))) (qss_cons (qs_set (i := 6) nd rfl (Or.inl rfl) (qe_fn c_points (hr.mono (by decide)) rfl (qa_cons (qv 4) (qa_cons (qv 5) (qa_cons (qv 3) qa_nil))))) (qss_cons (qs_set (i := 7) nd rfl (Or.inl rfl) (qe_fn c_p_wanted_at (hr.mono (by decide)) rfl (qa_cons (qv 4) (qa_cons (qv 5) qa_nil)))) (qss_cons (qs_if (QW.pt (qw_or (qt_not (qt_val (qe_callB call_isi rfl B.isinstance_ boot_isinstance (qa_cons (qv 7) (qa_cons (qe_bltn rfl B.list_ boot_list (v := .ty "list") rfl) qa_nil))))) (qw_or (qt_cmpR (op_neU hu5) (qv 7) (qv 6) rfl) (qw_or1 (qt_not (qt_val (qe_callB (call_all_bl rfl) rfl B.all_ boot_all (qa_cons (qe_comp (sc := defScope s_law) (N := N_law) (NY := ["_law_script", "_law_state", "_law_places", "_law_names_here", "_law_works_here", "_law_last_here", "_law_due", "_law_found", "_law_told_far", "_law_one"]) (js := []) (k := 1) ⟨rfl, by decide +kernel, by decide +kernel, by decide +kernel, rfl, by decide +kernel⟩ rfl rfl rfl rfl (qi_seq (qv 7)) (fun _ _ _ _ _ => (qg_name (i := 9) (show List.Nodup (["_law_script", "_law_state", "_law_places", "_law_names_here", "_law_works_here", "_law_last_here", "_law_due", "_law_found", "_law_told_far", "_law_one"] : List Str) by decide +kernel) rfl (Or.inl rfl))) (fun _ _ _ _ _ => qif_nil) (fun _ _ _ _ _ => (qe_callB call_isi rfl B.isinstance_ boot_isinstance (qa_cons (qv 9) (qa_cons (qe_bltn rfl B.tuple_ boot_tuple (v := .ty "tuple") rfl) qa_nil))))) qa_nil)))))))) (qss_one (qs_ret qe_bl)) qss_nil) (qss_cons (qs_expr (qe_bm0 PySem.F.plainAttrs_list PySem.F.slot_list_clear PySem.F.type_list_clear mt_clear (qv 7))) (qss_cons (qs_set (i := 8) nd rfl (Or.inl rfl) (qe_fn c_p_crowded (hr.mono (by decide)) rfl (qa_cons (qv 2) (qa_cons (qv 4) (qa_cons (qv 5) qa_nil))))) (qss_cons (qs_if (QW.pt (qw_or (qt_cmpR (op_neU hu5) (qv 8) (qe_fn c_crowded (hr.mono (by decide)) rfl (qa_cons (qv 2) (qa_cons (qv 4) (qa_cons (qv 6) qa_nil)))) rfl) (qw_or1 (qt_cmpR (op_neU hu5) (qe_fn c_p_crowded (hr.mono (by decide)) rfl (qa_cons (qv 2) (qa_cons (qv 4) (qa_cons (qv 5) qa_nil)))) (qv 8) rfl)))) (qss_one (qs_ret qe_bl)) qss_nil) (qss_one (qs_ret (qe_cmpR (op_eqU hu5) (qe_fn c_p_wanted_at (hr.mono (by decide)) rfl (qa_cons (qv 4) (qa_cons (qv 5) qa_nil))) (qv 6) rfl))))))))))))))
end Bg
end
section
set_option Elab.async false
set_option linter.all false
set_option maxRecDepth 100000
set_option maxHeartbeats 4000000
namespace Bg
open PySem L2
theorem r_draw_tail {K : PySem.W.Frag} {st scr : Addr} {m : Int} {k : Nat} {ns : List Int} {c : Int} {H H2 : Hp} {Q : VK} {o4 o5 : Option V} {nx : St → Hp → Prop} (hk : k ≤ 1000000) (m0 : 0 < m)
    (q : ∀ (d : Int) (H' : Hp), 0 ≤ d → d < m → Stt K H' st (k + 1) → But st H H' → Q (.int d) H') (hS : H2 st = some (.lst [.ref scr, .int ((k : Int) + 1), .int c])) (hscr : ScrAt K H2 scr ns) (hns : ns.length ≤ 63) (hB : But st H H2) :
    t_draw_5 K { nx := nx, rt := Q } [some (.ref st), some (.int m), some (.ref scr), some (.int (k : Nat)), o4, o5] H2 := by
  have e1 : (((k + 1 : Nat) : Nat) : Int) = (k : Int) + 1 := by lia
  have S2 : Stt K H2 st (k + 1) := ⟨scr, ns, c, by rw [e1]; exact hS, hscr, hns⟩
  refine ⟨_, rfl, .inl ⟨_, _, rfl, rfl, .inr ⟨by decide, by decide⟩, .inl ⟨_, _, rfl, rfl, ?_⟩⟩⟩
  have rest : ∀ z : Int, t_draw_3 K { nx := nx, rt := Q } [some (.ref st), some (.int m), some (.ref scr), some (.int (k : Nat)), o4, some (.int z)] H2 := fun z => by
    have b1 : 0 ≤ z % 2147483629 := Int.emod_nonneg _ (by decide)
    have b2 : z % 2147483629 < 2147483629 := Int.emod_lt_of_pos _ (by decide)
    refine ⟨_, rfl, _, _, rfl, rfl, (by show (0 : Int) < 2147483629; decide), _, rfl, .inl ⟨_, _, rfl, rfl, .inl ⟨_, _, rfl, rfl, .inl ⟨by lia, by lia⟩, _, _, rfl, rfl, (by show (0 : Int) < 2147483629; decide), ?_⟩⟩⟩
    generalize hy : z % 2147483629 * ((k : Int) + 3) % 2147483629 = y
    have c1 : 0 ≤ y := by rw [← hy]; exact Int.emod_nonneg _ (by decide)
    have c2 : y < 2147483629 := by rw [← hy]; exact Int.emod_lt_of_pos _ (by decide)
    refine ⟨_, rfl, _, rfl, .inl ⟨_, _, rfl, rfl, .inl ⟨by lia, by lia⟩, _, _, rfl, rfl, (by show (0 : Int) < 2147483587; decide), ?_⟩⟩
    generalize hx : y * y % 2147483587 = x
    have d1 : 0 ≤ x := by rw [← hx]; exact Int.emod_nonneg _ (by decide)
    have d2 : x < 2147483587 := by rw [← hx]; exact Int.emod_lt_of_pos _ (by decide)
    refine ⟨_, rfl, _, rfl, .inl ⟨_, _, rfl, rfl, .inl ⟨by lia, by lia⟩, _, _, rfl, rfl, (by show (0 : Int) < 1999999973; decide), _, rfl, _, _, rfl, rfl, m0, ?_⟩⟩
    exact q _ H2 (Int.emod_nonneg _ (by lia)) (Int.emod_lt_of_pos _ m0) S2 hB
  refine ⟨_, rfl, _, _, rfl, .inl ⟨_, hscr.sq, rfl⟩, _, _, rfl, rfl, _, rfl, if_dec (fun hl => ?_) (fun _ => rest _)⟩
  rw [List.length_map] at hl
  have hlp : 0 < ns.length := by lia
  refine ⟨_, rfl, _, rfl, _, rfl, .inl ⟨_, _, rfl, rfl, .inr ⟨by decide, by decide⟩, _, rfl, _, _, rfl, .inl ⟨_, hscr.sq, rfl⟩, _, _, rfl, rfl, (by rw [List.length_map]; lia), ?_⟩⟩
  have i1 : 0 ≤ (k : Int) * 7 % ((ns.map V.int).length : Nat) := Int.emod_nonneg _ (by rw [List.length_map]; lia)
  have i2 : (k : Int) * 7 % ((ns.map V.int).length : Nat) < ((ns.map V.int).length : Nat) := Int.emod_lt_of_pos _ (by rw [List.length_map]; lia)
  rw [List.length_map] at i1 i2
  have i3 : ((k : Int) * 7 % (ns.length : Nat)).toNat < ns.length := by lia
  refine ixL hscr.sq (by rw [List.length_map]; exact i1) (v := .int ns[((k : Int) * 7 % (ns.length : Nat)).toNat]) (by simp only [List.length_map]; rw [List.getElem?_map, List.getElem?_eq_getElem i3]; rfl) ?_
  exact ⟨_, rfl, .inl ⟨_, _, rfl, rfl, .inl ⟨_, _, rfl, rfl, .inr ⟨by lia, by lia⟩, .inl ⟨_, _, rfl, rfl, rest _⟩⟩⟩⟩
theorem r_draw {K : PySem.W.Frag} {vs : List V} {H : Hp} {Q : VK} {E : XK} (h : sp_draw K vs H Q E) : t_draw K { nx := fun _ H' => Q .non H', rt := Q } (start N_draw vs) H := by
  obtain ⟨st, m, k, rfl, S, hk, m0, m1, q⟩ := h
  obtain ⟨scr, ns, c, hst, hscr, hns⟩ := S
  refine ⟨_, rfl, _, rfl, .inl ⟨st, _, rfl, SqL.of hst, fun p hp => ?_⟩⟩
  refine ⟨p, _, rfl, SqL.of upd_same, rfl, _, _, rfl, _, _, rfl, rfl, ?_⟩
  have np : st ≠ p := ne_of_none hst hp
  have B1 : But st H (upd H p (.lst (cutV [V.ref scr, V.int (k : Nat), V.int c] none (some 2)))) := (But.refl st H).new hp
  have h1 : (upd H p (.lst (cutV [V.ref scr, V.int (k : Nat), V.int c] none (some 2)))) st = some (.lst [.ref scr, .int (k : Nat), .int c]) := by rw [upd_ne np]; exact hst
  have s1 : ScrAt K (upd H p (.lst (cutV [V.ref scr, V.int (k : Nat), V.int c] none (some 2)))) scr ns := hscr.mono (.of_but B1 hst)
  generalize upd H p (.lst (cutV [V.ref scr, V.int (k : Nat), V.int c] none (some 2))) = H1 at B1 h1 s1 ⊢
  refine ⟨_, rfl, .inl ⟨_, _, rfl, rfl, _, rfl, setL h1 (by decide) (by show 1 < 3; decide) ?_⟩⟩
  have B2 : But st H (upd H1 st (.lst [.ref scr, .int ((k : Int) + 1), .int c])) := B1.trans .upd_at
  have h2 : (upd H1 st (.lst [.ref scr, .int ((k : Int) + 1), .int c])) st = some (.lst [.ref scr, .int ((k : Int) + 1), .int c]) := upd_same
  have s2 : ScrAt K (upd H1 st (.lst [.ref scr, .int ((k : Int) + 1), .int c])) scr ns := s1.mono (.of_but .upd_at h1)
  show t_draw_8 K _ [some (.ref st), some (.int m), some (.ref scr), some (.int (k : Nat)), none, none] (upd H1 st (.lst [.ref scr, .int ((k : Int) + 1), .int c]))
  generalize upd H1 st (.lst [.ref scr, .int ((k : Int) + 1), .int c]) = H2 at B2 h2 s2 ⊢
  have tail := @r_draw_tail K st scr m k ns c H H2 Q none none (fun _ H' => Q .non H') hk m0 q h2 s2 hns B2
  have dig : ∀ (c' : Int) (H3 : Hp), H3 st = some (.lst [.ref scr, .int ((k : Int) + 1), .int c']) → ScrAt K H3 scr ns → But st H H3 →
      t_draw_7 K { nx := t_draw_5 K { nx := fun _ H' => Q .non H', rt := Q }, rt := Q } [some (.ref st), some (.int m), some (.ref scr), some (.int (k : Nat)), none, none] H3 := fun c' H3 h3 s3 B3 => by
    refine ⟨_, rfl, ixL (SqL.of h3) (by decide) rfl ?_⟩
    refine ⟨_, rfl, (by show 2 ≤ sizeLine; decide), fun t ht => ⟨t, _, rfl, .inr (SqT.of upd_same), rfl, rfl, _, rfl, ?_⟩⟩
    have n3 : st ≠ t := ne_of_none h3 ht
    have B4 : But st H (upd H3 t (.tup [.int 0, .int (-1)])) := B3.new ht
    have h4 : (upd H3 t (.tup [.int 0, .int (-1)])) st = some (.lst [.ref scr, .int ((k : Int) + 1), .int c']) := by rw [upd_ne n3]; exact h3
    have s4 : ScrAt K (upd H3 t (.tup [.int 0, .int (-1)])) scr ns := s3.mono (.of_same ((Same.refl H3).new ht))
    refine if_bl (fun _ => ?_) (fun _ => ?_)
    · -- _law_state[2], _law_digit = divmod(_law_state[2], _law_many)
      refine ⟨_, rfl, .inl ⟨st, _, _, _, rfl, rfl, SqL.of h4, atI_of (by decide) rfl, _, rfl, _, _, rfl, ⟨m0, m1⟩, fun p2 hp2 => ?_⟩⟩
      have n4 : st ≠ p2 := ne_of_none h4 hp2
      refine ⟨p2, _, rfl, SqT.of upd_same, rfl, _, _, rfl, _, rfl, setL (by rw [upd_ne n4]; exact h4) (by decide) (by show 2 < 3; decide) ?_⟩
      refine ⟨_, _, rfl, rfl, _, rfl, ?_⟩
      have B5 := (B4.new (o := .tup [.int (c' / m), .int (c' % m)]) hp2)
      have s5 : ScrAt K (upd (upd H3 t (.tup [.int 0, .int (-1)])) p2 (.tup [.int (c' / m), .int (c' % m)])) scr ns := s4.mono (.of_same ((Same.refl _).new hp2))
      have h5 : (upd (upd H3 t (.tup [.int 0, .int (-1)])) p2 (.tup [.int (c' / m), .int (c' % m)])) st = some (.lst [.ref scr, .int ((k : Int) + 1), .int c']) := by rw [upd_ne n4]; exact h4
      refine q _ _ (Int.emod_nonneg _ (by lia)) (Int.emod_lt_of_pos _ m0) ⟨scr, ns, c' / m, ?_, s5.mono (.of_but .upd_at h5), hns⟩ (B5.trans .upd_at)
      have e1 : (((k + 1 : Nat) : Nat) : Int) = (k : Int) + 1 := by lia
      rw [upd_same, e1]
      rfl
    · exact r_draw_tail hk m0 q h4 s4 hns B4
  have e1 : (((k + 1 : Nat) : Nat) : Int) = (k : Int) + 1 := by lia
  have elif : tIfS (tTest (tOp rLt2 (tVar 3) (tCB (rLen K) (tCons (tVar 2) tNil)))) (tRet (tOp rMod2 (tOp (rIx K) (tVar 2) (tVar 3)) (tVar 1))) tNext
      { nx := t_draw_5 K { nx := fun _ H' => Q V.non H', rt := Q }, rt := Q } [some (V.ref st), some (V.int m), some (V.ref scr), some (V.int (k : Nat)), none, none] H2 := by
    refine ⟨_, rfl, _, rfl, _, _, rfl, .inl ⟨_, s2.sq, rfl⟩, _, _, rfl, rfl, _, rfl, if_dec (fun hlt => ?_) (fun _ => tail)⟩
    rw [List.length_map] at hlt
    have j2 : ((k : Nat) : Int).toNat < ns.length := by lia
    refine ⟨_, rfl, _, rfl, ixL s2.sq (by lia) (v := .int ns[((k : Nat) : Int).toNat]) (by rw [List.getElem?_map, List.getElem?_eq_getElem j2]; rfl) ?_⟩
    refine ⟨_, rfl, _, _, rfl, rfl, m0, ?_⟩
    exact q _ H2 (Int.emod_nonneg _ (by lia)) (Int.emod_lt_of_pos _ m0) ⟨scr, ns, c, by rw [e1]; exact h2, s2, hns⟩ B2
  refine ⟨_, rfl, _, _, rfl, rfl, ⟨by decide, by decide⟩, .inl ⟨_, _, rfl, rfl, _, rfl, _, _, rfl, .inl ⟨_, s2.sq, rfl⟩, _, _, rfl, rfl, _, rfl, if_dec (fun hlt => ?_) (fun _ => ?_)⟩⟩
  · rw [List.length_map] at hlt
    have hlp : 0 < ns.length := by lia
    have i0 : (ns.map V.int)[(0 : Int).toNat]? = some (.int ns[0]) := by
      show (ns.map V.int)[0]? = _
      rw [List.getElem?_map, List.getElem?_eq_getElem hlp]; rfl
    refine ⟨_, rfl, ixL s2.sq (by decide) i0 ⟨_, _, rfl, rfl, (by show (0 : Int) < 2; decide), .inl ⟨rfl, _, rfl, if_dec (fun _ => ?_) (fun _ => ?_)⟩⟩⟩
    · -- if _law_k % 12 == 0
      refine ⟨_, rfl, _, _, rfl, rfl, (by show (0 : Int) < 12; decide), .inl ⟨rfl, _, rfl, if_dec (fun _ => ?_) (fun _ => dig c H2 h2 s2 B2)⟩⟩
      have j2 : ((k : Int) / 12 + 1).toNat < ns.length := by lia
      refine ⟨_, rfl, _, rfl, _, _, rfl, rfl, ⟨by decide, by decide⟩, .inl ⟨_, _, rfl, rfl, ixL s2.sq (by lia) (v := .int ns[((k : Int) / 12 + 1).toNat]) (by rw [List.getElem?_map, List.getElem?_eq_getElem j2]; rfl) ?_⟩⟩
      refine ⟨_, rfl, setL h2 (by decide) (by show 2 < 3; decide) ?_⟩
      exact dig _ _ upd_same (s2.mono (.of_but .upd_at h2)) (B2.trans .upd_at)
    · exact elif
  · exact iteF elif
end Bg
end
section
set_option Elab.async false
set_option linter.all false
set_option maxRecDepth 100000
set_option maxHeartbeats 4000000
namespace Bg
open PySem L2
end Bg
end
section
set_option Elab.async false
set_option linter.all false
set_option maxRecDepth 100000
set_option maxHeartbeats 4000000
namespace Bg
open PySem L2
end Bg
end
section
set_option Elab.async false
set_option linter.all false
set_option maxRecDepth 100000
set_option maxHeartbeats 4000000
namespace Bg
open PySem L2
end Bg
end
section
set_option Elab.async false
set_option linter.all false
set_option maxRecDepth 100000
set_option maxHeartbeats 4000000
namespace Bg
open PySem PySem.Spec PyProof.Rows L2
end Bg
end
section
set_option Elab.async false
set_option linter.all false
set_option maxRecDepth 100000
set_option maxHeartbeats 4000000
namespace Bg
open PySem PySem.Spec PyProof.Rows L2
end Bg
end
section
set_option Elab.async false
set_option linter.all false
set_option maxRecDepth 100000
set_option maxHeartbeats 4000000
namespace Bg
open PySem PySem.Spec PyProof.Rows L2
end Bg
end
section
set_option Elab.async false
set_option linter.all false
set_option maxRecDepth 100000
set_option maxHeartbeats 4000000
namespace Bg
open PySem L2
end Bg
end
section
set_option Elab.async false
set_option linter.all false
set_option maxRecDepth 100000
set_option maxHeartbeats 4000000
namespace Bg
open PySem L2
end Bg
end
section
set_option Elab.async false
set_option linter.all false
set_option maxRecDepth 100000
set_option maxHeartbeats 4000000
namespace Bg
open PySem L2
end Bg
end
section
set_option Elab.async false
set_option linter.all false
set_option maxRecDepth 100000
set_option maxHeartbeats 4000000
namespace Bg
open PySem L2
end Bg
end
section
set_option Elab.async false
set_option linter.all false
set_option maxRecDepth 100000
set_option maxHeartbeats 4000000
namespace Bg
open PySem L2
end Bg
end
section
set_option Elab.async false
set_option linter.all false
set_option maxRecDepth 100000
set_option maxHeartbeats 4000000
namespace Bg
open PySem L2
end Bg
end
section
set_option Elab.async false
set_option linter.all false
set_option maxRecDepth 100000
set_option maxHeartbeats 4000000
namespace Bg
open PySem L2
end Bg
end
section
set_option Elab.async false
set_option linter.all false
set_option maxRecDepth 100000
set_option maxHeartbeats 4000000
namespace Bg
open PySem L2
end Bg
end
section
set_option Elab.async false
set_option linter.all false
set_option maxRecDepth 100000
set_option maxHeartbeats 4000000
namespace Bg
open PySem L2
theorem strs_at {ys : List Str} {i : Nat} {x : V} (hx : (ys.map V.str)[i]? = some x) : ∃ y : Str, ys[i]? = some y ∧ x = .str y := by
  rw [List.getElem?_map] at hx
  cases e : ys[i]? with
  | none => rw [e] at hx; cases hx
  | some n => rw [e] at hx; exact ⟨n, rfl, (Option.some.inj hx).symm⟩
end Bg
end
section
set_option Elab.async false
set_option linter.all false
set_option maxRecDepth 100000
set_option maxHeartbeats 4000000
namespace Bg
open PySem L2
theorem optV_scal (y : Str) (m : Option Str) : scal (.str y) (optV m) = true := by cases m <;> rfl
theorem optV_ne (y : Str) (m : Option Str) : decide (V.str y = optV m) = decide (m = some y) := by
  cases m with
  | none => simp [optV]
  | some z =>
    by_cases e : z = y
    · subst e; simp [optV]
    · have : y ≠ z := fun h => e h.symm
      simp [optV, e, this]
theorem r_p_without {K : PySem.W.Frag} {vs : List V} {H : Hp} {Q : VK} {E : XK} (h : sp_p_without K vs H Q E) : t_p_without K { nx := fun _ H' => Q .non H', rt := Q } (start N_p_without vs) H := by
  obtain ⟨t, m, ss, rfl, ht, hl, q⟩ := h
  refine .inr ⟨_, rfl, t, rfl, ⟨_, SqT.of ht⟩, fun D nD => ?_⟩
  refine comp_tup (xs := ss.map V.str) (fun i σ' H' => ∃ o, σ' = [some (.ref t), some (optV m), o] ∧ H' D = some (.lst (((ss.take i).filter fun y => !decide (m = some y)).map V.str)) ∧ Same H H') ?_ ?_ ?_ ?_
  · exact ⟨none, rfl, upd_same, (Same.refl H).new nD⟩
  · rintro i σ' H' _ ⟨o, _, _, s⟩
    exact SqT.of (s _ _ ht)
  · rintro i x σ' H1 hx ⟨o, rfl, hD, s⟩
    obtain ⟨y, hy, rfl⟩ := strs_at hx
    have fl : ((ss.take i).filter fun y => !decide (m = some y)).length ≤ ss.length := Nat.le_trans (List.length_filter_le _ _) (by rw [List.length_take]; exact Nat.min_le_right _ _)
    refine ⟨_, rfl, _, rfl, .inl ⟨optV_scal y m, _, rfl, ?_⟩⟩
    have tk : (ss.take (i + 1)).filter (fun y => !decide (m = some y)) = ((ss.take i).filter fun y => !decide (m = some y)) ++ if (!decide (m = some y)) = true then [y] else [] := by
      rw [List.take_succ, hy, List.filter_append]
      congr 1
      show [y].filter _ = _
      rw [List.filter_cons]
      split <;> simp_all
    rw [optV_ne]
    refine if_not (fun hs => ?_) (fun hs => ?_)
    · refine ⟨_, rfl, _, hD, smallL (by rw [List.length_map]; lia), _, rfl, ?_, fun b u e => by rw [upd_ne (ne_of_none e nD)]; exact s b u e⟩
      rw [upd_same, tk, decide_eq_false hs, List.map_append]; rfl
    · refine ⟨_, rfl, ?_, s⟩
      rw [tk, decide_eq_true hs]
      simpa using hD
  · rintro σ' H1 ⟨o, _, hD, s⟩
    rw [List.length_map, List.take_length] at hD
    exact ⟨D, _, rfl, .inl ⟨SqL.of hD, fun p np => q p _ upd_same (s.new np)⟩⟩
end Bg
end
section
set_option Elab.async false
set_option linter.all false
set_option maxRecDepth 100000
set_option maxHeartbeats 4000000
namespace Bg
open PySem L2
theorem slW_from {K : PySem.W.Frag} {H : Hp} {wp : Addr} {xs : List V} {k : Nat} {Q : VK} (hwp : H wp = some (.tup xs)) (hk : k ≤ xs.length) (h : ∀ (p : Addr) (H' : Hp), H' p = some (.tup (xs.drop k)) → Same H H' → Q (.ref p) H') :
    rSlW K (.ref wp) (some (k : Int)) none H Q := by
  by_cases c : k = 0
  · subst c
    refine .inl ⟨wp, xs, rfl, SqT.of hwp, ⟨?_, ?_⟩, h wp H (by rw [List.drop_zero]; exact hwp) (Same.refl H)⟩
    · rw [HT.sIx_nat]; simp
    · rw [HT.sIx_none]
  · refine .inr (.inr ⟨wp, xs, rfl, SqT.of hwp, fun z => ?_, fun p np => ?_⟩)
    · have := z.1
      rw [HT.sIx_nat] at this
      lia
    · rw [cut_drop]
      exact h p _ upd_same ((Same.refl H).new np)
theorem inS {K : PySem.W.Frag} {H : Hp} {p : Addr} {y : Str} {ls : List Str} {Q : VK} (hp : H p = some (.tup (ls.map V.str))) (h : Q (.bl (decide (y ∈ ls))) H) : rIn K false (.str y) (.ref p) H Q := by
  refine ⟨p, _, rfl, .inr (SqT.of hp), rfl, flat_strs ls, ?_⟩
  rw [inV_strs]
  exact h
theorem r_is_wanted {K : PySem.W.Frag} {vs : List V} {H : Hp} {Q : VK} {E : XK} (h : sp_is_wanted K vs H Q E) : t_is_wanted K { nx := fun _ H' => Q .non H', rt := Q } (start N_is_wanted vs) H := by
  obtain ⟨wp, lt, k, y, ws, last, rfl, ⟨⟨wvs, hwp, hA⟩, hlt⟩, hk, q⟩ := h
  have wl : wvs.length = ws.length := hA.len
  refine .inr ⟨_, rfl, _, rfl, _, rfl, slW_from hwp (by lia) fun p H1 hp s1 => ⟨p, rfl, ⟨_, SqT.of hp⟩, for_tup (xs := wvs.drop k) (fun i σ' H' => ∃ o4 o5, σ' = [some (.ref wp), some (.ref lt), some (.int (k : Nat)), some (.str y), o4, o5] ∧ wn last (ws.drop k) y = wn last (ws.drop (k + i)) y ∧ Same H1 H') ⟨_, _, rfl, rfl, Same.refl _⟩ ?_ ?_ ?_⟩⟩
  · rintro i σ' H' _ ⟨_, _, _, _, s⟩
    exact SqT.of (s _ _ hp)
  · rintro i x σ' H2 hx ⟨o4, o5, rfl, e, s2⟩
    rw [List.getElem?_drop] at hx
    obtain ⟨w, ew, a, t, rfl, ha, ht⟩ := hA.of_v hx
    have S := s1.trans s2
    have ed : ws.drop (k + i) = w :: ws.drop (k + (i + 1)) := by
      have hlt' : k + i < ws.length := (List.getElem?_eq_some_iff.mp ew).1
      rw [List.drop_eq_getElem_cons hlt', ← (List.getElem?_eq_some_iff.mp ew).2]
      rfl
    rw [ed] at e
    have e' : wn last (ws.drop k) y = (decide (y ∈ w.ins) || (!decide (w.out = some y) && wn last (ws.drop (k + (i + 1))) y)) := e
    refine ⟨a, _, rfl, SqT.of (S _ _ ha), rfl, _, _, rfl, _, _, rfl, rfl, ?_⟩
    show t_is_wanted_3 K _ [some (.ref wp), some (.ref lt), some (.int (k : Nat)), some (.str y), some (.ref t), some (optV w.out)] H2
    refine ⟨_, rfl, _, rfl, inS (S _ _ ht) ⟨_, rfl, if_dec (fun c => ?_) (fun c => ?_)⟩⟩
    · have := q H2 S
      rw [e', decide_eq_true c] at this
      exact this
    · rw [decide_eq_false c, Bool.false_or] at e'
      refine ⟨_, rfl, _, rfl, .inr (.inl ⟨by cases w.out <;> rfl, _, rfl, if_dec (fun d => ?_) (fun d => ?_)⟩)⟩
      · have := q H2 S
        have d' : w.out = some y := by cases ho : w.out with
          | none => rw [ho] at d; cases d
          | some z => rw [ho] at d; injection d with d; rw [d]
        rw [e', decide_eq_true d'] at this
        exact this
      · have d' : w.out ≠ some y := fun z => d (by rw [z]; rfl)
        rw [decide_eq_false d', Bool.not_false, Bool.true_and] at e'
        exact ⟨_, _, rfl, e', s2⟩
  · rintro σ' H2 ⟨o4, o5, rfl, e, s2⟩
    have S := s1.trans s2
    rw [List.length_drop, show k + (wvs.length - k) = ws.length by lia, List.drop_length] at e
    refine ⟨_, rfl, _, rfl, inS (S _ _ hlt) ?_⟩
    have := q H2 S
    rw [e] at this
    exact this
end Bg
end
section
set_option Elab.async false
set_option linter.all false
set_option maxRecDepth 100000
set_option maxHeartbeats 4000000
namespace Bg
open PySem L2
theorem catW {K : PySem.W.Frag} {H : Hp} {a b : Addr} {xs ys : List V} {Q : VK} (ha : H a = some (.tup xs)) (hb : H b = some (.tup ys)) (hl : xs.length + ys.length ≤ sizeLine) (h : ∀ (p : Addr) (H' : Hp), H' p = some (.tup (xs ++ ys)) → Same H H' → Q (.ref p) H') :
    rPlusW K (.ref a) (.ref b) H Q := by
  by_cases c : xs = []
  · subst c
    exact .inl ⟨a, b, ys, rfl, rfl, SqT.of ha, SqT.of hb, h b H hb (Same.refl H)⟩
  · refine .inr (.inr (.inr (.inr ⟨a, b, xs, ys, rfl, rfl, SqT.of ha, SqT.of hb, c, hl, fun e => ?_, fun _ p np => h p _ upd_same ((Same.refl H).new np)⟩)))
    subst e
    exact h a H (by rw [List.append_nil]; exact ha) (Same.refl H)
theorem wn_in {dd last : List Str} (hl : ∀ y ∈ last, y ∈ dd) : ∀ {ws : List Wk}, (∀ w ∈ ws, ∀ y ∈ w.ins, y ∈ dd) → ∀ {y : Str}, wn last ws y = true → y ∈ dd
  | [], _, y, h => hl y (by simpa [wn] using h)
  | w :: r, hw, y, h => by
    have h' : (decide (y ∈ w.ins) || (!decide (w.out = some y) && wn last r y)) = true := h
    rw [Bool.or_eq_true, Bool.and_eq_true, decide_eq_true_eq] at h'
    rcases h' with h' | h'
    · exact hw w List.mem_cons_self y h'
    · exact wn_in hl (fun w' m => hw w' (List.mem_cons_of_mem _ m)) h'.2
theorem AllAt.rev {α : Type} {R : V → α → Prop} {vs : List V} {rs : List α} (h : AllAt R vs rs) : AllAt R vs.reverse rs.reverse := by
  refine ⟨by rw [List.length_reverse, List.length_reverse]; exact h.len, fun i v r a b => ?_⟩
  have l1 : i < vs.length := by have := (List.getElem?_eq_some_iff.mp a).1; rwa [List.length_reverse] at this
  have l2 : i < rs.length := by rw [← h.len]; exact l1
  rw [List.getElem?_reverse l1] at a
  rw [List.getElem?_reverse l2, ← h.len] at b
  exact h.at_ _ v r a b
theorem TxS.mono {H H' : Hp} {v : V} {ss : List Str} (h : TxS H v ss) (s : ∀ b xs, H b = some (.tup xs) → H' b = some (.tup xs)) : TxS H' v ss := by
  obtain ⟨p, e, a⟩ := h
  exact ⟨p, e, s _ _ a⟩
structure WAt (H : Hp) (pl : Addr) (last : List Str) (ws : List Wk) (H' : Hp) (i : Nat) (t : Addr) (us : List Str) (tvs : List V) (pss : List (List Str)) : Prop where
  ht : H' t = some (.tup (us.map V.str))
  ok : PtOk last ws (ws.length - i) us
  hp : H' pl = some (.lst tvs)
  all : AllAt (TxS H') tvs pss
  len : pss.length = i + 1
  oks : ∀ (j : Nat) ss, pss[j]? = some ss → PtOk last ws (ws.length - j) ss
  sm : Same H H'
theorem r_p_wanted_at {K : PySem.W.Frag} {vs : List V} {H : Hp} {Q : VK} {E : XK} (h : sp_p_wanted_at K vs H Q E) : t_p_wanted_at K { nx := fun _ H' => Q .non H', rt := Q } (start N_p_wanted_at vs) H := by
  obtain ⟨wp, lt, ws, last, dd, rfl, ⟨⟨wvs, hwp, hA⟩, hlt⟩, F, q⟩ := h
  have wl : wvs.length = ws.length := hA.len
  have w100 := F.w100
  have d64 := F.d64
  have win : ∀ (k : Nat) {y : Str}, wn last (ws.drop k) y = true → y ∈ dd := fun k y h => wn_in F.lst (fun w m => (F.ins w (List.mem_of_mem_drop m)).2) h
  refine ⟨_, rfl, lt, true, last, dd, rfl, SqT.of hlt, Nat.le_trans F.l100 (by decide), F.lst, F.d64, fun l us nl und umem usrt => ⟨l, _, rfl, .inl ⟨SqL.of upd_same, fun t nt => ?_⟩⟩⟩
  have s1 : Same H (upd (upd H l (.lst (us.map V.str))) t (.tup (us.map V.str))) := ((Same.refl H).new nl).new nt
  have ht1 : (upd (upd H l (.lst (us.map V.str))) t (.tup (us.map V.str))) t = some (.tup (us.map V.str)) := upd_same
  show t_p_wanted_at_5 K _ [some (.ref wp), some (.ref lt), some (.ref t), none, none] _
  generalize upd (upd H l (.lst (us.map V.str))) t (.tup (us.map V.str)) = H1 at s1 ht1 ⊢
  refine ⟨_, rfl, (by show 1 ≤ sizeLine; decide), fun pl npl => ?_⟩
  have s2 : Same H (upd H1 pl (.lst [.ref t])) := s1.new npl
  have ht2 : upd H1 pl (.lst [.ref t]) t = some (.tup (us.map V.str)) := by rw [upd_ne (ne_of_none ht1 npl)]; exact ht1
  have hp2 : upd H1 pl (.lst [.ref t]) pl = some (.lst [.ref t]) := upd_same
  have Hpl : H pl = none := by
    cases ee : H pl with
    | none => rfl
    | some u => rw [s1 _ _ ee] at npl; cases npl
  show t_p_wanted_at_4 K _ [some (.ref wp), some (.ref lt), some (.ref t), some (.ref pl), none] _
  generalize upd H1 pl (.lst [.ref t]) = H2 at s2 ht2 hp2 ⊢
  have ok0 : PtOk last ws ws.length us := ⟨sorted_pw usrt, und, fun y => by rw [umem, List.drop_length]; simp [wn]⟩
  refine ⟨_, rfl, wp, wvs, rfl, SqT.of (s2 _ _ hwp), for_rev (xs := wvs) (fun i σ' H' => ∃ (t : Addr) (o4 : Option V) (us : List Str) (tvs : List V) (pss : List (List Str)), σ' = [some (.ref wp), some (.ref lt), some (.ref t), some (.ref pl), o4] ∧ WAt H pl last ws H' i t us tvs pss)
    ⟨t, none, us, [.ref t], [us], rfl, ht2, ok0, hp2, ⟨rfl, fun i v r a b => ?_⟩, rfl, fun j ss e => ?_, s2⟩ ?_ ?_ ?_⟩
  · cases i with
    | zero => cases a; cases b; exact ⟨t, rfl, ht2⟩
    | succ n => simp at a
  · cases j with
    | zero => cases e; exact ok0
    | succ n => simp at e
  · rintro i σ' H' _ ⟨_, _, _, _, _, _, W⟩
    exact SqT.of (W.sm _ _ hwp)
  · rintro i x σ' H3 hx ⟨t, o4, us, tvs, pss, rfl, W⟩
    have ilt : i < wvs.length := by have := (List.getElem?_eq_some_iff.mp hx).1; rwa [List.length_reverse] at this
    rw [List.getElem?_reverse ilt] at hx
    obtain ⟨w, ew, a, ti, rfl, ha, hti⟩ := hA.of_v hx
    have ed : ws.drop (ws.length - (i + 1)) = w :: ws.drop (ws.length - i) := by
      rw [show ws.length - (i + 1) = wvs.length - 1 - i by lia]
      rw [List.drop_eq_getElem_cons (List.getElem?_eq_some_iff.mp ew).1, (List.getElem?_eq_some_iff.mp ew).2, show wvs.length - 1 - i + 1 = ws.length - i by lia]
    have ul : us.length < 64 := Nat.lt_of_le_of_lt (len_in W.ok.nd fun y hy => win _ ((W.ok.mem y).mp hy)) d64
    have S3 := W.sm
    obtain ⟨il, iin⟩ := F.ins w (List.mem_of_getElem? ew)
    show t_p_wanted_at_3 K _ [some (.ref wp), some (.ref lt), some (.ref t), some (.ref pl), some (.ref a)] H3
    refine ⟨_, rfl, _, rfl, ixT (S3 _ _ ha) (by decide) rfl ⟨t, w.out, us, rfl, W.ht, by lia, fun p H4 hp4 s4 => ⟨_, rfl, ixT (s4 _ _ (S3 _ _ ha)) (by decide) rfl ⟨ti, _, rfl, .inr ⟨SqT.of (s4 _ _ (S3 _ _ hti)), ?_⟩⟩⟩⟩⟩
    have fl : (us.filter fun y => !decide (w.out = some y)).length ≤ us.length := List.length_filter_le _ _
    refine catW hp4 (s4 _ _ (S3 _ _ hti)) (Nat.le_of_lt (smallL (by rw [List.length_map, List.length_map]; lia))) fun p5 H5 hp5 s5 => ?_
    rw [← List.map_append] at hp5
    refine ⟨p5, true, _, dd, rfl, SqT.of hp5, by rw [List.length_append]; lia, fun y hy => ?_, d64, fun l us' nl und umem usrt => ⟨l, _, rfl, .inl ⟨SqL.of upd_same, fun t' nt => ?_⟩⟩⟩
    · rcases List.mem_append.mp hy with hy | hy
      · exact win _ ((W.ok.mem y).mp (List.mem_filter.mp hy).1)
      · exact iin y hy
    have s6 : Same H3 (upd (upd H5 l (.lst (us'.map V.str))) t' (.tup (us'.map V.str))) := (((s4.trans s5)).new nl).new nt
    have ht6 : (upd (upd H5 l (.lst (us'.map V.str))) t' (.tup (us'.map V.str))) t' = some (.tup (us'.map V.str)) := upd_same
    show t_p_wanted_at_2 K _ [some (.ref wp), some (.ref lt), some (.ref t'), some (.ref pl), some (.ref a)] _
    generalize upd (upd H5 l (.lst (us'.map V.str))) t' (.tup (us'.map V.str)) = H6 at s6 ht6 ⊢
    have hpl6 := s6 _ _ W.hp
    have tl : tvs.length = i + 1 := by rw [W.all.len, W.len]
    have ok' : PtOk last ws (ws.length - (i + 1)) us' := ⟨sorted_pw usrt, und, fun y => by
      rw [umem, List.mem_append, List.mem_filter, W.ok.mem, ed]
      show _ ↔ (decide (y ∈ w.ins) || (!decide (w.out = some y) && wn last (ws.drop (ws.length - i)) y)) = true
      rw [Bool.or_eq_true, Bool.and_eq_true, decide_eq_true_eq]
      exact ⟨fun h => h.elim (fun h => .inr ⟨h.2, h.1⟩) .inl, fun h => h.elim .inr fun h => .inl ⟨h.2, h.1⟩⟩⟩
    refine ⟨_, rfl, .inl ⟨rfl, _, SqL.of hpl6⟩, _, rfl, pl, tvs, _, rfl, rfl, hpl6, smallL (by lia), t', _, us', tvs ++ [.ref t'], pss ++ [us'], rfl, ?_⟩
    have up : ∀ b xs, H6 b = some (.tup xs) → upd H6 pl (.lst (tvs ++ [.ref t'])) b = some (.tup xs) := fun b xs e => by
      rw [upd_ne (ne_of e hpl6 (by intro z; cases z))]; exact e
    refine ⟨up _ _ ht6, ok', upd_same, ⟨by rw [List.length_append, List.length_append, W.all.len]; rfl, fun j v r e1 e2 => ?_⟩, by rw [List.length_append, W.len]; rfl, fun j ss e => ?_, fun b u e => by rw [upd_ne (ne_of_none e Hpl)]; exact s6 _ _ (S3 b u e)⟩
    · rcases Nat.lt_or_ge j tvs.length with hj | hj
      · rw [List.getElem?_append_left hj] at e1
        rw [List.getElem?_append_left (by rw [← W.all.len]; exact hj)] at e2
        exact (W.all.at_ j v r e1 e2).mono fun b xs e => up _ _ (s6 _ _ e)
      · rw [List.getElem?_append_right hj] at e1
        rw [List.getElem?_append_right (by rw [← W.all.len]; exact hj), ← W.all.len] at e2
        cases ej : j - tvs.length with
        | zero => rw [ej] at e1 e2; cases e1; cases e2; exact ⟨t', rfl, up _ _ ht6⟩
        | succ n => rw [ej] at e1; simp at e1
    · rcases Nat.lt_or_ge j pss.length with hj | hj
      · rw [List.getElem?_append_left hj] at e
        exact W.oks j ss e
      · rw [List.getElem?_append_right hj] at e
        cases ej : j - pss.length with
        | zero =>
          rw [ej] at e; cases e
          have : j = i + 1 := by have := W.len; lia
          rw [this]; exact ok'
        | succ n => rw [ej] at e; simp at e
  · rintro σ' H3 ⟨t, o4, us, tvs, pss, rfl, W⟩
    refine ⟨_, rfl, pl, tvs, rfl, SqL.of W.hp, fun l nl => ?_⟩
    have up : ∀ b xs, H3 b = some (.tup xs) → upd H3 l (.lst tvs.reverse) b = some (.tup xs) := fun b xs e => by
      rw [upd_ne (ne_of_none e nl)]; exact e
    have Hl : H l = none := by
      cases ee : H l with
      | none => rfl
      | some u => rw [W.sm _ _ ee] at nl; cases nl
    refine q l tvs.reverse pss.reverse _ Hl upd_same (W.all.rev.imp fun _ _ z => z.mono up) ⟨by rw [List.length_reverse, W.len, wl], fun k ss e => ?_⟩ (W.sm.new nl)
    have lk : k < pss.length := by have := (List.getElem?_eq_some_iff.mp e).1; rwa [List.length_reverse] at this
    rw [List.getElem?_reverse lk] at e
    have := W.oks _ ss e
    have hl := W.len
    rw [show ws.length - (pss.length - 1 - k) = k by lia] at this
    exact this
end Bg
end
section
set_option Elab.async false
set_option linter.all false
set_option maxRecDepth 100000
set_option maxHeartbeats 4000000
namespace Bg
open PySem L2
theorem crw_step (pl : Int) (ws : List Wk) (pss : List (List Str)) (f k : Nat) : crw pl ws pss (f + 1) k =
    if pl < ((pss.getD k []).length : Int) then some (("ahead" : Str), k, pss.getD k []) else
    match (ws[k]?).bind (·.out) with
    | some y => if pl - 1 < (((pss.getD (k + 1) []).filter fun z => !decide (some y = some z)).length : Int) then some (("behind" : Str), k, (pss.getD (k + 1) []).filter fun z => !decide (some y = some z)) else crw pl ws pss f (k + 1)
    | none => crw pl ws pss f (k + 1) := rfl
theorem getD_of {pss : List (List Str)} {k : Nat} {ss : List Str} (h : pss[k]? = some ss) : pss.getD k [] = ss := by
  rw [List.getD_eq_getElem?_getD, h]; rfl
theorem r_p_crowded {K : PySem.W.Frag} {vs : List V} {H : Hp} {Q : VK} {E : XK} (h : sp_p_crowded K vs H Q E) : t_p_crowded K { nx := fun _ H' => Q .non H', rt := Q } (start N_p_crowded vs) H := by
  obtain ⟨pl, wp, lt, ws, last, dd, pss, rfl, WA, F, P, q⟩ := h
  have w100 := F.w100
  generalize hR0 : crw pl ws pss (ws.length + 1) 0 = R at q
  refine ⟨_, rfl, _, rfl, wp, lt, ws, last, dd, rfl, WA, F, fun l tvs pss' H1 nl hl hA P' s1 => ?_⟩
  cases P'.one P
  obtain ⟨⟨wvs, hwp, hW⟩, hlt⟩ := WA
  have wl : wvs.length = ws.length := hW.len
  have few : ∀ (k : Nat) ss, pss[k]? = some ss → ss.length < 64 := fun k ss e => Nat.lt_of_le_of_lt (len_in (P.at_ k ss e).nd fun y hy => wn_in F.lst (fun w m => (F.ins w (List.mem_of_mem_drop m)).2) (((P.at_ k ss e).mem y).mp hy)) F.d64
  show t_p_crowded_5 K _ [some (.int pl), some (.ref wp), some (.ref lt), some (.ref l), none, none, none] H1
  refine ⟨_, rfl, l, rfl, ⟨_, SqL.of hl⟩, for_enum (xs := tvs) (fun i σ' H' => ∃ o4 o5 o6, σ' = [some (.int pl), some (.ref wp), some (.ref lt), some (.ref l), o4, o5, o6] ∧ R = crw pl ws pss (ws.length + 1 - i) i ∧ Same H1 H') ⟨_, _, _, rfl, hR0.symm, Same.refl _⟩ ?_ ?_ ?_⟩
  · rintro i σ' H' _ ⟨_, _, _, _, _, s⟩
    exact SqL.of (s _ _ hl)
  · rintro i x σ' H2 p hx np ⟨o4, o5, o6, rfl, e, s2⟩
    obtain ⟨ss, ess, t, rfl, ht⟩ := hA.of_v hx
    have ilt : i < pss.length := (List.getElem?_eq_some_iff.mp ess).1
    have plen := P.len
    have s3 : Same H1 (upd H2 p (.tup [.int (i : Nat), .ref t])) := s2.new np
    have hp3 : upd H2 p (.tup [.int (i : Nat), .ref t]) p = some (.tup [.int (i : Nat), .ref t]) := upd_same
    generalize upd H2 p (.tup [.int (i : Nat), .ref t]) = H3 at s3 hp3 ⊢
    refine ⟨p, _, rfl, SqT.of hp3, rfl, _, _, rfl, _, _, rfl, rfl, ?_⟩
    have S3 := s1.trans s3
    rw [show ws.length + 1 - i = (ws.length - i) + 1 by lia, crw_step, getD_of ess] at e
    show t_p_crowded_4 K _ [some (.int pl), some (.ref wp), some (.ref lt), some (.ref l), some (.int (i : Nat)), some (.ref t), o6] H3
    refine ⟨_, rfl, _, _, rfl, .inr ⟨_, SqT.of (s3 _ _ ht), rfl⟩, _, rfl, _, _, rfl, rfl, _, rfl, if_dec (fun c => ?_) (fun c => ?_)⟩
    · rw [List.length_map] at c
      rw [if_pos c] at e
      refine ⟨_, rfl, _, rfl, (by show 3 ≤ sizeLine; decide), fun r nr => q _ _ ?_ (S3.new nr)⟩
      rw [e]
      exact ⟨r, t, rfl, upd_same, by rw [upd_ne (ne_of_none (s3 _ _ ht) nr)]; exact s3 _ _ ht⟩
    · rw [List.length_map] at c
      rw [if_neg c] at e
      refine ⟨_, rfl, _, rfl, _, _, rfl, .inr ⟨_, SqT.of (S3 _ _ hwp), rfl⟩, _, _, rfl, rfl, _, rfl, if_dec (fun d => ?_) (fun d => iteF ?_)⟩
      · have dlt : i < wvs.length := by lia
        obtain ⟨v, w, ev, ew, a, ti, rfl, ha, hti⟩ := hW.get (i := i) (by lia)
        rw [ew] at e
        refine ⟨_, rfl, _, rfl, ixT (S3 _ _ hwp) (by lia) (show wvs[((i : Nat) : Int).toNat]? = some (.ref a) by simpa using ev) (ixT (S3 _ _ ha) (by decide) rfl ⟨rfl, _, rfl, ?_⟩)⟩
        cases ho : w.out with
        | none =>
          rw [show (some w).bind (·.out) = none from ho] at e
          exact iteF ⟨_, _, _, rfl, by rw [show ws.length + 1 - (i + 1) = ws.length - i by lia]; exact e, s3⟩
        | some y =>
          rw [show (some w).bind (·.out) = some y from ho] at e
          obtain ⟨ss2, ess2⟩ : ∃ ss2, pss[i + 1]? = some ss2 := ⟨_, List.getElem?_eq_getElem (by lia)⟩
          obtain ⟨v2, r2, ev2, er2, t2, rfl, ht2⟩ := hA.get (i := i + 1) (by lia)
          rw [ess2] at er2; cases er2
          rw [getD_of ess2] at e
          have f2 := few _ _ ess2
          refine iteT ⟨_, rfl, _, rfl, .inl ⟨_, _, rfl, rfl, ixL (SqL.of (s3 _ _ hl)) (by lia) (show tvs[((i : Nat) + 1 : Int).toNat]? = some (.ref t2) by rw [show ((i : Nat) + 1 : Int).toNat = i + 1 by lia]; exact ev2) ⟨_, rfl, _, rfl, ixT (S3 _ _ hwp) (by lia) (show wvs[((i : Nat) : Int).toNat]? = some (.ref a) by simpa using ev) (ixT (S3 _ _ ha) (by decide) rfl ⟨t2, some y, ss2, by rw [ho]; rfl, s3 _ _ ht2, by lia, fun p5 H5 hp5 s5 => ?_⟩)⟩⟩⟩
          show t_p_crowded_2 K _ [some (.int pl), some (.ref wp), some (.ref lt), some (.ref l), some (.int (i : Nat)), some (.ref t), some (.ref p5)] H5
          refine ⟨_, rfl, _, _, rfl, .inr ⟨_, SqT.of hp5, rfl⟩, _, rfl, _, _, rfl, rfl, _, _, rfl, rfl, _, rfl, if_dec (fun g => ?_) (fun g => ?_)⟩
          · rw [List.length_map] at g
            replace e : R = if pl - 1 < (((ss2).filter fun z => !decide (some y = some z)).length : Int) then some (("behind" : Str), i, ss2.filter fun z => !decide (some y = some z)) else crw pl ws pss (ws.length - i) (i + 1) := e
            rw [if_pos g] at e
            refine ⟨_, rfl, _, rfl, (by show 3 ≤ sizeLine; decide), fun r nr => q _ _ ?_ ((S3.trans s5).new nr)⟩
            rw [e]
            exact ⟨r, p5, rfl, upd_same, by rw [upd_ne (ne_of_none hp5 nr)]; exact hp5⟩
          · rw [List.length_map] at g
            replace e : R = if pl - 1 < (((ss2).filter fun z => !decide (some y = some z)).length : Int) then some (("behind" : Str), i, ss2.filter fun z => !decide (some y = some z)) else crw pl ws pss (ws.length - i) (i + 1) := e
            rw [if_neg g] at e
            exact ⟨_, _, _, rfl, by rw [show ws.length + 1 - (i + 1) = ws.length - i by lia]; exact e, s3.trans s5⟩
      · have : ws[i]? = none := List.getElem?_eq_none (by lia)
        rw [this] at e
        exact ⟨_, _, _, rfl, by rw [show ws.length + 1 - (i + 1) = ws.length - i by lia]; exact e, s3⟩
  · rintro σ' H2 ⟨o4, o5, o6, rfl, e, s2⟩
    have : tvs.length = ws.length + 1 := by rw [hA.len, P.len]
    rw [this, Nat.sub_self] at e
    exact q .non H2 (by rw [e]; rfl) (s1.trans s2)
end Bg
end
section
set_option Elab.async false
set_option linter.all false
set_option maxRecDepth 100000
set_option maxHeartbeats 4000000
namespace Bg
open PySem L2
theorem r_crowded {K : PySem.W.Frag} {vs : List V} {H : Hp} {Q : VK} {E : XK} (h : sp_crowded K vs H Q E) : t_crowded K { nx := fun _ H' => Q .non H', rt := Q } (start N_crowded vs) H := by
  obtain ⟨pl, wp, l, wvs, tvs, ws, pss, rfl, hwp, hW, hl, hA, plen, w100, few, q⟩ := h
  generalize hR0 : crw pl ws pss (ws.length + 1) 0 = R at q
  have wl : wvs.length = ws.length := hW.len
  have tl : tvs.length = ws.length + 1 := by rw [hA.len, plen]
  refine ⟨_, rfl, _, _, rfl, .inl ⟨_, SqL.of hl, rfl⟩, _, rfl, by lia, by lia, for_range (n := tvs.length) (fun i σ' H' => ∃ o3 o4, σ' = [some (.int pl), some (.ref wp), some (.ref l), o3, o4] ∧ R = crw pl ws pss (ws.length + 1 - i) i ∧ Same H H') ⟨_, _, rfl, hR0.symm, Same.refl _⟩ ?_ ?_⟩
  · rintro i σ' H3 hi ⟨o3, o4, rfl, e, S3⟩
    obtain ⟨v1, ss, ev1, ess, t, rfl, ht⟩ := hA.get (i := i) (by lia)
    rw [show ws.length + 1 - i = (ws.length - i) + 1 by lia, crw_step, getD_of ess] at e
    show t_crowded_4 K _ [some (.int pl), some (.ref wp), some (.ref l), some (.int ((0 : Int) + (i : Nat))), o4] H3
    rw [show ((0 : Int) + (i : Nat)) = (i : Nat) by lia]
    have ixl : ∀ {H' : Hp} {Q' : VK}, Same H H' → Q' (.ref t) H' → rIx K (.ref l) (.int (i : Nat)) H' Q' := fun s q' => ixL (SqL.of (s _ _ hl)) (by lia) (show tvs[((i : Nat) : Int).toNat]? = some (.ref t) by simpa using ev1) q'
    refine ⟨_, rfl, _, rfl, ixl S3 ⟨_, _, rfl, .inr ⟨_, SqT.of (S3 _ _ ht), rfl⟩, _, rfl, _, _, rfl, rfl, _, rfl, if_dec (fun c => ?_) (fun c => ?_)⟩⟩
    · rw [List.length_map] at c
      rw [if_pos c] at e
      refine ⟨_, rfl, _, rfl, _, rfl, ixl S3 ⟨(by show 3 ≤ sizeLine; decide), fun r nr => q _ _ ?_ (S3.new nr)⟩⟩
      rw [e]
      exact ⟨r, t, rfl, upd_same, by rw [upd_ne (ne_of_none (S3 _ _ ht) nr)]; exact S3 _ _ ht⟩
    · rw [List.length_map] at c
      rw [if_neg c] at e
      refine ⟨_, rfl, _, rfl, _, _, rfl, .inr ⟨_, SqT.of (S3 _ _ hwp), rfl⟩, _, _, rfl, rfl, _, rfl, if_dec (fun d => ?_) (fun d => iteF ?_)⟩
      · obtain ⟨v, w, ev, ew, a, ti, rfl, ha, hti⟩ := hW.get (i := i) (by lia)
        rw [ew] at e
        have ixw : ∀ {H' : Hp} {Q' : VK}, Same H H' → Q' (.ref a) H' → rIx K (.ref wp) (.int (i : Nat)) H' Q' := fun s q' => ixT (s _ _ hwp) (by lia) (show wvs[((i : Nat) : Int).toNat]? = some (.ref a) by simpa using ev) q'
        refine ⟨_, rfl, _, rfl, ixw S3 (ixT (S3 _ _ ha) (by decide) rfl ⟨rfl, _, rfl, ?_⟩)⟩
        cases ho : w.out with
        | none =>
          rw [show (some w).bind (·.out) = none from ho] at e
          exact iteF ⟨_, _, rfl, by rw [show ws.length + 1 - (i + 1) = ws.length - i by lia]; exact e, S3⟩
        | some y =>
          rw [show (some w).bind (·.out) = some y from ho] at e
          obtain ⟨v2, ss2, ev2, ess2, t2, rfl, ht2⟩ := hA.get (i := i + 1) (by lia)
          rw [getD_of ess2] at e
          have f2 := few ss2 (List.mem_of_getElem? ess2)
          refine iteT (.inr ⟨_, rfl, _, rfl, .inl ⟨_, _, rfl, rfl, ixL (SqL.of (S3 _ _ hl)) (by lia) (show tvs[((i : Nat) + 1 : Int).toNat]? = some (.ref t2) by rw [show ((i : Nat) + 1 : Int).toNat = i + 1 by lia]; exact ev2) ⟨t2, rfl, ⟨_, SqT.of (S3 _ _ ht2)⟩, fun D nD => ?_⟩⟩⟩)
          refine comp_tup (xs := ss2.map V.str) (fun j σ' H' => ∃ o, σ' = [some (.int pl), some (.ref wp), some (.ref l), some (.int (i : Nat)), o4, o] ∧ H' D = some (.lst (((ss2.take j).filter fun z => !decide (some y = some z)).map V.str)) ∧ Same H3 H') ?_ ?_ ?_ ?_
          · exact ⟨none, rfl, upd_same, (Same.refl H3).new nD⟩
          · rintro j σ' H' _ ⟨o, _, _, s⟩
            exact SqT.of (s _ _ (S3 _ _ ht2))
          · rintro j x σ' H4 hx ⟨o, rfl, hD, s4⟩
            obtain ⟨z, hz, rfl⟩ := strs_at hx
            have fl : ((ss2.take j).filter fun z => !decide (some y = some z)).length ≤ ss2.length := Nat.le_trans (List.length_filter_le _ _) (by rw [List.length_take]; exact Nat.min_le_right _ _)
            refine ⟨_, rfl, _, rfl, _, rfl, ixw (S3.trans s4) (ixT (s4 _ _ (S3 _ _ ha)) (by decide) rfl (.inl ⟨optV_scal z w.out, _, rfl, ?_⟩))⟩
            have tk : (ss2.take (j + 1)).filter (fun z => !decide (some y = some z)) = ((ss2.take j).filter fun z => !decide (some y = some z)) ++ if (!decide (some y = some z)) = true then [z] else [] := by
              rw [List.take_succ, hz, List.filter_append]
              congr 1
              show [z].filter _ = _
              rw [List.filter_cons]
              split <;> simp_all
            rw [optV_ne, ho]
            refine if_not (fun hs => ?_) (fun hs => ?_)
            · refine ⟨_, rfl, _, hD, smallL (by rw [List.length_map]; lia), _, rfl, ?_, fun b u e => by rw [upd_ne (ne_of_none e nD)]; exact s4 b u e⟩
              rw [upd_same, tk, decide_eq_false hs, List.map_append]; rfl
            · refine ⟨_, rfl, ?_, s4⟩
              rw [tk, decide_eq_true hs]
              simpa using hD
          · rintro σ' H4 ⟨o, _, hD, s4⟩
            rw [List.length_map, List.take_length] at hD
            refine ⟨D, _, rfl, .inl ⟨SqL.of hD, fun p5 np5 => ?_⟩⟩
            have s5 : Same H3 (upd H4 p5 (.tup ((ss2.filter fun z => !decide (some y = some z)).map V.str))) := s4.new np5
            have hp5 : upd H4 p5 (.tup ((ss2.filter fun z => !decide (some y = some z)).map V.str)) p5 = some (.tup ((ss2.filter fun z => !decide (some y = some z)).map V.str)) := upd_same
            show t_crowded_2 K _ [some (.int pl), some (.ref wp), some (.ref l), some (.int (i : Nat)), some (.ref p5)] _
            generalize upd H4 p5 (.tup ((ss2.filter fun z => !decide (some y = some z)).map V.str)) = H5 at s5 hp5 ⊢
            replace e : R = if pl - 1 < (((ss2).filter fun z => !decide (some y = some z)).length : Int) then some (("behind" : Str), i, ss2.filter fun z => !decide (some y = some z)) else crw pl ws pss (ws.length - i) (i + 1) := e
            refine ⟨_, rfl, _, _, rfl, .inr ⟨_, SqT.of hp5, rfl⟩, _, rfl, _, _, rfl, rfl, _, _, rfl, rfl, _, rfl, if_dec (fun g => ?_) (fun g => ?_)⟩
            · rw [List.length_map] at g
              rw [if_pos g] at e
              refine ⟨_, rfl, _, rfl, (by show 3 ≤ sizeLine; decide), fun r nr => q _ _ ?_ ((S3.trans s5).new nr)⟩
              rw [e]
              exact ⟨r, p5, rfl, upd_same, by rw [upd_ne (ne_of_none hp5 nr)]; exact hp5⟩
            · rw [List.length_map] at g
              rw [if_neg g] at e
              exact ⟨_, _, rfl, by rw [show ws.length + 1 - (i + 1) = ws.length - i by lia]; exact e, S3.trans s5⟩
      · have : ws[i]? = none := List.getElem?_eq_none (by lia)
        rw [this] at e
        exact ⟨_, _, rfl, by rw [show ws.length + 1 - (i + 1) = ws.length - i by lia]; exact e, S3⟩
  · rintro σ' H2 ⟨o3, o4, rfl, e, s2⟩
    rw [tl, Nat.sub_self] at e
    exact q .non H2 (by rw [e]; rfl) s2
end Bg
end
section
set_option Elab.async false
set_option linter.all false
set_option maxRecDepth 100000
set_option maxHeartbeats 4000000
namespace Bg
open PySem L2
theorem WksA.same {H H' : Hp} {wp lt : Addr} {ws : List Wk} {last : List Str} (h : WksA H wp lt ws last) (s : Same H H') : WksA H' wp lt ws last := by
  obtain ⟨⟨wvs, a, b⟩, c⟩ := h
  exact ⟨⟨wvs, s _ _ a, b.imp fun _ _ z => z.tp fun b xs e => s _ _ e⟩, s _ _ c⟩
structure PAt (H : Hp) (l : Addr) (last : List Str) (ws : List Wk) (H' : Hp) (i : Nat) (tvs : List V) (pss : List (List Str)) : Prop where
  hl : H' l = some (.lst tvs)
  all : AllAt (TxS H') tvs pss
  len : pss.length = i
  oks : ∀ (j : Nat) ss, pss[j]? = some ss → PtOk last ws j ss
  sm : Same H H'
theorem r_points {K : PySem.W.Frag} {vs : List V} {H : Hp} {Q : VK} {E : XK} (h : sp_points K vs H Q E) : t_points K { nx := fun _ H' => Q .non H', rt := Q } (start N_points vs) H := by
  obtain ⟨wp, lt, nm, ws, last, ys, rfl, WA, F, hnm, ynd, q⟩ := h
  obtain ⟨⟨wvs, hwp, hW⟩, hlt⟩ := id WA
  have wl : wvs.length = ws.length := hW.len
  have w100 := F.w100
  have d64 := F.d64
  refine ⟨(by show 0 ≤ sizeLine; decide), fun l nl => ?_⟩
  have s1 : Same H (upd H l (.lst [])) := (Same.refl H).new nl
  have hl1 : upd H l (.lst []) l = some (.lst []) := upd_same
  show t_points_3 K _ [some (.ref wp), some (.ref lt), some (.ref nm), some (.ref l), none] _
  generalize upd H l (.lst []) = H1 at s1 hl1 ⊢
  refine ⟨_, rfl, _, _, rfl, .inr ⟨_, SqT.of (s1 _ _ hwp), rfl⟩, .inl ⟨_, _, rfl, rfl, _, rfl, by lia, by lia, for_range (n := wvs.length + 1) (fun i σ' H' => ∃ o4 tvs pss, σ' = [some (.ref wp), some (.ref lt), some (.ref nm), some (.ref l), o4] ∧ PAt H l last ws H' i tvs pss)
    ⟨none, [], [], rfl, hl1, ⟨rfl, fun i v r a => by simp at a⟩, rfl, fun j ss e => by simp at e, s1⟩ ?_ ?_⟩⟩
  · rintro i σ' H2 hi ⟨o4, tvs, pss, rfl, P⟩
    show t_points_2 K _ [some (.ref wp), some (.ref lt), some (.ref nm), some (.ref l), some (.int ((0 : Int) + (i : Nat)))] H2
    rw [show ((0 : Int) + (i : Nat)) = (i : Nat) by lia]
    refine ⟨_, rfl, .inl ⟨rfl, _, SqL.of P.hl⟩, .inl ⟨_, rfl, nm, ys, rfl, SqL.of (P.sm _ _ hnm), d64, fun sl ys' nsl perm srt => ⟨sl, rfl, ⟨_, SqL.of upd_same⟩, fun D nD => ?_⟩⟩⟩
    have s3 : Same H2 (upd H2 sl (.lst (ys'.map V.str))) := (Same.refl H2).new nsl
    have hsl3 : upd H2 sl (.lst (ys'.map V.str)) sl = some (.lst (ys'.map V.str)) := upd_same
    generalize upd H2 sl (.lst (ys'.map V.str)) = H3 at s3 hsl3 nD ⊢
    have yl : ys'.length = ys.length := perm.length_eq
    refine comp_list (xs := ys'.map V.str) (fun j σ' H' => ∃ (o5 : Option V) (us : List Str), σ' = [some (.ref wp), some (.ref lt), some (.ref nm), some (.ref l), some (.int (i : Nat)), o5] ∧ H' D = some (.lst (us.map V.str)) ∧ us.Sublist (ys'.take j) ∧ (∀ y, y ∈ us ↔ y ∈ ys'.take j ∧ wn last (ws.drop i) y = true) ∧ Same H3 H') ?_ ?_ ?_ ?_
    · exact ⟨none, [], rfl, upd_same, List.Sublist.refl _, fun y => by simp, (Same.refl H3).new nD⟩
    · rintro j σ' H' _ ⟨_, _, _, _, _, _, s⟩
      exact SqL.of (s _ _ hsl3)
    · rintro j x σ' H4 hx ⟨o5, us, rfl, hD, sub, hu, s4⟩
      obtain ⟨y, hy, rfl⟩ := strs_at hx
      have tk : ys'.take (j + 1) = ys'.take j ++ [y] := by rw [List.take_succ, hy]; rfl
      have ul : us.length ≤ ys'.length := Nat.le_trans sub.length_le (by rw [List.length_take]; exact Nat.min_le_right _ _)
      refine ⟨_, rfl, _, rfl, _, rfl, _, rfl, wp, lt, i, y, ws, last, rfl, WA.same ((P.sm.trans s3).trans s4), by lia, fun H5 s5 => ⟨_, rfl, ?_⟩⟩
      cases hb : wn last (ws.drop i) y with
      | true =>
        refine iteT ⟨_, rfl, _, s5 _ _ hD, smallL (by rw [List.length_map]; lia), _, us ++ [y], rfl, ?_, ?_, fun z => ?_, fun b u e => by rw [upd_ne (ne_of_none e nD)]; exact s5 _ _ (s4 b u e)⟩
        · rw [upd_same, List.map_append]; rfl
        · rw [tk]; exact sub.append (List.Sublist.refl _)
        · rw [tk, List.mem_append, List.mem_append, hu z, List.mem_singleton]
          constructor
          · rintro (⟨a, b⟩ | rfl)
            · exact ⟨.inl a, b⟩
            · exact ⟨.inr rfl, hb⟩
          · rintro ⟨a | a, b⟩
            · exact .inl ⟨a, b⟩
            · exact .inr a
      | false =>
        refine iteF ⟨_, us, rfl, s5 _ _ hD, ?_, fun z => ?_, s4.trans s5⟩
        · rw [tk]; exact sub.trans (List.sublist_append_left _ _)
        · rw [tk, List.mem_append, hu z, List.mem_singleton]
          constructor
          · rintro ⟨a, b⟩; exact ⟨.inl a, b⟩
          · rintro ⟨a | a, b⟩
            · exact ⟨a, b⟩
            · subst a; rw [hb] at b; cases b
    · rintro σ' H4 ⟨o5, us, rfl, hD, sub, hu, s4⟩
      rw [List.length_map, List.take_length] at sub hu
      refine ⟨D, _, rfl, .inl ⟨SqL.of hD, fun t nt => ?_⟩⟩
      have s5 : Same H2 (upd H4 t (.tup (us.map V.str))) := (s3.trans s4).new nt
      have ht5 : upd H4 t (.tup (us.map V.str)) t = some (.tup (us.map V.str)) := upd_same
      generalize upd H4 t (.tup (us.map V.str)) = H5 at s5 ht5 ⊢
      have hl5 := s5 _ _ P.hl
      have tl : tvs.length = i := by rw [P.all.len, P.len]
      have ok' : PtOk last ws i us := ⟨(sorted_pw srt).sublist sub, (perm.nodup_iff.mpr ynd).sublist sub, fun y => by
        rw [hu, perm.mem_iff]
        exact ⟨fun h => h.2, fun h => ⟨wn_in F.lst (fun w m => (F.ins w (List.mem_of_mem_drop m)).2) h, h⟩⟩⟩
      have up : ∀ b xs, H5 b = some (.tup xs) → upd H5 l (.lst (tvs ++ [.ref t])) b = some (.tup xs) := fun b xs e => by
        rw [upd_ne (ne_of e hl5 (by intro z; cases z))]; exact e
      refine ⟨l, tvs, _, rfl, rfl, hl5, smallL (by lia), _, tvs ++ [.ref t], pss ++ [us], rfl, upd_same, ⟨by rw [List.length_append, List.length_append, P.all.len]; rfl, fun j v r e1 e2 => ?_⟩, by rw [List.length_append, P.len]; rfl, fun j ss e => ?_, fun b u e => by rw [upd_ne (ne_of_none e nl)]; exact s5 _ _ (P.sm b u e)⟩
      · rcases Nat.lt_or_ge j tvs.length with hj | hj
        · rw [List.getElem?_append_left hj] at e1
          rw [List.getElem?_append_left (by rw [← P.all.len]; exact hj)] at e2
          exact (P.all.at_ j v r e1 e2).mono fun b xs e => up _ _ (s5 _ _ e)
        · rw [List.getElem?_append_right hj] at e1
          rw [List.getElem?_append_right (by rw [← P.all.len]; exact hj), ← P.all.len] at e2
          cases ej : j - tvs.length with
          | zero => rw [ej] at e1 e2; cases e1; cases e2; exact ⟨t, rfl, up _ _ ht5⟩
          | succ n => rw [ej] at e1; simp at e1
      · rcases Nat.lt_or_ge j pss.length with hj | hj
        · rw [List.getElem?_append_left hj] at e
          exact P.oks j ss e
        · rw [List.getElem?_append_right hj] at e
          cases ej : j - pss.length with
          | zero =>
            rw [ej] at e; cases e
            have : j = i := by have := P.len; lia
            rw [this]; exact ok'
          | succ n => rw [ej] at e; simp at e
  · rintro σ' H2 ⟨o4, tvs, pss, rfl, P⟩
    exact ⟨_, rfl, q l tvs pss H2 nl P.hl P.all ⟨by rw [P.len, wl], P.oks⟩ P.sm⟩
theorem r_thing {K : PySem.W.Frag} {vs : List V} {H : Hp} {Q : VK} {E : XK} (h : sp_thing K vs H Q E) : t_thing K { nx := fun _ H' => Q .non H', rt := Q } (start N_thing vs) H := by
  obtain ⟨st, nm, k, ys, rfl, S, hk, nst, hnm, yl, q⟩ := h
  refine ⟨_, rfl, (by show 1 ≤ sizeLine; decide), fun l1 nl1 => .inr (.inr (.inl ⟨nm, l1, _, _, rfl, rfl, by rw [upd_ne (ne_of_none hnm nl1)]; exact hnm, upd_same, Nat.le_of_lt (smallL (by rw [List.length_map]; show ys.length + 1 ≤ 100000; lia)), fun l2 nl2 => ?_⟩))⟩
  have n2 : l2 ≠ st := fun z => by obtain ⟨_, e⟩ := (S.new (o := .lst [V.non]) nl1).lst; rw [z, e] at nl2; cases nl2
  have s2 : Same H (upd (upd H l1 (.lst [V.non])) l2 (.lst (ys.map V.str ++ [V.non]))) := ((Same.refl H).new nl1).new nl2
  have hl2 : upd (upd H l1 (.lst [V.non])) l2 (.lst (ys.map V.str ++ [V.non])) l2 = some (.lst (ys.map V.str ++ [V.non])) := upd_same
  generalize upd (upd H l1 (.lst [V.non])) l2 (.lst (ys.map V.str ++ [V.non])) = H2 at s2 hl2 ⊢
  have S2 := S.same s2
  refine ⟨_, rfl, _, rfl, _, _, rfl, .inl ⟨_, SqL.of (s2 _ _ hnm), rfl⟩, .inl ⟨_, _, rfl, rfl, st, _, k, rfl, S2, by lia, by lia, by rw [List.length_map]; lia, fun d H3 d0 d1 S3 B3 => ?_⟩⟩
  have h3 := B3 _ _ n2 hl2
  rw [List.length_map] at d1
  rcases Nat.lt_or_ge d.toNat ys.length with c | c
  · refine ixL (SqL.of h3) d0 (v := .str ys[d.toNat]) ?_ ?_
    · rw [List.getElem?_append_left (by rw [List.length_map]; exact c), List.getElem?_map, List.getElem?_eq_getElem c]; rfl
    · exact q (some ys[d.toNat]) H3 (fun y e => by injection e with e; rw [← e]; exact List.getElem_mem c) S3 (fun b u n e => B3 b u n (s2 b u e))
  · refine ixL (SqL.of h3) d0 (v := .non) ?_ ?_
    · rw [List.getElem?_append_right (by rw [List.length_map]; exact c), List.length_map, show d.toNat - ys.length = 0 by lia]; rfl
    · exact q none H3 (fun y e => by cases e) S3 (fun b u n e => B3 b u n (s2 b u e))
end Bg
end
section
set_option Elab.async false
set_option linter.all false
set_option maxRecDepth 100000
set_option maxHeartbeats 4000000
namespace Bg
open PySem L2
theorem but_tp {K : PySem.W.Frag} {H H' : Hp} {st : Addr} {k : Nat} (S : Stt K H st k) (B : But st H H') : ∀ b xs, H b = some (.tup xs) → H' b = some (.tup xs) := fun b xs e => by
  refine B b _ (fun z => ?_) e
  obtain ⟨_, e'⟩ := S.lst
  rw [z, e'] at e; cases e
theorem sizes_at : ∀ n : Nat, n < 6 → ∃ z : Nat, ([V.int 0, V.int 1, V.int 2, V.int 2, V.int 3, V.int 8] : List V)[n]? = some (.int (z : Nat)) ∧ z ≤ 8
  | 0, _ => ⟨0, rfl, by decide⟩
  | 1, _ => ⟨1, rfl, by decide⟩
  | 2, _ => ⟨2, rfl, by decide⟩
  | 3, _ => ⟨2, rfl, by decide⟩
  | 4, _ => ⟨3, rfl, by decide⟩
  | 5, _ => ⟨8, rfl, by decide⟩
  | n + 6, h => absurd h (by lia)
structure KAt (K : PySem.W.Frag) (H : Hp) (st L : Addr) (ys : List Str) (H' : Hp) (i k k' : Nat) (wvs : List V) (ws : List Wk) : Prop where
  hL : H' L = some (.lst wvs)
  all : AllAt (WkA H') wvs ws
  len : ws.length = i
  ok : ∀ w ∈ ws, w.ins.length ≤ 8 ∧ ∀ y ∈ w.ins, y ∈ ys
  S : Stt K H' st k'
  few : k' ≤ k + 1 + 12 * i
  B : But st H H'
theorem r_works {K : PySem.W.Frag} {vs : List V} {H : Hp} {Q : VK} {E : XK} (h : sp_works K vs H Q E) : t_works K { nx := fun _ H' => Q .non H', rt := Q } (start N_works vs) H := by
  obtain ⟨st, nm, m, k, ys, rfl, S, hk, nst, hnm, y1, y20, m100, q⟩ := h
  refine ⟨(by show 0 ≤ sizeLine; decide), fun L nL => ?_⟩
  have S1 := S.new (o := .lst []) nL
  have s1 : Same H (upd H L (.lst [])) := (Same.refl H).new nL
  have hL1 : upd H L (.lst []) L = some (.lst []) := upd_same
  have nLst : L ≠ st := fun z => by obtain ⟨_, e⟩ := S.lst; rw [z, e] at nL; cases nL
  show t_works_5 K _ [some (.ref st), some (.ref nm), some (.int (m : Nat)), some (.ref L), none, none, none] _
  generalize upd H L (.lst []) = H1 at S1 s1 hL1 ⊢
  refine ⟨_, rfl, _, rfl, .inl ⟨_, _, rfl, rfl, st, _, k, rfl, S1, by lia, by lia, by lia, fun e H2 e0 e1 S2 B2 => ⟨e, rfl, by lia, by lia, for_range (n := e.toNat) (fun i σ' H' => ∃ (o4 o5 o6 : Option V) (k' : Nat) (wvs : List V) (ws : List Wk), σ' = [some (.ref st), some (.ref nm), some (.int (m : Nat)), some (.ref L), o4, o5, o6] ∧ KAt K H st L ys H' i k k' wvs ws)
    ⟨none, none, none, k + 1, [], [], rfl, B2 _ _ nLst hL1, ⟨rfl, fun i v r a => by simp at a⟩, rfl, fun w m => by (cases m), S2, by lia, fun b u n e => B2 b u n (s1 b u e)⟩ ?_ ?_⟩⟩⟩
  · rintro i σ' H3 hi ⟨o4, o5, o6, k', wvs, ws, rfl, A⟩
    have hi' : i < e.toNat := hi
    have kf := A.few
    have H3nm := A.B _ _ nst hnm
    refine ⟨(by show 6 ≤ sizeLine; decide), fun l4 n4 => ?_⟩
    have S4 := A.S.new (o := .lst [V.int 0, V.int 1, V.int 2, V.int 2, V.int 3, V.int 8]) n4
    have s4 : Same H3 (upd H3 l4 (.lst [V.int 0, V.int 1, V.int 2, V.int 2, V.int 3, V.int 8])) := (Same.refl H3).new n4
    have h4 : upd H3 l4 (.lst [V.int 0, V.int 1, V.int 2, V.int 2, V.int 3, V.int 8]) l4 = some (.lst [V.int 0, V.int 1, V.int 2, V.int 2, V.int 3, V.int 8]) := upd_same
    have n4st : l4 ≠ st := fun z => by obtain ⟨_, e⟩ := A.S.lst; rw [z, e] at n4; cases n4
    generalize upd H3 l4 (.lst [V.int 0, V.int 1, V.int 2, V.int 2, V.int 3, V.int 8]) = H4 at S4 s4 h4 ⊢
    refine ⟨_, rfl, st, 6, k', rfl, S4, by lia, by decide, by decide, fun d H5 d0 d1 S5 B5 => ?_⟩
    obtain ⟨sz, hsz, sz8⟩ := sizes_at d.toNat (by lia)
    refine ixL (SqL.of (B5 _ _ n4st h4)) d0 hsz ?_
    have T5 : But st H3 H5 := fun b u n e => B5 b u n (s4 b u e)
    show t_works_3 K _ [some (.ref st), some (.ref nm), some (.int (m : Nat)), some (.ref L), some (.int ((0 : Int) + (i : Nat))), some (.int (sz : Nat)), o6] H5
    refine ⟨_, rfl, _, rfl, by lia, by lia, fun D nD => ?_⟩
    have nDst : D ≠ st := fun z => by obtain ⟨_, e⟩ := S5.lst; rw [z, e] at nD; cases nD
    refine comp_range (fun j σ' H' => ∃ (us : List Str) (kk : Nat) (o : Option V), σ' = [some (.ref st), some (.ref nm), some (.int (m : Nat)), some (.ref L), some (.int ((0 : Int) + (i : Nat))), some (.int (sz : Nat)), o6, o] ∧ H' D = some (.lst (us.map V.str)) ∧ us.length = j ∧ (∀ y ∈ us, y ∈ ys) ∧ Stt K H' st kk ∧ kk ≤ k' + 1 + j ∧ But st H5 H') ?_ ?_ ?_
    · exact ⟨[], k' + 1, none, rfl, upd_same, rfl, by simp, S5.new nD, by lia, (But.refl st H5).new nD⟩
    · rintro j σ' H6 hj ⟨us, kk, o, rfl, hD, ul, uin, S6, hkk, B6⟩
      have hj' : j < sz := by simpa using hj
      have h6nm := B6 _ _ nst (T5 _ _ nst H3nm)
      refine app_yes ⟨_, rfl, _, rfl, _, rfl, _, _, rfl, .inl ⟨_, SqL.of h6nm, rfl⟩, st, _, kk, rfl, S6, by lia, by rw [List.length_map]; lia, by rw [List.length_map]; lia, fun d H7 d0 d1 S7 B7 => ?_⟩
      rw [List.length_map] at d1
      have dl : d.toNat < ys.length := by lia
      have hD7 := B7 _ _ nDst hD
      refine ixL (SqL.of (B7 _ _ nst h6nm)) d0 (v := .str ys[d.toNat]) (by rw [List.getElem?_map, List.getElem?_eq_getElem dl]; rfl) ⟨_, hD7, smallL (by rw [List.length_map]; lia), us ++ [ys[d.toNat]], kk + 1, _, rfl, ?_, by rw [List.length_append, ul]; rfl, fun y hy => ?_, S7.mono .upd_at hD7 (Ne.symm nDst), by lia, fun b u n e => ?_⟩
      · rw [upd_same, List.map_append]; rfl
      · rcases List.mem_append.mp hy with z | z
        · exact uin y z
        · rw [List.mem_singleton.mp z]; exact List.getElem_mem dl
      · rw [upd_ne (ne_of_none e nD)]; exact B7 b u n (B6 b u n e)
    · rintro σ' H6 ⟨us, kk, o, rfl, hD, ul, uin, S6, hkk, B6⟩
      have ul' : us.length = sz := by simpa using ul
      have hkk' : kk ≤ k' + 1 + sz := by simpa using hkk
      refine ⟨D, _, rfl, .inl ⟨SqL.of hD, fun t nt => ?_⟩⟩
      have S6' := S6.new (o := .tup (us.map V.str)) nt
      have T6 : But st H3 (upd H6 t (.tup (us.map V.str))) := (T5.trans B6).new nt
      have ht6 : upd H6 t (.tup (us.map V.str)) t = some (.tup (us.map V.str)) := upd_same
      show t_works_2 K _ [some (.ref st), some (.ref nm), some (.int (m : Nat)), some (.ref L), some (.int ((0 : Int) + (i : Nat))), some (.int (sz : Nat)), some (.ref t)] _
      generalize upd H6 t (.tup (us.map V.str)) = H7 at S6' T6 ht6 ⊢
      refine ⟨_, rfl, .inl ⟨rfl, _, SqL.of (T6 _ _ nLst A.hL)⟩, _, rfl, _, rfl, _, rfl, st, nm, kk, ys, rfl, S6', by lia, nst, T6 _ _ nst H3nm, y20, fun mo H8 hmo S8 B8 => ⟨(by show 2 ≤ sizeLine; decide), fun l9 n9 => ?_⟩⟩
      have S9 := S8.new (o := .lst [V.non, optV mo]) n9
      have s9 : Same H8 (upd H8 l9 (.lst [V.non, optV mo])) := (Same.refl H8).new n9
      have h9 : upd H8 l9 (.lst [V.non, optV mo]) l9 = some (.lst [V.non, optV mo]) := upd_same
      have n9st : l9 ≠ st := fun z => by obtain ⟨_, e⟩ := S8.lst; rw [z, e] at n9; cases n9
      generalize upd H8 l9 (.lst [V.non, optV mo]) = H9 at S9 s9 h9 ⊢
      refine ⟨_, rfl, st, 4, kk + 1, rfl, S9, by lia, by decide, by decide, fun d H10 d0 d1 S10 B10 => ⟨_, _, rfl, rfl, .inr ⟨_, rfl, ?_⟩⟩⟩
      have T10 : But st H7 H10 := fun b u n e => B10 b u n (s9 b u (B8 b u n e))
      have tp10 : ∀ b xs, H7 b = some (.tup xs) → H10 b = some (.tup xs) := but_tp S6' T10
      have fin : ∀ mo' : Option Str, (tTup tNil : TE) = tTup tNil → ∀ (p : Addr), H10 p = none → KAt K H st L ys (upd (upd H10 p (.tup [.ref t, optV mo'])) L (.lst (wvs ++ [.ref p]))) (i + 1) k (kk + 2) (wvs ++ [.ref p]) (ws ++ [⟨us, mo'⟩]) := fun mo' _ p np => by
        have hL10 : H10 L = some (.lst wvs) := T10 _ _ nLst (T6 _ _ nLst A.hL)
        have npL : p ≠ L := fun z => by rw [z, hL10] at np; cases np
        have up : ∀ b xs, H10 b = some (.tup xs) → (upd (upd H10 p (.tup [.ref t, optV mo'])) L (.lst (wvs ++ [.ref p]))) b = some (.tup xs) := fun b xs e => by
          rw [upd_ne (ne_of e hL10 (by intro z; cases z)), upd_ne (ne_of_none e np)]; exact e
        refine ⟨upd_same, ⟨by rw [List.length_append, List.length_append, A.all.len]; rfl, fun j v r e1 e2 => ?_⟩, by rw [List.length_append, A.len]; rfl, fun w mw => ?_, ?_, by lia, fun b u n e => ?_⟩
        · rcases Nat.lt_or_ge j wvs.length with hj | hj
          · rw [List.getElem?_append_left hj] at e1
            rw [List.getElem?_append_left (by rw [← A.all.len]; exact hj)] at e2
            exact (A.all.at_ j v r e1 e2).tp fun b xs e => up _ _ (tp10 _ _ (but_tp A.S T6 _ _ e))
          · rw [List.getElem?_append_right hj] at e1
            rw [List.getElem?_append_right (by rw [← A.all.len]; exact hj), ← A.all.len] at e2
            cases ej : j - wvs.length with
            | zero =>
              rw [ej] at e1 e2; cases e1; cases e2
              exact ⟨p, t, rfl, by rw [upd_ne npL, upd_same], up _ _ (tp10 _ _ ht6)⟩
            | succ n => rw [ej] at e1; simp at e1
        · rcases List.mem_append.mp mw with z | z
          · exact A.ok w z
          · rw [List.mem_singleton.mp z]; exact ⟨by show us.length ≤ 8; lia, uin⟩
        · exact (S10.new np).mono .upd_at (by rw [upd_ne (Ne.symm npL)]; exact hL10) (Ne.symm nLst)
        · have bL : b ≠ L := ne_of_none e nL
          rw [upd_ne bL]
          have e10 := T10 b u n (T6 b u n (A.B b u n e))
          rw [upd_ne (ne_of_none e10 np)]; exact e10
      have hL10 : H10 L = some (.lst wvs) := T10 _ _ nLst (T6 _ _ nLst A.hL)
      have wl : wvs.length = i := by rw [A.all.len, A.len]
      have fin2 : ∀ mo' : Option Str, ∀ (p : Addr), H10 p = none → (∃ l xs y, V.ref L = .ref l ∧ [V.ref p] = [y] ∧ upd H10 p (.tup [.ref t, optV mo']) l = some (.lst xs) ∧ xs.length < sizeLine ∧ ∃ (o4 o5 o6 : Option V) (k' : Nat) (wvs' : List V) (ws' : List Wk), [some (V.ref st), some (.ref nm), some (.int (m : Nat)), some (.ref L), some (.int ((0 : Int) + (i : Nat))), some (.int (sz : Nat)), some (.ref t)] = [some (.ref st), some (.ref nm), some (.int (m : Nat)), some (.ref L), o4, o5, o6] ∧ KAt K H st L ys (upd (upd H10 p (.tup [.ref t, optV mo'])) l (.lst (xs ++ [y]))) (i + 1) k k' wvs' ws') := fun mo' p np =>
        ⟨L, wvs, _, rfl, rfl, by rw [upd_ne (fun z => by rw [← z, hL10] at np; cases np)]; exact hL10, smallL (by lia), _, _, _, kk + 2, _, _, rfl, fin mo' rfl p np⟩
      cases hb : decide ((0 : Int) < d) with
      | true => exact ixL (SqL.of (B10 _ _ n9st h9)) (by decide) rfl ⟨(by show 2 ≤ sizeLine; decide), fun p np => fin2 mo p np⟩
      | false => exact ixL (SqL.of (B10 _ _ n9st h9)) (by decide) rfl ⟨(by show 2 ≤ sizeLine; decide), fun p np => fin2 none p np⟩
  · rintro σ' H3 ⟨o4, o5, o6, k', wvs, ws, rfl, A⟩
    have few := A.few
    refine ⟨_, rfl, L, _, rfl, .inl ⟨SqL.of A.hL, fun wp nwp => ?_⟩⟩
    exact q wp wvs ws k' _ upd_same (A.all.imp fun _ _ z => z.tp fun b xs e => by rw [upd_ne (ne_of_none e nwp)]; exact e) (by rw [A.len]; lia) A.ok (A.S.new nwp) (by lia) (A.B.new nwp)
end Bg
end
section
set_option Elab.async false
set_option linter.all false
set_option maxRecDepth 100000
set_option maxHeartbeats 4000000
namespace Bg
open PySem L2
theorem er_map {α β : Type} (f : α → β) : ∀ (l : List α) (i : Nat), (l.map f).eraseIdx i = (l.eraseIdx i).map f
  | [], i => by simp
  | x :: l, 0 => rfl
  | x :: l, i + 1 => by
    show f x :: (l.map f).eraseIdx i = f x :: (l.eraseIdx i).map f
    rw [er_map f l i]
structure LAt (K : PySem.W.Frag) (H : Hp) (st lf fd : Addr) (ys : List Str) (H' : Hp) (i k k' : Nat) (ls fs : List Str) : Prop where
  hlf : H' lf = some (.lst (ls.map V.str))
  hfd : H' fd = some (.lst (fs.map V.str))
  ll : ls.length + i = ys.length
  fl : fs.length = i
  lin : ∀ y ∈ ls, y ∈ ys
  fin : ∀ y ∈ fs, y ∈ ys
  S : Stt K H' st k'
  few : k' ≤ k + 1 + i
  B : But st H H'
theorem r_last {K : PySem.W.Frag} {vs : List V} {H : Hp} {Q : VK} {E : XK} (h : sp_last K vs H Q E) : t_last K { nx := fun _ H' => Q .non H', rt := Q } (start N_last vs) H := by
  obtain ⟨st, nm, m, k, ys, rfl, S, hk, nst, hnm, y20, m100, q⟩ := h
  refine ⟨_, rfl, nm, _, rfl, .inl (SqL.of hnm), fun lf nlf => ?_⟩
  have S1 := S.new (o := .lst (ys.map V.str)) nlf
  have s1 : Same H (upd H lf (.lst (ys.map V.str))) := (Same.refl H).new nlf
  have hlf1 : upd H lf (.lst (ys.map V.str)) lf = some (.lst (ys.map V.str)) := upd_same
  have nlfst : lf ≠ st := fun z => by obtain ⟨_, e⟩ := S.lst; rw [z, e] at nlf; cases nlf
  show t_last_4 K _ [some (.ref st), some (.ref nm), some (.int (m : Nat)), some (.ref lf), none, none] _
  generalize upd H lf (.lst (ys.map V.str)) = H1 at S1 s1 hlf1 ⊢
  refine ⟨(by show 0 ≤ sizeLine; decide), fun fd nfd => ?_⟩
  have S2 := S1.new (o := .lst []) nfd
  have s2 : Same H1 (upd H1 fd (.lst [])) := (Same.refl H1).new nfd
  have hfd2 : upd H1 fd (.lst []) fd = some (.lst []) := upd_same
  have nfdst : fd ≠ st := fun z => by obtain ⟨_, e⟩ := S1.lst; rw [z, e] at nfd; cases nfd
  have nff : fd ≠ lf := fun z => by rw [z, hlf1] at nfd; cases nfd
  have Hfd : H fd = none := by
    cases ee : H fd with
    | none => rfl
    | some u => rw [s1 _ _ ee] at nfd; cases nfd
  show t_last_3 K _ [some (.ref st), some (.ref nm), some (.int (m : Nat)), some (.ref lf), some (.ref fd), none] _
  generalize upd H1 fd (.lst []) = H2 at S2 s2 hfd2 ⊢
  have hlf2 := s2 _ _ hlf1
  refine ⟨_, rfl, _, _, rfl, .inl ⟨_, SqL.of (s2 _ _ (s1 _ _ hnm)), rfl⟩, _, rfl, _, rfl, .inl ⟨_, _, rfl, rfl, st, _, k, rfl, S2, by lia, by lia, by lia, fun e H3 e0 e1 S3 B3 => ⟨_, _, rfl, ?_⟩⟩⟩
  obtain ⟨c, hc, cle⟩ : ∃ c : Nat, (if e < ((ys.map V.str).length : Int) then e else ((ys.map V.str).length : Int)) = (c : Int) ∧ c ≤ ys.length := by
    rw [List.length_map]
    by_cases g : e < (ys.length : Int)
    · exact ⟨e.toNat, by rw [if_pos g]; lia, by lia⟩
    · exact ⟨ys.length, by rw [if_neg g], Nat.le_refl _⟩
  rw [hc]
  refine ⟨_, rfl, by lia, by lia, for_range (n := c) (fun i σ' H' => ∃ (o5 : Option V) (k' : Nat) (ls fs : List Str), σ' = [some (.ref st), some (.ref nm), some (.int (m : Nat)), some (.ref lf), some (.ref fd), o5] ∧ LAt K H st lf fd ys H' i k k' ls fs)
    ⟨none, k + 1, ys, [], rfl, B3 _ _ nlfst hlf2, B3 _ _ nfdst hfd2, rfl, rfl, fun y h => h, fun y h => by (cases h), S3, by lia, fun b u n e => B3 b u n (s2 _ _ (s1 b u e))⟩ ?_ ?_⟩
  · rintro i σ' H4 hi ⟨o5, k', ls, fs, rfl, A⟩
    have kf := A.few
    have ll := A.ll
    have lpos : 0 < ls.length := by lia
    refine ⟨_, rfl, .inl ⟨rfl, _, SqL.of A.hfd⟩, _, rfl, .inl ⟨rfl, _, SqL.of A.hlf⟩, _, rfl, _, rfl, _, _, rfl, .inl ⟨_, SqL.of A.hlf, rfl⟩, st, _, k', rfl, A.S, by lia, by rw [List.length_map]; lia, by rw [List.length_map]; lia, fun d H5 d0 d1 S5 B5 => ?_⟩
    rw [List.length_map] at d1
    have dl : d.toNat < ls.length := by lia
    have h5 := B5 _ _ nlfst A.hlf
    have g5 := B5 _ _ nfdst A.hfd
    refine ⟨lf, _, d, d.toNat, .str ls[d.toNat], rfl, rfl, h5, by lia, by lia, ?_, by rw [List.getElem?_map, List.getElem?_eq_getElem dl]; rfl, ?_⟩
    · unfold seqIndex?
      rw [if_neg (show ¬ (d < 0) by lia), List.length_map]
      simp [d0, d1]
    · have ke : (ls.map V.str).eraseIdx d.toNat = (ls.eraseIdx d.toNat).map V.str := er_map _ _ _
      rw [ke]
      have S6 := S5.mono (H' := upd H5 lf (.lst ((ls.eraseIdx d.toNat).map V.str))) .upd_at h5 (Ne.symm nlfst)
      have g6 : upd H5 lf (.lst ((ls.eraseIdx d.toNat).map V.str)) fd = some (.lst (fs.map V.str)) := by rw [upd_ne nff]; exact g5
      have h6 : upd H5 lf (.lst ((ls.eraseIdx d.toNat).map V.str)) lf = some (.lst ((ls.eraseIdx d.toNat).map V.str)) := upd_same
      have T6 : But st H (upd H5 lf (.lst ((ls.eraseIdx d.toNat).map V.str))) := fun b u n e => by rw [upd_ne (ne_of_none e nlf)]; exact B5 b u n (A.B b u n e)
      generalize upd H5 lf (.lst ((ls.eraseIdx d.toNat).map V.str)) = H6 at S6 g6 h6 T6 ⊢
      have fl := A.fl
      refine ⟨fd, _, _, rfl, rfl, g6, smallL (by rw [List.length_map]; lia), _, k' + 1, ls.eraseIdx d.toNat, fs ++ [ls[d.toNat]], rfl, by rw [upd_ne (Ne.symm nff)]; exact h6, ?_, ?_, by rw [List.length_append, fl]; rfl, fun y hy => A.lin y (List.mem_of_mem_eraseIdx hy), fun y hy => ?_, S6.mono .upd_at g6 (Ne.symm nfdst), by lia, fun b u n e => by rw [upd_ne (ne_of_none e Hfd)]; exact T6 b u n e⟩
      · rw [upd_same, List.map_append]; rfl
      · rw [List.length_eraseIdx, if_pos dl]; lia
      · rcases List.mem_append.mp hy with z | z
        · exact A.fin y z
        · rw [List.mem_singleton.mp z]; exact A.lin _ (List.getElem_mem dl)
  · rintro σ' H4 ⟨o5, k', ls, fs, rfl, A⟩
    have few := A.few
    have fl := A.fl
    refine ⟨_, rfl, fd, _, rfl, .inl ⟨SqL.of A.hfd, fun lt nlt => ?_⟩⟩
    exact q lt fs k' _ upd_same (by lia) A.fin (A.S.new nlt) (by lia) (A.B.new nlt)
theorem eq_texts {K : PySem.W.Frag} {H : Hp} {a b : Addr} {ws : List Str} (ha : H a = some (.tup (ws.map V.str))) (hb : H b = some (.tup (ws.map V.str))) : EqN K H 4 (.ref a) (.ref b) true := by
  by_cases n : a = b
  · subst n; exact .same
  · have := EqN.tups (K := K) (H := H) (d := 3) (es := List.replicate ws.length true) n (SqT.of ha) (SqT.of hb) rfl (by simp) fun j x y e h1 h2 h3 => by
      rw [h1] at h2; cases h2
      obtain ⟨z, hz, rfl⟩ := strs_at h1
      have he : e = true := (List.mem_replicate.mp (List.mem_of_getElem? h3)).2
      subst he
      have := EqN.flat (K := K) (H := H) (d := 3) (x := .str z) (y := .str z) rfl rfl
      simpa [eqV] using this
    simpa using this
theorem eq_pts {K : PySem.W.Frag} {H : Hp} {neg : Bool} {a b : Addr} {tvs uvs : List V} {pss : List (List Str)} {Q : VK} (ha : H a = some (.lst tvs)) (hA : AllAt (TxS H) tvs pss) (hb : H b = some (.lst uvs)) (hB : AllAt (TxS H) uvs pss) (q : Q (.bl (!neg)) H) : rEqN K neg (.ref a) (.ref b) H Q := by
  refine ⟨a, b, tvs, uvs, rfl, rfl, .inl ⟨SqL.of ha, SqL.of hb⟩, .inr ⟨List.replicate tvs.length true, by rw [hA.len, hB.len], by simp, fun j x y e h1 h2 h3 => ?_, ?_⟩⟩
  · have he : e = true := (List.mem_replicate.mp (List.mem_of_getElem? h3)).2
    subst he
    obtain ⟨ss, es, t, rfl, ht⟩ := hA.of_v h1
    obtain ⟨ss', es', t', rfl, ht'⟩ := hB.of_v h2
    rw [es] at es'; cases es'
    exact eq_texts ht ht'
  · have : (List.replicate tvs.length true).all id = true := by simp
    rw [this]
    cases neg <;> exact q
theorem eq_cr {K : PySem.W.Frag} {H : Hp} {v u : V} {Q : VK} : ∀ {r : Option (Str × Nat × List Str)}, CrA H v r → CrA H u r → Q (.bl false) H → rNeU K v u H Q
  | none, h1, h2, q => by
    have e1 : v = .non := h1
    have e2 : u = .non := h2
    subst e1 e2
    exact .inr (.inr (.inl ⟨rfl, q⟩))
  | some (wd, k, ss), ⟨p, t, e1, hp, ht⟩, ⟨p', t', e2, hp', ht'⟩, q => by
    subst e1 e2
    refine .inl ⟨p, p', _, _, rfl, rfl, .inr ⟨SqT.of hp, SqT.of hp', rfl⟩, .inr ⟨[true, true, true], rfl, rfl, fun j x y e h1 h2 h3 => ?_, q⟩⟩
    match j, h1, h2, h3 with
    | 0, h1, h2, h3 =>
      cases h1; cases h2; cases h3
      have := EqN.flat (K := K) (H := H) (d := 4) (x := .str wd) (y := .str wd) rfl rfl
      simpa [eqV] using this
    | 1, h1, h2, h3 =>
      cases h1; cases h2; cases h3
      have := EqN.flat (K := K) (H := H) (d := 4) (x := .int (k : Nat)) (y := .int (k : Nat)) rfl rfl
      simpa [eqV] using this
    | 2, h1, h2, h3 => cases h1; cases h2; cases h3; exact eq_texts ht ht'
    | n + 3, h1, _, _ => simp at h1
end Bg
end
section
set_option Elab.async false
set_option linter.all false
set_option maxRecDepth 100000
set_option maxHeartbeats 4000000
namespace Bg
open PySem L2
theorem r_law {K : PySem.W.Frag} {vs : List V} {H : Hp} {Q : VK} {E : XK} (h : sp_law K vs H Q E) : t_law K { nx := fun _ H' => Q .non H', rt := Q } (start N_law vs) H := by
  obtain ⟨scr, zs, rfl, hscr, hzs, q⟩ := h
  refine ⟨_, rfl, (by show 3 ≤ sizeLine; decide), fun st hst => ?_⟩
  have S1 : Stt K (upd H st (.lst [.ref scr, .int 0, .int 0])) st 0 := ⟨scr, zs, 0, upd_same, hscr.mono (.of_same ((Same.refl H).new hst)), hzs⟩
  show t_law_11 K _ [some (.ref scr), some (.ref st), none, none, none, none, none, none, none] (upd H st (.lst [.ref scr, .int 0, .int 0]))
  generalize upd H st (.lst [.ref scr, .int 0, .int 0]) = H1 at S1 ⊢
  have rest : ∀ (pl : Int) (H2 : Hp), Stt K H2 st 3 → t_law_10 K { nx := fun _ H' => Q .non H', rt := Q } [some (.ref scr), some (.ref st), some (.int pl), none, none, none, none, none, none] H2 := fun pl H2 S2 => by
    refine ⟨_, rfl, _, rfl, st, 11, 3, rfl, S2, by decide, by decide, by decide, fun d H3 d0 d1 S3 B3 => .inl ⟨_, _, rfl, rfl, ?_⟩⟩
    obtain ⟨n, hn, n1, n11⟩ : ∃ n : Nat, (1 : Int) + d = (n : Int) ∧ 1 ≤ n ∧ n ≤ 11 := ⟨(1 + d).toNat, by lia, by lia, by lia⟩
    refine ⟨st, n, 4, by rw [← hn]; rfl, S3, by decide, by lia, fun nm ys k4 H4 nnm yl ynd ynm hnm S4 hk4 B4 => ?_⟩
    have nst : nm ≠ st := fun z => by obtain ⟨_, e⟩ := S3.lst; rw [z, e] at nnm; cases nnm
    show t_law_9 K _ [some (.ref scr), some (.ref st), some (.int pl), some (.ref nm), none, none, none, none, none] H4
    have works : ∀ (m : Nat) (k5 : Nat) (H5 : Hp), m ≤ 100 → k5 ≤ 100 → Stt K H5 st k5 → H5 nm = some (.lst (ys.map V.str)) → sp_works K [.ref st, .ref nm, .int (m : Nat)] H5 (fun x H' => t_law_8 K { nx := fun _ H' => Q .non H', rt := Q } [some (.ref scr), some (.ref st), some (.int pl), some (.ref nm), some x, none, none, none, none] H') E0 := fun m k5 H5 hm hk5 S5 hnm5 => by
      refine ⟨st, nm, m, k5, ys, rfl, S5, by lia, nst, hnm5, by lia, by lia, hm, fun wp wvs ws k6 H6 hwp hW wl wok S6 hk6 B6 => ?_⟩
      refine ⟨_, rfl, _, rfl, st, nm, 6, k6, ys, rfl, S6, by lia, nst, B6 _ _ nst hnm5, by lia, by decide, fun lt last k7 H7 hlt ll lin S7 hk7 B7 => ?_⟩
      have tp7 := but_tp S6 B7
      have hnm7 := B7 _ _ nst (B6 _ _ nst hnm5)
      have WA : WksA H7 wp lt ws last := ⟨⟨wvs, tp7 _ _ hwp, hW.imp fun _ _ z => z.tp tp7⟩, hlt⟩
      have F : Few ys last ws := ⟨by lia, by lia, by lia, fun w mw => ⟨Nat.le_trans (wok w mw).1 (by decide), (wok w mw).2⟩, lin⟩
      show t_law_7 K _ [some (.ref scr), some (.ref st), some (.int pl), some (.ref nm), some (.ref wp), some (.ref lt), none, none, none] H7
      refine ⟨_, rfl, _, rfl, _, rfl, wp, lt, nm, ws, last, ys, rfl, WA, F, hnm7, ynd, fun du dvs pss H8 ndu hdu hdA P s8 => ?_⟩
      show t_law_6 K _ [some (.ref scr), some (.ref st), some (.int pl), some (.ref nm), some (.ref wp), some (.ref lt), some (.ref du), none, none] H8
      refine ⟨_, rfl, _, rfl, wp, lt, ws, last, ys, rfl, WA.same s8, F, fun fo fvs pss' H9 nfo hfo hfA P' s9 => ?_⟩
      cases P'.one P
      have plen := P.len
      have fvl : fvs.length = pss.length := hfA.len
      have w100 := F.w100
      show t_law_5 K _ [some (.ref scr), some (.ref st), some (.int pl), some (.ref nm), some (.ref wp), some (.ref lt), some (.ref du), some (.ref fo), none] H9
      have dA9 : AllAt (TxS H9) dvs pss := hdA.imp fun _ _ z => z.mono fun b xs e => s9 _ _ e
      refine ⟨_, rfl, .ref fo, "list", true, rfl, .lst_list (SqL.of hfo), _, rfl, iteF ?_⟩
      refine ⟨_, rfl, _, rfl, .inl (eq_pts hfo hfA (s9 _ _ hdu) dA9 ⟨_, rfl, iteF ?_⟩)⟩
      refine .inl ⟨_, rfl, fo, rfl, ⟨_, SqL.of hfo⟩, fun D nD => ?_⟩
      refine comp_list (xs := fvs) (fun i σ' H' => ∃ o, σ' = [some (.ref scr), some (.ref st), some (.int pl), some (.ref nm), some (.ref wp), some (.ref lt), some (.ref du), some (.ref fo), none, o] ∧ H' D = some (.lst ((List.replicate i true).map V.bl)) ∧ Same H9 H') ⟨none, rfl, upd_same, (Same.refl H9).new nD⟩ ?_ ?_ ?_
      · rintro i σ' H' _ ⟨_, _, _, s⟩
        exact SqL.of (s _ _ hfo)
      · rintro i x σ' H' hx ⟨o, rfl, hD, s⟩
        obtain ⟨ss, es, t, rfl, ht⟩ := hfA.of_v hx
        have il := (List.getElem?_eq_some_iff.mp hx).1
        refine ⟨_, rfl, .ref t, "tuple", true, rfl, .tup_tuple (SqT.of (s _ _ ht)), _, hD, smallL (by rw [List.length_map, List.length_replicate]; lia), _, rfl, ?_, ?_⟩
        · rw [upd_same, List.replicate_succ', List.map_append]; rfl
        · exact fun b u h => by rw [upd_ne (ne_of_none h nD)]; exact s b u h
      · rintro σ' H10 ⟨o, rfl, hD, s10⟩
        refine ⟨D, _, rfl, SqL.of hD, _, rfl, ?_⟩
        have hall : ∀ n : Nat, (List.replicate n true).all id = true := fun n => by simp
        rw [hall]
        refine iteF ?_
        show t_law_4 K _ [some (.ref scr), some (.ref st), some (.int pl), some (.ref nm), some (.ref wp), some (.ref lt), some (.ref du), some (.ref fo), none] H10
        refine ⟨_, rfl, .inl ⟨rfl, _, SqL.of (s10 _ _ hfo)⟩, fo, _, rfl, rfl, s10 _ _ hfo, ?_⟩
        have S11 : Same H8 (upd H10 fo (.lst [])) := fun b u h => by rw [upd_ne (ne_of_none h nfo)]; exact s10 _ _ (s9 _ _ h)
        show t_law_3 K _ [some (.ref scr), some (.ref st), some (.int pl), some (.ref nm), some (.ref wp), some (.ref lt), some (.ref du), some (.ref fo), none] (upd H10 fo (.lst []))
        generalize upd H10 fo (.lst []) = H11 at S11 ⊢
        have WA11 := (WA.same s8).same S11
        refine ⟨_, rfl, _, rfl, _, rfl, pl, wp, lt, ws, last, ys, pss, rfl, WA11, F, P, fun tv H12 hc12 s12 => ?_⟩
        show t_law_2 K _ [some (.ref scr), some (.ref st), some (.int pl), some (.ref nm), some (.ref wp), some (.ref lt), some (.ref du), some (.ref fo), some tv] H12
        have WA12 := WA11.same s12
        obtain ⟨⟨wv, h12w, a12w⟩, _⟩ := id WA12
        have S12 := S11.trans s12
        refine ⟨_, rfl, _, rfl, _, rfl, _, rfl, pl, wp, du, wv, dvs, ws, pss, rfl, h12w, a12w, S12 _ _ hdu, hdA.imp fun _ _ z => z.mono fun b xs e => S12 _ _ e, P.len, F.w100, fun ss ms => ?_, fun cv H13 hc13 s13 => ?_⟩
        · obtain ⟨j, hj⟩ := List.getElem?_of_mem ms
          exact Nat.le_trans (len_in (P.at_ j ss hj).nd fun y hy => wn_in F.lst (fun w m => (F.ins w (List.mem_of_mem_drop m)).2) (((P.at_ j ss hj).mem y).mp hy)) (by lia)
        have up : ∀ {A B : Hp} {v : V} {r : Option (Str × Nat × List Str)}, CrA A v r → Same A B → CrA B v r := fun {A B v r} h s => by
          cases r with
          | none => exact h
          | some x => obtain ⟨wd, k, ss⟩ := x; obtain ⟨p, t, e, a, b⟩ := h; exact ⟨p, t, e, s _ _ a, s _ _ b⟩
        have c13 := up hc12 s13
        refine eq_cr c13 hc13 ⟨_, rfl, iteF ?_⟩
        refine ⟨_, rfl, _, rfl, _, rfl, pl, wp, lt, ws, last, ys, pss, rfl, WA12.same s13, F, P, fun c2 H14 hc14 s14 => ⟨_, rfl, eq_cr hc14 (up c13 s14) ⟨_, rfl, iteF ?_⟩⟩⟩
        show t_law_1 K _ [some (.ref scr), some (.ref st), some (.int pl), some (.ref nm), some (.ref wp), some (.ref lt), some (.ref du), some (.ref fo), some tv] H14
        have S14 := (S12.trans s13).trans s14
        refine ⟨_, rfl, _, rfl, wp, lt, ws, last, ys, rfl, (WA12.same s13).same s14, F, fun f2 f2vs pss2 H15 nf2 hf2 hA2 P2 s15 => ?_⟩
        cases P2.one P
        exact ⟨_, rfl, .inl (eq_pts hf2 hA2 (s15 _ _ (S14 _ _ hdu)) (hdA.imp fun _ _ z => z.mono fun b xs e => s15 _ _ (S14 _ _ e)) (q H15))⟩
    refine ⟨_, rfl, _, rfl, (by show 2 ≤ sizeLine; decide), fun l5 n5 => ?_⟩
    have S5 := S4.new (o := .lst [V.int 10, V.int 30]) n5
    have h5 : upd H4 l5 (.lst [V.int 10, V.int 30]) l5 = some (.lst [V.int 10, V.int 30]) := upd_same
    have n5st : l5 ≠ st := fun z => by obtain ⟨_, e⟩ := S4.lst; rw [z, e] at n5; cases n5
    have nm5 : upd H4 l5 (.lst [V.int 10, V.int 30]) nm = some (.lst (ys.map V.str)) := by rw [upd_ne (ne_of_none hnm n5)]; exact hnm
    generalize upd H4 l5 (.lst [V.int 10, V.int 30]) = H5 at S5 h5 nm5 ⊢
    refine ⟨_, rfl, st, 8, k4, rfl, S5, by lia, by decide, by decide, fun c H6 c0 c1 S6 B6 => .inr (.inr (.inl ⟨rfl, .inr ⟨_, rfl, ?_⟩⟩))⟩
    have h6 := B6 _ _ n5st h5
    have m6 := B6 _ _ nst nm5
    cases decide (V.int c = V.int 1) with
    | true => exact ixL (SqL.of h6) (by decide) rfl (works 30 (k4 + 1) H6 (by decide) (by lia) S6 m6)
    | false => exact ixL (SqL.of h6) (by decide) rfl (works 10 (k4 + 1) H6 (by decide) (by lia) S6 m6)
  refine ⟨_, rfl, st, 6, 0, rfl, S1, by decide, by decide, by decide, fun a H2 a0 a1 S2 B2 => ⟨_, rfl, st, 16, 1, rfl, S2, by decide, by decide, by decide, fun b H3 b0 b1 S3 B3 => ⟨(by show 2 ≤ sizeLine; decide), fun l4 n4 => ?_⟩⟩⟩
  have S4 := S3.new (o := .lst [V.int a, V.int b]) n4
  have h4 : upd H3 l4 (.lst [V.int a, V.int b]) l4 = some (.lst [V.int a, V.int b]) := upd_same
  have n4st : l4 ≠ st := fun z => by obtain ⟨_, e⟩ := S3.lst; rw [z, e] at n4; cases n4
  generalize upd H3 l4 (.lst [V.int a, V.int b]) = H4 at S4 h4 ⊢
  refine ⟨_, rfl, st, 4, 2, rfl, S4, by decide, by decide, by decide, fun c H5 c0 c1 S5 B5 => .inr (.inr (.inl ⟨rfl, .inr ⟨_, rfl, ?_⟩⟩))⟩
  have h5 := B5 _ _ n4st h4
  cases decide (V.int c = V.int 1) with
  | true => exact ixL (SqL.of h5) (by decide) rfl (.inl ⟨_, _, rfl, rfl, rest _ H5 S5⟩)
  | false => exact ixL (SqL.of h5) (by decide) rfl (.inl ⟨_, _, rfl, rfl, rest _ H5 S5⟩)
end Bg
end
set_option Elab.async false
set_option linter.all false
set_option maxRecDepth 100000
set_option maxHeartbeats 4000000
namespace Bg
open PySem PySem.Spec PyProof.Rows L2
section
variable {P : Program} {w : World} {K : PySem.W.Frag} {mg : Str → Option Value} {base : Heap}
theorem len_p_without {vs : List V} {H : Hp} {Q : VK} {E : XK} (h : sp_p_without K vs H Q E) : vs.length = PS_p_without.length := by
  first | (obtain ⟨_, _, _, rfl, _⟩ := h; rfl)
theorem ok_p_without {f : Addr} {fd : FuncData} (F : Fun K "without" "without" s_p_without f fd) (B : Blt mg)  : FnOk P w K mg base CX0 K_p_without f fd PS_p_without (sp_p_without K) :=
  F.ok sc_p_without (fun vs H Q E h => len_p_without h) fun cdv A outer s H vs Q E hr h => ⟨_, d_p_without B hr, r_p_without (E := E) h⟩
theorem len_p_wanted_at {vs : List V} {H : Hp} {Q : VK} {E : XK} (h : sp_p_wanted_at K vs H Q E) : vs.length = PS_p_wanted_at.length := by
  first | (obtain ⟨_, _, _, _, _, rfl, _⟩ := h; rfl)
theorem ok_p_wanted_at {f : Addr} {fd : FuncData} (F : Fun K "wanted_at" "wanted_at" s_p_wanted_at f fd) (B : Blt mg) (c_p_without : Callee P w K mg base "without" PS_p_without K_p_without (sp_p_without K)) : FnOk P w K mg base CX0 K_p_wanted_at f fd PS_p_wanted_at (sp_p_wanted_at K) :=
  F.ok sc_p_wanted_at (fun vs H Q E h => len_p_wanted_at h) fun cdv A outer s H vs Q E hr h => ⟨_, d_p_wanted_at B c_p_without hr, r_p_wanted_at (E := E) h⟩
theorem len_p_crowded {vs : List V} {H : Hp} {Q : VK} {E : XK} (h : sp_p_crowded K vs H Q E) : vs.length = PS_p_crowded.length := by
  first | (obtain ⟨_, _, _, _, _, _, _, rfl, _⟩ := h; rfl)
theorem ok_p_crowded {f : Addr} {fd : FuncData} (F : Fun K "crowded" "crowded" s_p_crowded f fd) (B : Blt mg) (c_p_without : Callee P w K mg base "without" PS_p_without K_p_without (sp_p_without K)) (c_p_wanted_at : Callee P w K mg base "wanted_at" PS_p_wanted_at K_p_wanted_at (sp_p_wanted_at K)) : FnOk P w K mg base CX0 K_p_crowded f fd PS_p_crowded (sp_p_crowded K) :=
  F.ok sc_p_crowded (fun vs H Q E h => len_p_crowded h) fun cdv A outer s H vs Q E hr h => ⟨_, d_p_crowded B c_p_without c_p_wanted_at hr, r_p_crowded (E := E) h⟩
theorem len_crowded {vs : List V} {H : Hp} {Q : VK} {E : XK} (h : sp_crowded K vs H Q E) : vs.length = PS_crowded.length := by
  first | (obtain ⟨_, _, _, _, _, _, _, rfl, _⟩ := h; rfl)
theorem ok_crowded {f : Addr} {fd : FuncData} (F : Fun K "_law_crowded" "_law_crowded" s_crowded f fd) (B : Blt mg)  : FnOk P w K mg base CX0 K_crowded f fd PS_crowded (sp_crowded K) :=
  F.ok sc_crowded (fun vs H Q E h => len_crowded h) fun cdv A outer s H vs Q E hr h => ⟨_, d_crowded B hr, r_crowded (E := E) h⟩
theorem len_is_wanted {vs : List V} {H : Hp} {Q : VK} {E : XK} (h : sp_is_wanted K vs H Q E) : vs.length = PS_is_wanted.length := by
  first | (obtain ⟨_, _, _, _, _, rfl, _⟩ := h; rfl) | (obtain ⟨_, _, _, _, _, _, rfl, _⟩ := h; rfl)
theorem ok_is_wanted {f : Addr} {fd : FuncData} (F : Fun K "_law_is_wanted" "_law_is_wanted" s_is_wanted f fd) (B : Blt mg)  : FnOk P w K mg base CX0 K_is_wanted f fd PS_is_wanted (sp_is_wanted K) :=
  F.ok sc_is_wanted (fun vs H Q E h => len_is_wanted h) fun cdv A outer s H vs Q E hr h => ⟨_, d_is_wanted B hr, r_is_wanted (E := E) h⟩
theorem len_points {vs : List V} {H : Hp} {Q : VK} {E : XK} (h : sp_points K vs H Q E) : vs.length = PS_points.length := by
  first | (obtain ⟨_, _, _, _, _, _, rfl, _⟩ := h; rfl)
theorem ok_points {f : Addr} {fd : FuncData} (F : Fun K "_law_points" "_law_points" s_points f fd) (B : Blt mg) (c_is_wanted : Callee P w K mg base "_law_is_wanted" PS_is_wanted K_is_wanted (sp_is_wanted K)) : FnOk P w K mg base CX0 K_points f fd PS_points (sp_points K) :=
  F.ok sc_points (fun vs H Q E h => len_points h) fun cdv A outer s H vs Q E hr h => ⟨_, d_points B c_is_wanted hr, r_points (E := E) h⟩
theorem len_draw {vs : List V} {H : Hp} {Q : VK} {E : XK} (h : sp_draw K vs H Q E) : vs.length = PS_draw.length := by
  first | (obtain ⟨_, _, _, rfl, _⟩ := h; rfl)
theorem ok_draw {f : Addr} {fd : FuncData} (F : Fun K "_law_draw" "_law_draw" s_draw f fd) (B : Blt mg)  : FnOk P w K mg base CX0 K_draw f fd PS_draw (sp_draw K) :=
  F.ok sc_draw (fun vs H Q E h => len_draw h) fun cdv A outer s H vs Q E hr h => ⟨_, d_draw B hr, r_draw (E := E) h⟩
theorem len_last {vs : List V} {H : Hp} {Q : VK} {E : XK} (h : sp_last K vs H Q E) : vs.length = PS_last.length := by
  first | (obtain ⟨_, _, _, _, _, rfl, _⟩ := h; rfl)
theorem ok_last {f : Addr} {fd : FuncData} (F : Fun K "_law_last" "_law_last" s_last f fd) (B : Blt mg) (c_draw : Callee P w K mg base "_law_draw" PS_draw K_draw (sp_draw K)) : FnOk P w K mg base CX0 K_last f fd PS_last (sp_last K) :=
  F.ok sc_last (fun vs H Q E h => len_last h) fun cdv A outer s H vs Q E hr h => ⟨_, d_last B c_draw hr, r_last (E := E) h⟩
theorem len_thing {vs : List V} {H : Hp} {Q : VK} {E : XK} (h : sp_thing K vs H Q E) : vs.length = PS_thing.length := by
  first | (obtain ⟨_, _, rfl, _⟩ := h; rfl) | (obtain ⟨_, _, _, _, rfl, _⟩ := h; rfl)
theorem ok_thing {f : Addr} {fd : FuncData} (F : Fun K "_law_thing" "_law_thing" s_thing f fd) (B : Blt mg) (c_draw : Callee P w K mg base "_law_draw" PS_draw K_draw (sp_draw K)) : FnOk P w K mg base CX0 K_thing f fd PS_thing (sp_thing K) :=
  F.ok sc_thing (fun vs H Q E h => len_thing h) fun cdv A outer s H vs Q E hr h => ⟨_, d_thing B c_draw hr, r_thing (E := E) h⟩
theorem len_works {vs : List V} {H : Hp} {Q : VK} {E : XK} (h : sp_works K vs H Q E) : vs.length = PS_works.length := by
  first | (obtain ⟨_, _, _, _, _, rfl, _⟩ := h; rfl)
theorem ok_works {f : Addr} {fd : FuncData} (F : Fun K "_law_works" "_law_works" s_works f fd) (B : Blt mg) (c_draw : Callee P w K mg base "_law_draw" PS_draw K_draw (sp_draw K)) (c_thing : Callee P w K mg base "_law_thing" PS_thing K_thing (sp_thing K)) : FnOk P w K mg base CX0 K_works f fd PS_works (sp_works K) :=
  F.ok sc_works (fun vs H Q E h => len_works h) fun cdv A outer s H vs Q E hr h => ⟨_, d_works B c_draw c_thing hr, r_works (E := E) h⟩
theorem len_names {vs : List V} {H : Hp} {Q : VK} {E : XK} (h : sp_names K vs H Q E) : vs.length = PS_names.length := by
  first | (obtain ⟨_, _, _, rfl, _⟩ := h; rfl)
theorem ok_names {f : Addr} {fd : FuncData} (F : Fun K "_law_names" "_law_names" s_names f fd) (B : Blt mg) (c_draw : Callee P w K mg base "_law_draw" PS_draw K_draw (sp_draw K)) : FnOk P w K mg base CX0 K_names f fd PS_names (sp_names K) :=
  F.ok sc_names (fun vs H Q E h => len_names h) fun cdv A outer s H vs Q E hr h => ⟨_, d_names B c_draw hr, r_names (E := E) h⟩
theorem len_law {vs : List V} {H : Hp} {Q : VK} {E : XK} (h : sp_law K vs H Q E) : vs.length = PS_law.length := by
  first | (obtain ⟨_, _, rfl, _⟩ := h; rfl)
theorem ok_law {f : Addr} {fd : FuncData} (F : Fun K "law" "law" s_law f fd) (B : Blt mg) (c_p_wanted_at : Callee P w K mg base "wanted_at" PS_p_wanted_at K_p_wanted_at (sp_p_wanted_at K)) (c_p_crowded : Callee P w K mg base "crowded" PS_p_crowded K_p_crowded (sp_p_crowded K)) (c_crowded : Callee P w K mg base "_law_crowded" PS_crowded K_crowded (sp_crowded K)) (c_points : Callee P w K mg base "_law_points" PS_points K_points (sp_points K)) (c_last : Callee P w K mg base "_law_last" PS_last K_last (sp_last K)) (c_draw : Callee P w K mg base "_law_draw" PS_draw K_draw (sp_draw K)) (c_works : Callee P w K mg base "_law_works" PS_works K_works (sp_works K)) (c_names : Callee P w K mg base "_law_names" PS_names K_names (sp_names K)) : FnOk P w K mg base CX0 K_law f fd PS_law (sp_law K) :=
  F.ok sc_law (fun vs H Q E h => len_law h) fun cdv A outer s H vs Q E hr h => ⟨_, d_law B c_p_wanted_at c_p_crowded c_crowded c_points c_last c_draw c_works c_names hr, r_law (E := E) h⟩
end
theorem all_mk {l : PySem.W.OpenLaw} {w : World} {K : PySem.W.Frag} {h : Heap} {mg : Str → Option Value} {fa : Addr} (X : K.In h) (G : h.Ns mainGlobals mg) (hfa : mg "law" = some (.ref fa))
    {od0 an0 : Option Addr} {sl0 : Array (Option Value)} {oc0 kV0 dc0 pm0 cd0 ct0 : Value} {f0 : Addr}
    (a0 : PySem.W.nsIn K mainGlobals "without" = some (some (.ref f0)))
    (l0 : K.lookup f0 = some ⟨oc0, od0, .func (PySem.W.fnOf "without" "without" (defArgs s_p_without) (defBody s_p_without) (defScope s_p_without) .none kV0 dc0 pm0 an0 cd0 ct0), sl0⟩) (c0 : PySem.W.codeIn K cd0 "without" = true) (k0 : PySem.W.keepIn K (.ref f0) = true)
    {od1 an1 : Option Addr} {sl1 : Array (Option Value)} {oc1 kV1 dc1 pm1 cd1 ct1 : Value} {f1 : Addr}
    (a1 : PySem.W.nsIn K mainGlobals "wanted_at" = some (some (.ref f1)))
    (l1 : K.lookup f1 = some ⟨oc1, od1, .func (PySem.W.fnOf "wanted_at" "wanted_at" (defArgs s_p_wanted_at) (defBody s_p_wanted_at) (defScope s_p_wanted_at) .none kV1 dc1 pm1 an1 cd1 ct1), sl1⟩) (c1 : PySem.W.codeIn K cd1 "wanted_at" = true) (k1 : PySem.W.keepIn K (.ref f1) = true)
    {od2 an2 : Option Addr} {sl2 : Array (Option Value)} {oc2 kV2 dc2 pm2 cd2 ct2 : Value} {f2 : Addr}
    (a2 : PySem.W.nsIn K mainGlobals "crowded" = some (some (.ref f2)))
    (l2 : K.lookup f2 = some ⟨oc2, od2, .func (PySem.W.fnOf "crowded" "crowded" (defArgs s_p_crowded) (defBody s_p_crowded) (defScope s_p_crowded) .none kV2 dc2 pm2 an2 cd2 ct2), sl2⟩) (c2 : PySem.W.codeIn K cd2 "crowded" = true) (k2 : PySem.W.keepIn K (.ref f2) = true)
    {od3 an3 : Option Addr} {sl3 : Array (Option Value)} {oc3 kV3 dc3 pm3 cd3 ct3 : Value} {f3 : Addr}
    (a3 : PySem.W.nsIn K mainGlobals "_law_crowded" = some (some (.ref f3)))
    (l3 : K.lookup f3 = some ⟨oc3, od3, .func (PySem.W.fnOf "_law_crowded" "_law_crowded" (defArgs s_crowded) (defBody s_crowded) (defScope s_crowded) .none kV3 dc3 pm3 an3 cd3 ct3), sl3⟩) (c3 : PySem.W.codeIn K cd3 "_law_crowded" = true) (k3 : PySem.W.keepIn K (.ref f3) = true)
    {od4 an4 : Option Addr} {sl4 : Array (Option Value)} {oc4 kV4 dc4 pm4 cd4 ct4 : Value} {f4 : Addr}
    (a4 : PySem.W.nsIn K mainGlobals "_law_is_wanted" = some (some (.ref f4)))
    (l4 : K.lookup f4 = some ⟨oc4, od4, .func (PySem.W.fnOf "_law_is_wanted" "_law_is_wanted" (defArgs s_is_wanted) (defBody s_is_wanted) (defScope s_is_wanted) .none kV4 dc4 pm4 an4 cd4 ct4), sl4⟩) (c4 : PySem.W.codeIn K cd4 "_law_is_wanted" = true) (k4 : PySem.W.keepIn K (.ref f4) = true)
    {od5 an5 : Option Addr} {sl5 : Array (Option Value)} {oc5 kV5 dc5 pm5 cd5 ct5 : Value} {f5 : Addr}
    (a5 : PySem.W.nsIn K mainGlobals "_law_points" = some (some (.ref f5)))
    (l5 : K.lookup f5 = some ⟨oc5, od5, .func (PySem.W.fnOf "_law_points" "_law_points" (defArgs s_points) (defBody s_points) (defScope s_points) .none kV5 dc5 pm5 an5 cd5 ct5), sl5⟩) (c5 : PySem.W.codeIn K cd5 "_law_points" = true) (k5 : PySem.W.keepIn K (.ref f5) = true)
    {od6 an6 : Option Addr} {sl6 : Array (Option Value)} {oc6 kV6 dc6 pm6 cd6 ct6 : Value} {f6 : Addr}
    (a6 : PySem.W.nsIn K mainGlobals "_law_draw" = some (some (.ref f6)))
    (l6 : K.lookup f6 = some ⟨oc6, od6, .func (PySem.W.fnOf "_law_draw" "_law_draw" (defArgs s_draw) (defBody s_draw) (defScope s_draw) .none kV6 dc6 pm6 an6 cd6 ct6), sl6⟩) (c6 : PySem.W.codeIn K cd6 "_law_draw" = true) (k6 : PySem.W.keepIn K (.ref f6) = true)
    {od7 an7 : Option Addr} {sl7 : Array (Option Value)} {oc7 kV7 dc7 pm7 cd7 ct7 : Value} {f7 : Addr}
    (a7 : PySem.W.nsIn K mainGlobals "_law_last" = some (some (.ref f7)))
    (l7 : K.lookup f7 = some ⟨oc7, od7, .func (PySem.W.fnOf "_law_last" "_law_last" (defArgs s_last) (defBody s_last) (defScope s_last) .none kV7 dc7 pm7 an7 cd7 ct7), sl7⟩) (c7 : PySem.W.codeIn K cd7 "_law_last" = true) (k7 : PySem.W.keepIn K (.ref f7) = true)
    {od8 an8 : Option Addr} {sl8 : Array (Option Value)} {oc8 kV8 dc8 pm8 cd8 ct8 : Value} {f8 : Addr}
    (a8 : PySem.W.nsIn K mainGlobals "_law_thing" = some (some (.ref f8)))
    (l8 : K.lookup f8 = some ⟨oc8, od8, .func (PySem.W.fnOf "_law_thing" "_law_thing" (defArgs s_thing) (defBody s_thing) (defScope s_thing) .none kV8 dc8 pm8 an8 cd8 ct8), sl8⟩) (c8 : PySem.W.codeIn K cd8 "_law_thing" = true) (k8 : PySem.W.keepIn K (.ref f8) = true)
    {od9 an9 : Option Addr} {sl9 : Array (Option Value)} {oc9 kV9 dc9 pm9 cd9 ct9 : Value} {f9 : Addr}
    (a9 : PySem.W.nsIn K mainGlobals "_law_works" = some (some (.ref f9)))
    (l9 : K.lookup f9 = some ⟨oc9, od9, .func (PySem.W.fnOf "_law_works" "_law_works" (defArgs s_works) (defBody s_works) (defScope s_works) .none kV9 dc9 pm9 an9 cd9 ct9), sl9⟩) (c9 : PySem.W.codeIn K cd9 "_law_works" = true) (k9 : PySem.W.keepIn K (.ref f9) = true)
    {od10 an10 : Option Addr} {sl10 : Array (Option Value)} {oc10 kV10 dc10 pm10 cd10 ct10 : Value} {f10 : Addr}
    (a10 : PySem.W.nsIn K mainGlobals "_law_names" = some (some (.ref f10)))
    (l10 : K.lookup f10 = some ⟨oc10, od10, .func (PySem.W.fnOf "_law_names" "_law_names" (defArgs s_names) (defBody s_names) (defScope s_names) .none kV10 dc10 pm10 an10 cd10 ct10), sl10⟩) (c10 : PySem.W.codeIn K cd10 "_law_names" = true) (k10 : PySem.W.keepIn K (.ref f10) = true)
    {od11 an11 : Option Addr} {sl11 : Array (Option Value)} {oc11 kV11 dc11 pm11 cd11 ct11 : Value} {f11 : Addr}
    (a11 : PySem.W.nsIn K mainGlobals "law" = some (some (.ref f11)))
    (l11 : K.lookup f11 = some ⟨oc11, od11, .func (PySem.W.fnOf "law" "law" (defArgs s_law) (defBody s_law) (defScope s_law) .none kV11 dc11 pm11 an11 cd11 ct11), sl11⟩) (c11 : PySem.W.codeIn K cd11 "law" = true) (k11 : PySem.W.keepIn K (.ref f11) = true)
    (z_len : PySem.W.nsIn K mainGlobals "len" = some none) (z_range : PySem.W.nsIn K mainGlobals "range" = some none) (z_divmod : PySem.W.nsIn K mainGlobals "divmod" = some none) (z_max : PySem.W.nsIn K mainGlobals "max" = some none) (z_min : PySem.W.nsIn K mainGlobals "min" = some none) (z_sum : PySem.W.nsIn K mainGlobals "sum" = some none) (z_all : PySem.W.nsIn K mainGlobals "all" = some none) (z_isinstance : PySem.W.nsIn K mainGlobals "isinstance" = some none) (z_int : PySem.W.nsIn K mainGlobals "int" = some none) (z_bool : PySem.W.nsIn K mainGlobals "bool" = some none) (z_list : PySem.W.nsIn K mainGlobals "list" = some none) (z_tuple : PySem.W.nsIn K mainGlobals "tuple" = some none) (z_enumerate : PySem.W.nsIn K mainGlobals "enumerate" = some none) (z_zip : PySem.W.nsIn K mainGlobals "zip" = some none) (z_sorted : PySem.W.nsIn K mainGlobals "sorted" = some none) (z_set : PySem.W.nsIn K mainGlobals "set" = some none) (z_dict : PySem.W.nsIn K mainGlobals "dict" = some none) (z_str : PySem.W.nsIn K mainGlobals "str" = some none) (z_any : PySem.W.nsIn K mainGlobals "any" = some none) (z_reversed : PySem.W.nsIn K mainGlobals "reversed" = some none) (z_abs : PySem.W.nsIn K mainGlobals "abs" = some none) :
    ∃ fd : FuncData, (∀ (s : Shared) (v : Value), BindsTo s fd ⟨[v], []⟩ [("_law_script", v)]) ∧ ∀ base : Heap, K.In base → base.Ns mainGlobals mg → FnOk l.prog w K mg base CX0 K_law fa fd PS_law (sp_law K) := by
  have e := hfa.symm.trans (PySem.W.mg_of X G a11)
  cases e
  have B : Blt mg := ⟨PySem.W.mg_none_of X G z_len, PySem.W.mg_none_of X G z_range, PySem.W.mg_none_of X G z_divmod, PySem.W.mg_none_of X G z_max, PySem.W.mg_none_of X G z_min, PySem.W.mg_none_of X G z_sum, PySem.W.mg_none_of X G z_all, PySem.W.mg_none_of X G z_isinstance, PySem.W.mg_none_of X G z_int, PySem.W.mg_none_of X G z_bool, PySem.W.mg_none_of X G z_list, PySem.W.mg_none_of X G z_tuple, PySem.W.mg_none_of X G z_enumerate, PySem.W.mg_none_of X G z_zip, PySem.W.mg_none_of X G z_sorted, PySem.W.mg_none_of X G z_set, PySem.W.mg_none_of X G z_dict, PySem.W.mg_none_of X G z_str, PySem.W.mg_none_of X G z_any, PySem.W.mg_none_of X G z_reversed, PySem.W.mg_none_of X G z_abs⟩
  have F0 := fun_mk (st := s_p_without) l0 c0 k0
  have b0 := F0.binds (ps := PS_p_without) fun _ _ _ _ _ _ us hl => by (obtain ⟨_, _, rfl⟩ := le2 (us := us) hl); rfl
  have F1 := fun_mk (st := s_p_wanted_at) l1 c1 k1
  have b1 := F1.binds (ps := PS_p_wanted_at) fun _ _ _ _ _ _ us hl => by (obtain ⟨_, _, rfl⟩ := le2 (us := us) hl); rfl
  have F2 := fun_mk (st := s_p_crowded) l2 c2 k2
  have b2 := F2.binds (ps := PS_p_crowded) fun _ _ _ _ _ _ us hl => by (obtain ⟨_, _, _, rfl⟩ := le3 (us := us) hl); rfl
  have F3 := fun_mk (st := s_crowded) l3 c3 k3
  have b3 := F3.binds (ps := PS_crowded) fun _ _ _ _ _ _ us hl => by (obtain ⟨_, _, _, rfl⟩ := le3 (us := us) hl); rfl
  have F4 := fun_mk (st := s_is_wanted) l4 c4 k4
  have b4 := F4.binds (ps := PS_is_wanted) fun _ _ _ _ _ _ us hl => by (obtain ⟨_, _, _, _, rfl⟩ := le4 (us := us) hl); rfl
  have F5 := fun_mk (st := s_points) l5 c5 k5
  have b5 := F5.binds (ps := PS_points) fun _ _ _ _ _ _ us hl => by (obtain ⟨_, _, _, rfl⟩ := le3 (us := us) hl); rfl
  have F6 := fun_mk (st := s_draw) l6 c6 k6
  have b6 := F6.binds (ps := PS_draw) fun _ _ _ _ _ _ us hl => by (obtain ⟨_, _, rfl⟩ := le2 (us := us) hl); rfl
  have F7 := fun_mk (st := s_last) l7 c7 k7
  have b7 := F7.binds (ps := PS_last) fun _ _ _ _ _ _ us hl => by (obtain ⟨_, _, _, rfl⟩ := le3 (us := us) hl); rfl
  have F8 := fun_mk (st := s_thing) l8 c8 k8
  have b8 := F8.binds (ps := PS_thing) fun _ _ _ _ _ _ us hl => by (obtain ⟨_, _, rfl⟩ := le2 (us := us) hl); rfl
  have F9 := fun_mk (st := s_works) l9 c9 k9
  have b9 := F9.binds (ps := PS_works) fun _ _ _ _ _ _ us hl => by (obtain ⟨_, _, _, rfl⟩ := le3 (us := us) hl); rfl
  have F10 := fun_mk (st := s_names) l10 c10 k10
  have b10 := F10.binds (ps := PS_names) fun _ _ _ _ _ _ us hl => by (obtain ⟨_, _, rfl⟩ := le2 (us := us) hl); rfl
  have F11 := fun_mk (st := s_law) l11 c11 k11
  refine ⟨PySem.W.fnOf "law" "law" (defArgs s_law) (defBody s_law) (defScope s_law) .none kV11 dc11 pm11 an11 cd11 ct11, fun s v => .of_eq rfl, fun base _ _ => ?_⟩
  have c_p_without : Callee l.prog w K mg base "without" PS_p_without K_p_without (sp_p_without K) := ⟨⟨_, _, PySem.W.mg_of X G a0, k0, b0, ok_p_without F0 B⟩⟩
  have c_p_wanted_at : Callee l.prog w K mg base "wanted_at" PS_p_wanted_at K_p_wanted_at (sp_p_wanted_at K) := ⟨⟨_, _, PySem.W.mg_of X G a1, k1, b1, ok_p_wanted_at F1 B c_p_without⟩⟩
  have c_p_crowded : Callee l.prog w K mg base "crowded" PS_p_crowded K_p_crowded (sp_p_crowded K) := ⟨⟨_, _, PySem.W.mg_of X G a2, k2, b2, ok_p_crowded F2 B c_p_without c_p_wanted_at⟩⟩
  have c_crowded : Callee l.prog w K mg base "_law_crowded" PS_crowded K_crowded (sp_crowded K) := ⟨⟨_, _, PySem.W.mg_of X G a3, k3, b3, ok_crowded F3 B⟩⟩
  have c_is_wanted : Callee l.prog w K mg base "_law_is_wanted" PS_is_wanted K_is_wanted (sp_is_wanted K) := ⟨⟨_, _, PySem.W.mg_of X G a4, k4, b4, ok_is_wanted F4 B⟩⟩
  have c_points : Callee l.prog w K mg base "_law_points" PS_points K_points (sp_points K) := ⟨⟨_, _, PySem.W.mg_of X G a5, k5, b5, ok_points F5 B c_is_wanted⟩⟩
  have c_draw : Callee l.prog w K mg base "_law_draw" PS_draw K_draw (sp_draw K) := ⟨⟨_, _, PySem.W.mg_of X G a6, k6, b6, ok_draw F6 B⟩⟩
  have c_last : Callee l.prog w K mg base "_law_last" PS_last K_last (sp_last K) := ⟨⟨_, _, PySem.W.mg_of X G a7, k7, b7, ok_last F7 B c_draw⟩⟩
  have c_thing : Callee l.prog w K mg base "_law_thing" PS_thing K_thing (sp_thing K) := ⟨⟨_, _, PySem.W.mg_of X G a8, k8, b8, ok_thing F8 B c_draw⟩⟩
  have c_works : Callee l.prog w K mg base "_law_works" PS_works K_works (sp_works K) := ⟨⟨_, _, PySem.W.mg_of X G a9, k9, b9, ok_works F9 B c_draw c_thing⟩⟩
  have c_names : Callee l.prog w K mg base "_law_names" PS_names K_names (sp_names K) := ⟨⟨_, _, PySem.W.mg_of X G a10, k10, b10, ok_names F10 B c_draw⟩⟩
  exact ok_law F11 B c_p_wanted_at c_p_crowded c_crowded c_points c_last c_draw c_works c_names
theorem scr_of {K : PySem.W.Frag} {H : Hp} {a : Addr} {ns : List Int} (o : Only H) (h : SqL K H a (ns.map V.int)) : ScrAt K H a ns := by
  rcases h with (h | h) | h
  · rcases o a with z | ⟨ob, xs, z⟩ <;> rw [h] at z <;> cases z
  · exact .inl h
  · exact .inr h
theorem walk {l : PySem.W.OpenLaw} {q : Program} {loose : List Str} {XP : (Str → Option Value) → Heap → Prop} {YP : World → Heap → Prop} {d : DefRec} {K : Params → PySem.W.Frag} (hn : l.most = some 63) (hdf : d.params.defaults = [])
    (hY : ∀ (w : World) (h : Heap), YP w h → (K w.params).In h)
    (F : ∀ (w : World) (mg : Str → Option Value) (fa : Addr) (h : Heap), (K w.params).In h → h.Ns mainGlobals mg → mg d.name = some (.ref fa) →
      ∃ fd : FuncData, (∀ (s : Shared) (u : Value), BindsTo s fd ⟨[u], []⟩ [("_law_script", u)]) ∧ ∀ base : Heap, (K w.params).In base → base.Ns mainGlobals mg → FnOk l.prog w (K w.params) mg base CX0 K_law fa fd PS_law (sp_law (K w.params))) :
    PySem.W.WalkO q loose XP YP l.row.toRowW d [] (fun f vs => PySem.call f vs) :=
  L2.walk_of (n := 63) (k := K_law) (x := "_law_script") (CX := fun _ => CX0) (sp := fun w => sp_law (K w.params)) hn (by decide) hdf ⟨rfl, by decide, by decide⟩ hY F (fun _ _ a ns hl hO hS => ⟨a, ns, rfl, scr_of hO hS, hl, fun _ => rfl⟩) fun _ _ _ _ _ z => z
end Bg
open PySem PySem.W PyProof.Rows
set_option maxRecDepth 100000 in
set_option maxHeartbeats 0 in
theorem PySem.Challenge.cw_beltgarth_k61_wanted_and_crowded_holds : PySem.Challenge.rw_beltgarth_k61_wanted_and_crowded.Holds := by
  w_on; o_law; k_head; (case hw => w_witness2)
  k_fill
  refine Bg.walk (l := PySem.Challenge.rw_beltgarth_k61_wanted_and_crowded) rfl rfl (fun w h Y => PySem.W.kIn_of Y) ?F
  case F =>
    intro w mg fa h KX G hmg
    refine' Bg.all_mk KX G hmg ?a0 ?l0 ?c0 ?k0 ?a1 ?l1 ?c1 ?k1 ?a2 ?l2 ?c2 ?k2 ?a3 ?l3 ?c3 ?k3 ?a4 ?l4 ?c4 ?k4 ?a5 ?l5 ?c5 ?k5 ?a6 ?l6 ?c6 ?k6 ?a7 ?l7 ?c7 ?k7 ?a8 ?l8 ?c8 ?k8 ?a9 ?l9 ?c9 ?k9 ?a10 ?l10 ?c10 ?k10 ?a11 ?l11 ?c11 ?k11 ?z_len ?z_range ?z_divmod ?z_max ?z_min ?z_sum ?z_all ?z_isinstance ?z_int ?z_bool ?z_list ?z_tuple ?z_enumerate ?z_zip ?z_sorted ?z_set ?z_dict ?z_str ?z_any ?z_reversed ?z_abs
    (case a0 => k_is)
    (case l0 => k_is)
    (case c0 => k_is)
    (case k0 => k_is)
    (case a1 => k_is)
    (case l1 => k_is)
    (case c1 => k_is)
    (case k1 => k_is)
    (case a2 => k_is)
    (case l2 => k_is)
    (case c2 => k_is)
    (case k2 => k_is)
    (case a3 => k_is)
    (case l3 => k_is)
    (case c3 => k_is)
    (case k3 => k_is)
    (case a4 => k_is)
    (case l4 => k_is)
    (case c4 => k_is)
    (case k4 => k_is)
    (case a5 => k_is)
    (case l5 => k_is)
    (case c5 => k_is)
    (case k5 => k_is)
    (case a6 => k_is)
    (case l6 => k_is)
    (case c6 => k_is)
    (case k6 => k_is)
    (case a7 => k_is)
    (case l7 => k_is)
    (case c7 => k_is)
    (case k7 => k_is)
    (case a8 => k_is)
    (case l8 => k_is)
    (case c8 => k_is)
    (case k8 => k_is)
    (case a9 => k_is)
    (case l9 => k_is)
    (case c9 => k_is)
    (case k9 => k_is)
    (case a10 => k_is)
    (case l10 => k_is)
    (case c10 => k_is)
    (case k10 => k_is)
    (case a11 => k_is)
    (case l11 => k_is)
    (case c11 => k_is)
    (case k11 => k_is)
    (case z_len => k_is)
    (case z_range => k_is)
    (case z_divmod => k_is)
    (case z_max => k_is)
    (case z_min => k_is)
    (case z_sum => k_is)
    (case z_all => k_is)
    (case z_isinstance => k_is)
    (case z_int => k_is)
    (case z_bool => k_is)
    (case z_list => k_is)
    (case z_tuple => k_is)
    (case z_enumerate => k_is)
    (case z_zip => k_is)
    (case z_sorted => k_is)
    (case z_set => k_is)
    (case z_dict => k_is)
    (case z_str => k_is)
    (case z_any => k_is)
    (case z_reversed => k_is)
    (case z_abs => k_is)
